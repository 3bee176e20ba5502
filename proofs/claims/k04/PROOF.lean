import PyProof.Rows.All
import Wide.All
import OpenK.AllK
import Wide.FinOn
import HandS.Conv
import PyProof.ZipIter
import PyProof.CallType
import PyProof.Walk
import PyProof.WalkLemmas
import PyProof.RangeIter
import PyProof.RulesTry
import HandS.RepeatKit
import HandS.DictTup
import HandS.ForMost
import HandS.IsInst
import HandS.TupLe
import HandS.TupAny
import HandS.Wide
import HandS.Deep
import HandS.Flow
import HandS.RaiseMore
import PyProof.ReprReads
import HandS.Small
import KE.GoesMore
import HandS.Style
import HandS.ForExc
import HandS.ExcInit
import HandS.ExcField
import HandS.ExcIs
import KE.KExcIs
import HandS.TupSets
import HandS.Star
import KE.KIndexOf
import HandS.Strs
import HandS.TupMul
import PyProof.StrOps2
import PyProof.StrBlock2
import HandS.List
import HandS.SetFor
import KE.KUnpackStar
import HandS.DictEq
import KE.SortData
import KE.DataMinMax
import HandS.TryMany
import HandS.More
import HandS.SortKw
import HandS.WideBits
import PyProof.FitsBits
import KE.DataCmp
import KE.KMathGC
import HandS.Zip0
import KE.KDictZip
import KE.GoesEnum
import KE.KDictCopyH
import HandS.Text
import HandS.FStr
import HandS.DictComp
import KE.KUnpack
import PySem.Challenge.RW_oddlines_k04_whole_texts_of_webs
set_option Elab.async false
set_option linter.all false
set_option maxRecDepth 100000
section
set_option maxHeartbeats 2000000
/-! itertools.combinations(range(..), 2) -/
namespace CB
open PySem PySem.Spec PyProof.Rows
open Sem (wp)

theorem mro_cb : mroOf (.type "itertools.combinations") = pure [.type "itertools.combinations", .type "object"] := by rw [mroOf_type]; kernel_rfl
theorem lookup_cb_new : typeLookup (.type "itertools.combinations") "__new__" = pure (some (.builtin "itertools.combinations.__new__")) := by rw [typeLookup_type, builtinLookup_eq_fast]; kernel_rfl
theorem slot_cb_init : Slot "itertools.combinations" "__init__" "object.__init__" :=
  .of (owner := "object") (n := "__init__") (by rw [typeLookup_type, builtinLookup_eq_fast]; kernel_rfl) (by decide +kernel) (by decide +kernel) (by decide +kernel)
    (by first | exact .inl (by decide +kernel) | exact .inr (by decide +kernel)) (by rw [isSubtype_type]; kernel_rfl)
theorem sub_cb : isSubtype (.type "itertools.combinations") (.type "itertools.combinations") = pure true := by rw [isSubtype_type]; kernel_rfl
theorem called_cb : TypeCalled "itertools.combinations" "itertools.combinations.__new__" "object.__init__" :=
  ⟨by decide +kernel, by decide +kernel, ⟨_, _, mro_cb⟩, madeBy_type mro_cb lookup_cb_new (by decide +kernel), by decide +kernel, sub_cb, slot_cb_init⟩
theorem typeCall_cb (a b : Value) : checkTypeCall "itertools.combinations" ⟨[a, b], []⟩ = pure () := by kernel_rfl
theorem newCall_cb (a b : Value) : checkBuiltinCall "itertools.combinations.__new__" ⟨[.type "itertools.combinations", a, b], []⟩ = pure () := by kernel_rfl
theorem entry_cb_new : entryFor table "itertools.combinations.__new__" = some Builtin.«itertools.combinations.__new__» := entryFor_of_tree (by kernel_rfl)
theorem slot_cb_iter : Slot "itertools.combinations" "__iter__" "itertools.combinations.__iter__" :=
  .of (owner := "itertools.combinations") (n := "__iter__") (by rw [typeLookup_type, builtinLookup_eq_fast]; kernel_rfl) (by decide +kernel) (by decide +kernel) (by decide +kernel)
    (by first | exact .inl (by decide +kernel) | exact .inr (by decide +kernel)) sub_cb
theorem slot_cb_next : Slot "itertools.combinations" "__next__" "itertools.combinations.__next__" :=
  .of (owner := "itertools.combinations") (n := "__next__") (by rw [typeLookup_type, builtinLookup_eq_fast]; kernel_rfl) (by decide +kernel) (by decide +kernel) (by decide +kernel)
    (by first | exact .inl (by decide +kernel) | exact .inr (by decide +kernel)) sub_cb
theorem entry_cb_iter : entryFor table "itertools.combinations.__iter__" = some Builtin.«dict_keyiterator.__iter__» :=
  entryFor_alias (id' := "dict_keyiterator.__iter__") (by kernel_rfl) (by first | rfl | decide +kernel | (unfold String.splitOn; simp +decide [String.splitOnAux])) (by decide +kernel) (by kernel_rfl)
theorem entry_cb_next : entryFor table "itertools.combinations.__next__" = some Builtin.«itertools.combinations.__next__» := entryFor_of_tree (by kernel_rfl)
theorem owner_cb : Manifest.owners.lookup (String.ofList ['s', 'n', 'o', 'i', 't', 'a', 'n', 'i', 'b', 'm', 'o', 'c', '.', 's', 'l', 'o', 'o', 't', 'r', 'e', 't', 'i'].reverse) = some Manifest.sig_itertools_combinations := by kernel_rfl
theorem args_cb_iter (a : Value) : argsOk "itertools.combinations.__iter__" ⟨[a], []⟩ := by
  unfold argsOk; rw [signature?_of (id := "itertools.combinations.__iter__") (n := ['_', '_', 'r', 'e', 't', 'i', '_', '_']) (o := ['s', 'n', 'o', 'i', 't', 'a', 'n', 'i', 'b', 'm', 'o', 'c', '.', 's', 'l', 'o', 'o', 't', 'r', 'e', 't', 'i']) (by kernel_rfl) owner_cb]; kernel_rfl
theorem args_cb_next (a : Value) : argsOk "itertools.combinations.__next__" ⟨[a], []⟩ := by
  unfold argsOk; rw [signature?_of (id := "itertools.combinations.__next__") (n := ['_', '_', 't', 'x', 'e', 'n', '_', '_']) (o := ['s', 'n', 'o', 'i', 't', 'a', 'n', 'i', 'b', 'm', 'o', 'c', '.', 's', 'l', 'o', 'o', 't', 'r', 'e', 't', 'i']) (by kernel_rfl) owner_cb]; kernel_rfl
theorem noDict_cb : typeHasDict (.type "itertools.combinations") = false := by decide +kernel
theorem nolen_cb : typeLookup (.type "itertools.combinations") "__len__" = pure none := by rw [typeLookup_type, builtinLookup_eq_fast]; kernel_rfl
theorem nohint_cb : typeLookup (.type "itertools.combinations") "__length_hint__" = pure none := by rw [typeLookup_type, builtinLookup_eq_fast]; kernel_rfl

end CB
end
section
set_option maxHeartbeats 2000000
namespace CB
open PySem PySem.Spec PyProof.Rows
open Sem (wp)
/-- what is handed out next: idx, if st is 0; behind it, if st is 1 -/
def CObj (p : Addr) (st : Int) (res : Value) (idx : List Nat) : Obj := { cls := .type "itertools.combinations", dict := none, data := .fields ([.ref p, rawInt st, res] ++ idx.map fun (i : Nat) => rawInt i).toArray, slots := #[] }

theorem new_cb {prog : Program} {w : World} {A : Around} {E : Value → Shared → Prop} {s : Shared} {r : Addr} {a b : Int} {t u v z : Tok} {n : Nat} {Q : Value → Shared → Prop}
    (hh : A.handled = none) (hr : IsRange s.heap r a b 1 t u v) (hsmall : Builtin.Range.small a b 1 = true) (hn : Builtin.Range.rangeSize a b 1 = n) (hlen : n ≤ 64) (h2 : 2 ≤ n)
    (hQ : ∀ (h' : Heap) (tk : Nat) (acc : Array Value), (∀ b o, s.heap.get? b = some o → h'.get? b = some o) → ItemsOf (fun i v => ∃ t, v = .int (a + i * 1) t) acc n →
      Q (.ref (h'.objs.size + 1)) { s with heap := (h'.push { cls := .type "tuple", data := .seq acc }).push (CObj h'.objs.size 0 .none [0, 1]), toks := tk }) :
    wpAny (model prog w) A (Builtin.«itertools.combinations.__new__» ⟨[.type "itertools.combinations", .ref r, .int 2 z], []⟩) (fun fin s' => ∃ v, fin = .done (.ret v) ∧ Q v s') E s := by
  have hsub := sub_cb
  have hd := noDict_cb
  unfold Builtin.«itertools.combinations.__new__»
  wp_walk using L2.collect_range (A := A) hh hr hsmall hn (by omega)
  refine wpAny_of_eq (a := true) (by first | exact hsub | rfl) ?_
  wp_walk using L2.collect_range (A := A) hh hr hsmall hn (by omega)
  intro h' tk acc hk hacc
  have hl : acc.toList.length = n := by rw [Array.length_toList]; exact hacc.1
  show wpAny _ _ (if (2 : Int) < 0 then _ else _) _ _ _
  rw [if_neg (by decide)]
  show wpAny _ _ (if Builtin.Itertools.itTooMany 2 = true then _ else _) _ _ _
  rw [if_neg (by decide)]
  show wpAny _ _ (newTuple acc.toList >>= _) _ _ _
  refine wpAny_bind (wpAny_newTuple ?_ (by rw [hl, sizeLine_eq]; omega))
  refine wpAny_pure ?_
  rw [hl]
  show wpAny _ _ (Builtin.Itertools.itNewRecord (.type "itertools.combinations") ([Value.ref h'.objs.size, rawInt (if 2 > n then 2 else 0), Value.none] ++ List.map (fun (i : Nat) => rawInt i) [0, 1]) >>= _) _ _ _
  rw [if_neg (by omega)]
  unfold Builtin.Itertools.itNewRecord
  rw [hd]
  refine wpAny_bind ?_
  rw [if_pos (by rfl)]
  refine wpAny_newObj_type ?_ (by size_fits)
  refine wpAny_pure ⟨_, rfl, ?_⟩
  have := hQ h' tk acc hk hacc
  · have e : acc.toList.toArray = acc := by simp
    rw [e]
    have e2 : (h'.push { cls := .type "tuple", data := .seq acc }).objs.size = h'.objs.size + 1 := Heap.size_push ..
    rw [e2]
    exact this
end CB
end
section
set_option maxHeartbeats 2000000
namespace CB
open PySem PySem.Spec PyProof.Rows
open Sem (wp)
abbrev PoolAt (h : Heap) (p : Addr) (acc : Array Value) : Prop := h.get? p = some { cls := .type "tuple", dict := none, data := .seq acc, slots := #[] }
abbrev CAt (h : Heap) (it p : Addr) (st : Int) (res : Value) (idx : List Nat) : Prop := h.get? it = some (CObj p st res idx)
section
variable {prog : Program} {w : World} {A : Around} {E : Value → Shared → Prop} {s : Shared} {it p : Addr} {st : Int} {res : Value} {idx : List Nat} {acc : Array Value}
theorem cb_nums {Q : List Nat → Shared → Prop} (hit : CAt s.heap it p st res idx) (h : Q idx s) : wpAny (model prog w) A (Builtin.Itertools.itNumbersFrom (.ref it) 3) Q E s := by
  unfold Builtin.Itertools.itNumbersFrom
  show wpAny _ _ (load it >>= _) _ _ _
  refine wpAny_bind (wpAny_load hit ?_)
  refine wpAny_pure ?_
  have e : (([Value.ref p, rawInt st, res] ++ idx.map fun (i : Nat) => rawInt i).toArray.toList.drop 3) = idx.map fun (i : Nat) => rawInt i := rfl
  rw [e, List.map_map]
  refine (congrArg (fun l => Q l s) ((List.map_congr_left (g := id) fun i _ => ?_).trans (List.map_id idx))).mpr h
  rfl
theorem cb_st {Q : Int → Shared → Prop} (hit : CAt s.heap it p st res idx) (h : Q st s) : wpAny (model prog w) A (Builtin.Itertools.itIntField (.ref it) 1) Q E s := by
  unfold Builtin.Itertools.itIntField
  refine wpAny_bind (wpAny_field hit rfl (x := rawInt st) rfl ?_)
  exact wpAny_pure h
theorem cb_pool {Q : Array Value → Shared → Prop} (hp : PoolAt s.heap p acc) (h : Q acc s) : wpAny (model prog w) A (Builtin.Itertools.itPoolItems (.ref p)) Q E s := by
  unfold Builtin.Itertools.itPoolItems
  refine wpAny_bind (wpAny_seqItems hp rfl ?_)
  exact wpAny_pure h
/-- what stands in the pool at the places -/
def pickV (acc : Array Value) (idx : List Nat) : List Value := idx.map fun i => acc.getD i .none
def tupO (vs : List Value) : Obj := { cls := .type "tuple", dict := none, data := .seq vs.toArray, slots := #[] }
/-- the end that both ways share -/
theorem cb_hand {Q : Value → Shared → Prop} (hit : CAt s.heap it p 1 res idx) (hp : PoolAt s.heap p acc) (hne : p ≠ it) (hl : idx.length ≤ 8)
    (hQ : ∀ h', CAt h' it p 1 (.ref s.heap.objs.size) idx → h'.get? s.heap.objs.size = some (tupO (pickV acc idx)) → (∀ b o, b ≠ it → s.heap.get? b = some o → h'.get? b = some o) → Q (.ref s.heap.objs.size) { s with heap := h' }) :
    wpAny (model prog w) A (do
        let result ← ((Builtin.Itertools.itPoolItems (.ref p)) >>= fun (items : Array Value) => newTuple (idx.map fun i => items.getD i .none))
        let before ← field (Value.ref it) 2
        setField (Value.ref it) 2 result
        letGo [before] [result]
        ret result) (fun fin s' => ∃ v, fin = .done (.ret v) ∧ Q v s') E s := by
  refine wpAny_bind (wpAny_bind (cb_pool hp ?_))
  refine (wpAny_newTuple ?_ (by rw [List.length_map, sizeLine_eq]; omega))
  have hit1 : CAt (s.heap.push (tupO (pickV acc idx))) it p 1 res idx := Heap.get?_push_of_some _ hit
  refine wpAny_bind (wpAny_field hit1 rfl (x := res) rfl ?_)
  refine wpAny_bind (wpAny_setField hit1 rfl (by simp) ?_)
  refine wpAny_bind (wpAny_letGo ?_)
  have hlt : it < s.heap.objs.size := Heap.lt_size hit
  have nw : (s.heap.push (tupO (pickV acc idx))).get? s.heap.objs.size = some (tupO (pickV acc idx)) := Heap.get?_push_size _ rfl
  exact wpAny_pure ⟨_, rfl, hQ _ (Heap.get?_update_self _ hit1 rfl) ((Heap.get?_update_other _ _ (Nat.ne_of_lt hlt)).trans nw) fun b o hb e => (Heap.get?_update_other _ _ (Ne.symm hb)).trans (Heap.get?_push_of_some _ e)⟩
theorem cb_next0 {Q : Value → Shared → Prop} (hit : CAt s.heap it p 0 res idx) (hp : PoolAt s.heap p acc) (hne : p ≠ it) (hl : idx.length ≤ 8)
    (hQ : ∀ h', CAt h' it p 1 (.ref s.heap.objs.size) idx → h'.get? s.heap.objs.size = some (tupO (pickV acc idx)) → (∀ b o, b ≠ it → s.heap.get? b = some o → h'.get? b = some o) → Q (.ref s.heap.objs.size) { s with heap := h' }) :
    wpAny (model prog w) A (Builtin.«itertools.combinations.__next__» ⟨[.ref it], []⟩) (fun fin s' => ∃ v, fin = .done (.ret v) ∧ Q v s') E s := by
  show wpAny _ _ (field (.ref it) 0 >>= _) _ _ s
  refine wpAny_bind (wpAny_field hit rfl (x := .ref p) rfl ?_)
  show wpAny _ _ (Builtin.Itertools.itNumbersFrom (.ref it) 3 >>= _) _ _ _
  refine wpAny_bind (cb_nums hit ?_)
  show wpAny _ _ (Builtin.Itertools.itIntField (.ref it) 1 >>= _) _ _ _
  refine wpAny_bind (cb_st hit ?_)
  show wpAny _ _ (setField (.ref it) 1 (rawInt 1) >>= _) _ _ _
  refine wpAny_bind (wpAny_setField hit rfl (by simp) ?_)
  have hit1 : CAt (s.heap.update it (Obj.mapFields fun x => x.setIfInBounds 1 (rawInt 1))) it p 1 res idx := Heap.get?_update_self _ hit rfl
  have hp1 : PoolAt (s.heap.update it (Obj.mapFields fun x => x.setIfInBounds 1 (rawInt 1))) p acc := (Heap.get?_update_other _ _ (Ne.symm hne)).trans hp
  have sz : (s.heap.update it (Obj.mapFields fun x => x.setIfInBounds 1 (rawInt 1))).objs.size = s.heap.objs.size := Heap.size_update ..
  refine wpAny_mono (show wpAny (model prog w) A _ _ _ _ from cb_hand (Q := Q) hit1 hp1 hne hl fun h' a b c => ?_) (fun _ _ h => h) (fun _ _ h => h)
  dsimp only at a b
  rw [sz] at a b ⊢
  exact hQ h' a b fun b o hb e => c b o hb ((Heap.get?_update_other _ _ (Ne.symm hb)).trans e)
/-- the places of all pairs, in order -/
def placesC (n : Nat) : List (List Nat) := (List.range n).flatMap fun i => ((List.range n).filter fun j => decide (i < j)).map fun j => [i, j]
def nxtC (n : Nat) (i : Nat) : Option (List Nat) := (placesC n)[i + 1]?
theorem cb_next1 {i n : Nat} {Q : Value → Shared → Prop} (hit : CAt s.heap it p 1 res ((placesC n).getD i [])) (hp : PoolAt s.heap p acc) (hne : p ≠ it) (hz : acc.size = n) (hn : n < 13) (hi : i + 1 < (placesC n).length)
    (hQ : ∀ h', CAt h' it p 1 (.ref s.heap.objs.size) ((placesC n).getD (i + 1) []) → h'.get? s.heap.objs.size = some (tupO (pickV acc ((placesC n).getD (i + 1) []))) → (∀ b o, b ≠ it → s.heap.get? b = some o → h'.get? b = some o) → Q (.ref s.heap.objs.size) { s with heap := h' }) :
    wpAny (model prog w) A (Builtin.«itertools.combinations.__next__» ⟨[.ref it], []⟩) (fun fin s' => ∃ v, fin = .done (.ret v) ∧ Q v s') E s := by
  show wpAny _ _ (field (.ref it) 0 >>= _) _ _ s
  refine wpAny_bind (wpAny_field hit rfl (x := .ref p) rfl ?_)
  show wpAny _ _ (Builtin.Itertools.itNumbersFrom (.ref it) 3 >>= _) _ _ _
  refine wpAny_bind (cb_nums hit ?_)
  show wpAny _ _ (Builtin.Itertools.itIntField (.ref it) 1 >>= _) _ _ _
  refine wpAny_bind (cb_st hit ?_)
  show wpAny _ _ (Builtin.Itertools.itPoolItems (.ref p) >>= _) _ _ _
  refine wpAny_bind (cb_pool hp ?_)
  rw [hz]
  have hi2 : i < (placesC n).length - 1 := by omega
  split
  · rename_i next h
    have e : some next = some ((placesC n).getD (i + 1) []) := h.symm.trans (by
      clear hQ hit hp hz h hi next
      revert hi2; revert i; revert hn; revert n
      decide +kernel)
    cases e
    generalize hN : (placesC n).getD (i + 1) [] = N at hQ ⊢
    have hNl : N.length ≤ 8 := by
      rw [← hN]
      clear hQ hit hp hz h hi hN N
      revert hi2; revert i; revert hn; revert n
      decide +kernel
    have hIl : ((placesC n).getD i []).length ≤ 8 := by
      clear hQ hit hp hz h hi hN N hNl
      revert hi2; revert i; revert hn; revert n
      decide +kernel
    unfold Builtin.Itertools.itSetNumbersFrom
    show wpAny _ _ (updateFields it _ >>= _) _ _ _
    refine wpAny_bind (wpAny_updateFields hit rfl ?_ ?_)
    · have hit1 : CAt (s.heap.update it (Obj.mapFields fun fs => fs.extract 0 3 ++ (N.map fun (n : Nat) => rawInt n).toArray)) it p 1 res N := by
        refine (Heap.get?_update_self _ hit rfl).trans ?_
        congr 1
        show Obj.mapFields _ (CObj _ _ _ _) = _
        unfold CObj Obj.mapFields
        simp
      have hp1 : PoolAt (s.heap.update it (Obj.mapFields fun fs => fs.extract 0 3 ++ (N.map fun (n : Nat) => rawInt n).toArray)) p acc := (Heap.get?_update_other _ _ (Ne.symm hne)).trans hp
      have sz : (s.heap.update it (Obj.mapFields fun fs => fs.extract 0 3 ++ (N.map fun (n : Nat) => rawInt n).toArray)).objs.size = s.heap.objs.size := Heap.size_update ..
      refine wpAny_mono (show wpAny (model prog w) A _ _ _ _ from cb_hand (Q := Q) hit1 hp1 hne hNl fun h' a b c => ?_) (fun _ _ h => h) (fun _ _ h => h)
      dsimp only at a b
      rw [sz] at a b ⊢
      exact hQ h' a b fun b o hb e => c b o hb ((Heap.get?_update_other _ _ (Ne.symm hb)).trans e)
    · rw [sizeLine_eq]
      simp
      omega
  · rename_i h
    have e : none = some ((placesC n).getD (i + 1) []) := h.symm.trans (by
      clear hQ hit hp hz h hi
      revert hi2; revert i; revert hn; revert n
      decide +kernel)
    cases e
/-- behind the last one -/
theorem cb_end {i n : Nat} {Q : Value → Shared → Prop} (hh : A.handled = none) (hit : CAt s.heap it p 1 res ((placesC n).getD i [])) (hp : PoolAt s.heap p acc) (hne : p ≠ it) (hz : acc.size = n) (hn : n < 13) (hi : i + 1 = (placesC n).length)
    (hQ : ∀ e h', CpRep.StopE e h' → Heap.ExtBut it s.heap h' → E e { s with heap := h' }) :
    wpAny (model prog w) A (Builtin.«itertools.combinations.__next__» ⟨[.ref it], []⟩) (fun fin s' => ∃ v, fin = .done (.ret v) ∧ Q v s') E s := by
  show wpAny _ _ (field (.ref it) 0 >>= _) _ _ s
  refine wpAny_bind (wpAny_field hit rfl (x := .ref p) rfl ?_)
  show wpAny _ _ (Builtin.Itertools.itNumbersFrom (.ref it) 3 >>= _) _ _ _
  refine wpAny_bind (cb_nums hit ?_)
  show wpAny _ _ (Builtin.Itertools.itIntField (.ref it) 1 >>= _) _ _ _
  refine wpAny_bind (cb_st hit ?_)
  show wpAny _ _ (Builtin.Itertools.itPoolItems (.ref p) >>= _) _ _ _
  refine wpAny_bind (cb_pool hp ?_)
  rw [hz]
  split
  · rename_i next h
    have e : some next = none := h.symm.trans (by
      obtain rfl : i = (placesC n).length - 1 := by omega
      have hn1 : 2 ≤ n := by
        clear hQ hit hp hz h next
        revert hi; revert hn; revert n
        decide +kernel
      clear hQ hit hp hz h hi next
      revert hn1; revert hn; revert n
      decide +kernel)
    cases e
  · rename_i h
    refine wpAny_bind (wpAny_setField hit rfl (by simp) ?_)
    unfold Builtin.Itertools.itStop
    show wpAny _ _ (newExc (.type "StopIteration") [] >>= _) _ _ _
    refine wpAny_bind ?_
    simp only [newExc, newTuple]
    refine wpAny_bind (wpAny_newObj_type ?_ (by size_fits))
    refine wpAny_bind (m := firstArgMember _ _) (wpAny_of_eq (a := Value.none) (by first | rfl | (simp only [firstArgMember]; rfl)) ?_)
    refine wpAny_newObj_type ?_ (by size_fits)
    simp only [raiseNew]
    refine wpAny_bind (wpAny_handled ?_)
    first | rw [show A.in1.handled = none from hh] | rw [hh]
    refine wpAny_bind (wpAny_pure (wpAny_throw ?_))
    refine hQ _ _ ⟨_, _, _, rfl, Heap.get?_push_size _ rfl, rfl, rfl, rfl⟩ ?_
    exact fun b o hb e => Heap.get?_push_of_some _ (Heap.get?_push_of_some _ ((Heap.get?_update_other _ _ (Ne.symm hb)).trans e))
end
end CB
end
section
set_option maxHeartbeats 2000000
/-! list(it) of an iterator that hands out new tuples -/
namespace CB
open PySem PySem.Spec PyProof.Rows
open Sem (wp)
structure Src (prog : Program) (w : World) (A : Around) (T : String) (it : Addr) (n : Nat) (V : Nat → List Value) (fp : List Addr) (St : Nat → Heap → Prop) : Prop where
  mem : it ∈ fp
  frame : ∀ i h h', St i h → (∀ b ∈ fp, ∀ o, h.get? b = some o → h'.get? b = some o) → St i h'
  there : ∀ i h, St i h → ∀ b ∈ fp, b < h.objs.size
  type : ∀ i (s : Shared), St i s.heap → s.TypeIs (.ref it) T
  notList : (Value.type T == Value.type "list") = false
  notTuple : (Value.type T == Value.type "tuple") = false
  nolen : typeLookup (.type T) "__len__" = pure none
  nohint : typeLookup (.type T) "__length_hint__" = pure none
  self : ∀ i (s : Shared) (B : Around) (Q : Value → Shared → Prop) (E : Value → Shared → Prop), St i s.heap → Q (.ref it) s → wpAny (model prog w) B (pyIter (.ref it)) Q E s
  item : ∀ i (s : Shared) (Q : Option Value → Shared → Prop) (E : Value → Shared → Prop), i < n → St i s.heap →
    (∀ h', St (i + 1) h' → h'.get? s.heap.objs.size = some (tupO (V i)) → (∀ b o, b ≠ it → s.heap.get? b = some o → h'.get? b = some o) → Q (some (.ref s.heap.objs.size)) { s with heap := h' }) →
    wpAny (model prog w) A (pyNext (.ref it)) Q E s
  done : ∀ (s : Shared) (Q : Option Value → Shared → Prop) (E : Value → Shared → Prop), St n s.heap → (∀ h', Heap.ExtBut it s.heap h' → Q none { s with heap := h' }) → wpAny (model prog w) A (pyNext (.ref it)) Q E s

structure Got (V : Nat → List Value) (lo : Addr) (h : Heap) (as : List Addr) : Prop where
  rise : as.Pairwise (· < ·)
  above : ∀ a ∈ as, lo < a
  tups : ∀ (j : Nat) (a : Addr), as[j]? = some a → h.get? a = some (tupO (V j))
theorem Got.there {V : Nat → List Value} {lo : Addr} {h : Heap} {as : List Addr} (g : Got V lo h as) {a : Addr} (ha : a ∈ as) : a < h.objs.size := by
  obtain ⟨j, hj⟩ := List.mem_iff_getElem?.mp ha
  exact Heap.lt_size (g.tups j a hj)
section
variable {prog : Program} {w : World} {A : Around} {s : Shared} {R : Result → Shared → Prop} {T : String} {n : Nat} {V : Nat → List Value} {fp : List Addr} {St : Nat → Heap → Prop}
theorem src_loop {S I : Addr} (W : Src prog w A.in1 T I n V fp St) (hSf : S ∉ fp) (hn : n ≤ sizeLine) (res : Value) {h₁ : Heap} {lo : Addr} (hlS : S ≤ lo) (hlI : I ≤ lo)
    (hR : ∀ h' tk acc c as, (∀ b o, b ≠ S → b ≠ I → h₁.get? b = some o → h'.get? b = some o) → h'.get? S = some { cls := .type "list", dict := none, data := .seq acc c, slots := #[] } → as.length = n → Got V lo h' as →
      acc.toList = as.map Value.ref → R (.ok (.ret res)) { s with heap := h', toks := tk }) :
    ∀ (k i : Nat) (h : Heap) (tk c : Nat) (acc : Array Value) (as : List Addr), n - i = k → i ≤ n → St i h → (∀ b o, b ≠ S → b ≠ I → h₁.get? b = some o → h.get? b = some o) →
      h.get? S = some { cls := .type "list", dict := none, data := .seq acc c, slots := #[] } → acc.toList = as.map Value.ref → as.length = i → Got V lo h as → lo < h.objs.size →
      codeAny (model prog w) A (.builtin "list.extend.loop" ⟨[.ref S, .ref I, res], []⟩) R { s with heap := h, toks := tk } := by
  have hne : S ≠ I := fun e => hSf (e ▸ W.mem)
  intro k
  induction k with
  | zero =>
    intro i h tk c acc as hk hi hst hkeep hS hacc hal hG hIs
    have hin : i = n := by omega
    subst hin
    refine codeAny_builtin PySem.F.entry_extend_loop ?_
    rw [Around.under_plainId PySem.F.plain_extend_loop _]
    show wpAny _ A.in1 (pyNext (.ref I) >>= _) _ _ _
    refine wpAny_bind (W.done { s with heap := h, toks := tk } _ _ hst fun h' he => ?_)
    refine wpAny_pure (hR h' tk acc c as (fun b o h1 h2 e => he b o h2 (hkeep b o h1 h2 e)) (he S _ hne hS) hal ⟨hG.rise, hG.above, fun j a hj => ?_⟩ hacc)
    exact he a _ (Nat.ne_of_gt (Nat.lt_of_le_of_lt hlI (hG.above a (List.mem_of_getElem? hj)))) (hG.tups j a hj)
  | succ k ih =>
    intro i h tk c acc as hk hi hst hkeep hS hacc hal hG hIs
    have hlt : i < n := by omega
    have hsz : acc.size = i := by rw [← Array.length_toList, hacc, List.length_map, hal]
    refine codeAny_builtin PySem.F.entry_extend_loop ?_
    rw [Around.under_plainId PySem.F.plain_extend_loop _]
    show wpAny _ A.in1 (pyNext (.ref I) >>= _) _ _ _
    refine wpAny_bind (W.item i { s with heap := h, toks := tk } _ _ hlt hst fun h' hst' ht hkp => ?_)
    dsimp only at ht hkp ⊢
    have hS' := hkp S _ hne hS
    have up : ∀ b o, b ≠ S → h'.get? b = some o → (h'.update S (Obj.mapSeq (·.push (Value.ref h.objs.size)))).get? b = some o := fun b o hb e => (Heap.get?_update_other _ _ (Ne.symm hb)).trans e
    have hSl : S < h.objs.size := Heap.lt_size hS
    show wpAny _ A.in1 (updateSeq S (·.push (Value.ref h.objs.size)) >>= _) _ _ _
    refine wpAny_bind ?_
    refine wpAny_updateSeq hS' rfl (wpAny_pure ⟨plainId_quiet PySem.F.plain_extend_loop _, ih (i + 1) _ tk _ (acc.push (Value.ref h.objs.size)) (as ++ [h.objs.size]) (by omega) hlt (W.frame _ _ _ hst' fun b hb o e => up b o (fun z => hSf (z ▸ hb)) e)
      (fun b o h1 h2 e => up b o h1 (hkp b o h2 (hkeep b o h1 h2 e))) (Heap.get?_update_self _ hS' rfl) (by rw [Array.toList_push, hacc, List.map_append]; rfl) (by rw [List.length_append, hal]; rfl) ⟨?_, ?_, ?_⟩ ?_⟩) (by rw [hsz]; omega) (by show (acc.push (Value.ref h.objs.size)).size ≤ sizeLine + 1; rw [Array.size_push, hsz]; omega)
    · refine List.pairwise_append.mpr ⟨hG.rise, List.pairwise_singleton _ _, fun a ha b hb => ?_⟩
      rw [List.mem_singleton.mp hb]
      exact hG.there ha
    · intro a ha
      rcases List.mem_append.mp ha with ha | ha
      · exact hG.above a ha
      · rw [List.mem_singleton.mp ha]; exact hIs
    · intro j b hj
      rcases Nat.lt_trichotomy j as.length with h1 | h1 | h1
      · rw [List.getElem?_append_left h1] at hj
        have hb := hG.above b (List.mem_of_getElem? hj)
        exact up b _ (Nat.ne_of_gt (Nat.lt_of_le_of_lt hlS hb)) (hkp b _ (Nat.ne_of_gt (Nat.lt_of_le_of_lt hlI hb)) (hG.tups j b hj))
      · subst h1
        have hb : h.objs.size = b := by simpa using hj
        subst hb
        rw [hal]
        exact up _ _ (Nat.ne_of_gt hSl) ht
      · have hnone : (as ++ [h.objs.size])[j]? = none := List.getElem?_eq_none (by rw [List.length_append, List.length_singleton]; omega)
        rw [hnone] at hj; cases hj
    · have e : (h'.update S (Obj.mapSeq (·.push (Value.ref h.objs.size)))).get? h.objs.size = _ := up _ _ (Nat.ne_of_gt hSl) ht
      exact Nat.lt_trans hIs (Heap.lt_size e)
end
section
variable {prog : Program} {w : World} {A : Around} {E : Value → Shared → Prop} {s : Shared} {T : String} {r : Addr} {n : Nat} {V : Nat → List Value} {fp : List Addr} {St : Nat → Heap → Prop}
theorem src_extend {R : Result → Shared → Prop} (W : Src prog w A.in1 T r n V fp St) (hst : St 0 s.heap) (S : Addr) (hSf : S ∉ fp) (res : Value) (c₀ : Nat) (hS : s.heap.get? S = some { cls := .type "list", data := .seq #[] c₀ }) (hlI : r ≤ S)
    (hR : ∀ h' tk acc c as, (∀ b o, b ≠ S → b ≠ r → s.heap.get? b = some o → h'.get? b = some o) → h'.get? S = some { cls := .type "list", dict := none, data := .seq acc c, slots := #[] } → as.length = n → Got V S h' as →
      acc.toList = as.map Value.ref → R (.ok (.ret res)) { s with heap := h', toks := tk }) (hn : n ≤ sizeLine) :
    wpAny (model prog w) A.in1 (Builtin.List.listExtendWith (.ref S) (.ref r) res)
      (fun fin s' => match fin with | .done f => R (.ok f) s' | .again c' => c'.quiet = true ∧ codeAny (model prog w) A c' R s') (fun e s' => R (.error e) s') s := by
  have hSr : S ≠ r := fun e => hSf (e ▸ W.mem)
  have key : ∀ (h : Heap) (c₁ tk : Nat), (∀ b o, b ≠ S → s.heap.get? b = some o → h.get? b = some o) →
      h.get? S = some { cls := .type "list", data := .seq #[] c₁ } → codeAny (model prog w) A (.builtin "list.extend.loop" ⟨[.ref S, .ref r, res], []⟩) R { s with heap := h, toks := tk } := by
    intro h c₁ tk hk hS₁
    refine src_loop (s := s) (h₁ := s.heap) W hSf hn res (Nat.le_refl S) hlI (fun h' tk' acc c as hk' hS' hl hG hacc => hR h' tk' acc c as hk' hS' hl hG hacc)
      n 0 h tk c₁ #[] [] (Nat.sub_zero _) (Nat.zero_le _) (W.frame _ _ h hst fun b hb o e => hk b o (fun z => hSf (z ▸ hb)) e) (fun b o hb _ e => hk b o hb e) hS₁ rfl rfl
      ⟨List.Pairwise.nil, (fun _ ha => nomatch ha), (fun j a hj => by simp at hj)⟩ (Heap.lt_size hS₁)
  unfold Builtin.List.listExtendWith
  refine wpAny_bind (wpAny_typeOf (T := T) (W.type 0 s hst) ?_)
  have h1 : Builtin.List.listSameRef (.ref S) (.ref r) = false := by simp [Builtin.List.listSameRef, hSr]
  have h2 := W.notList
  have h3 := W.notTuple
  simp only [h1, h2, h3, Bool.or_false, Bool.false_eq_true, if_false]
  refine wpAny_bind (W.self 0 s _ _ _ hst ?_)
  refine wpAny_bind (wpAny_holding ?_)
  unfold Builtin.List.listLengthHint
  refine wpAny_bind (wpAny_specialOf (W.type 0 s hst) W.nolen ?_)
  show wpAny _ A.in1 (specialOf (Value.ref r) (Str.ofString "__length_hint__") >>= _) _ _ _
  refine wpAny_bind (wpAny_specialOf (W.type 0 s hst) W.nohint ?_)
  refine wpAny_pure ?_
  show wpAny _ A.in1 (rule "list.extend.makes-room" >>= fun _ => Builtin.List.listTouch (.ref S) >>= fun _ =>
    again (.builtin "list.extend.loop" ⟨[.ref S, .ref r, res], []⟩)) _ _ _
  refine wpAny_bind (wpAny_rule ?_)
  refine wpAny_bind ?_
  show wpAny _ _ (updateSeq S (·.push .none) >>= fun _ => updateSeq S (·.pop)) _ _ _
  refine wpAny_bind (wpAny_updateSeq hS rfl ?_)
  have hS₂ := Heap.get?_update_self (Obj.mapSeq (·.push Value.none)) hS rfl
  refine wpAny_updateSeq (hz := by seq_fits) hS₂ rfl ?_
  have hS₃ := Heap.get?_update_self (Obj.mapSeq (·.pop)) hS₂ rfl
  refine wpAny_pure ⟨plainId_quiet PySem.F.plain_extend_loop _, key _ _ _ (fun b o hb e => ?_) hS₃⟩
  exact (Heap.get?_update_other _ _ (Ne.symm hb)).trans ((Heap.get?_update_other _ _ (Ne.symm hb)).trans e)
theorem src_call {Q : Value → Shared → Prop} (W : Src prog w A.in1.in1 T r n V fp St) (hst : St 0 s.heap) (hn : n ≤ sizeLine)
    (hQ : ∀ h' tk acc c as, (∀ b o, b ≠ r → s.heap.get? b = some o → h'.get? b = some o) → h'.get? s.heap.objs.size = some { cls := .type "list", dict := none, data := .seq acc c, slots := #[] } → as.length = n → Got V s.heap.objs.size h' as →
      acc.toList = as.map Value.ref → Q (.ref s.heap.objs.size) { s with heap := h', toks := tk }) :
    wpAny (model prog w) A (call (.type "list") [.ref r]) Q E s := by
  refine callType_codes (Q₁ := fun obj s₁ => obj = .ref s.heap.objs.size ∧ s₁ = { s with heap := s.heap.push { cls := .type "list", data := .seq #[] } }) PySem.F.called_list (PySem.F.typeCall_list_1 _) PySem.F.entry_list_init
    (code_list_new _ ⟨rfl, rfl⟩) fun obj s₁ h₁ => ?_
  obtain ⟨rfl, rfl⟩ := h₁
  have hS : (s.heap.push { cls := .type "list", data := .seq #[] }).get? s.heap.objs.size = some { cls := .type "list", data := .seq #[] } := Heap.get?_push_size _ rfl
  have hr : r < s.heap.objs.size := W.there 0 _ hst r W.mem
  have hSf : s.heap.objs.size ∉ fp := fun z => Nat.lt_irrefl _ (W.there 0 _ hst _ z)
  refine ⟨⟨_, hS, rfl⟩, PySem.F.args_list_init_2 _ _, ?_⟩
  show wpAny _ _ (do let old ← Builtin.List.listItems (.ref s.heap.objs.size); Builtin.List.listUpdate (.ref s.heap.objs.size) (fun _ => #[]); letGo old.toList.reverse; Builtin.List.listExtendWith (.ref s.heap.objs.size) (.ref r) .none) _ _ _
  refine wpAny_bind ?_
  unfold Builtin.List.listItems
  refine wpAny_bind (wpAny_seqItems hS rfl (wpAny_pure ?_))
  show wpAny _ _ (updateSeq s.heap.objs.size (fun _ => #[]) >>= fun _ => letGo (#[] : Array Value).toList.reverse >>= fun _ => Builtin.List.listExtendWith (.ref s.heap.objs.size) (.ref r) .none) _ _ _
  refine wpAny_bind (wpAny_updateSeq hS rfl ?_)
  have hS₂ := Heap.get?_update_self (Obj.mapSeq (fun _ => (#[] : Array Value))) hS rfl
  have oth : ∀ b o, b ≠ s.heap.objs.size → (s.heap.push { cls := .type "list", data := .seq #[] }).get? b = some o → ((s.heap.push { cls := .type "list", data := .seq #[] }).update s.heap.objs.size (Obj.mapSeq (fun _ => (#[] : Array Value)))).get? b = some o :=
    fun b o hb e => (Heap.get?_update_other _ _ (Ne.symm hb)).trans e
  refine wpAny_bind (wpAny_letGo ?_)
  refine src_extend (A := A.in1) W (W.frame _ _ _ hst fun b hb o e => oth b o (fun z => hSf (z ▸ hb)) (Heap.get?_push_of_some _ e)) _ hSf .none _ hS₂ (Nat.le_of_lt hr) (fun h' tk acc c as hk hS' hl hG hacc => ?_) hn
  refine ⟨rfl, hQ h' tk acc c as (fun b o hb e => hk b o (Nat.ne_of_lt (Heap.lt_size e)) hb (oth b o (Nat.ne_of_lt (Heap.lt_size e)) (Heap.get?_push_of_some _ e))) hS' hl hG hacc⟩
end
end CB
end
section
/-! the calls of defs where it is known that no repr is under way -/
namespace DL
open PySem PySem.Spec PyProof.Rows L2

/-- room for k calls; no repr is under way -/
structure RoomG (k : Nat) (A : Around) : Prop where
  rm : Room k A
  gd : A.guards = some []
theorem RoomG.mono {j k : Nat} {A : Around} (r : RoomG k A) (h : j ≤ k) : RoomG j A := ⟨r.rm.mono h, r.gd⟩
theorem RoomG.deeper {k : Nat} {A : Around} (r : RoomG (k + 1) A) (env : Env) : RoomG k (A.deeper env) := ⟨r.rm.deeper env, r.gd⟩

structure FnG (P : Program) (w : World) (K : PySem.W.Frag) (mg : Str → Option Value) (base : Heap)
    (CX : CXT) (k : Nat) (f : Addr) (fd : FuncData) (ps : List Str) (sp : Sp) : Prop where
  len : ∀ vs H Q E, sp vs H Q E → vs.length = ps.length
  run : ∀ (A : Around) (outer : List Env) (s : Shared) (H : Hp) (args : Args) (us : List Value)
    (vs : List V) (Q : VK) (E : XK), RoomG k A → Env0 P w K mg base A outer s H →
    BindsTo s fd args (ps.zip us) → Vals vs us → sp vs H Q E →
    codeAny (model P w) A (.call (.ref f) args) (CR CX outer P w H s Q E) s

section
variable {P : Program} {w : World} {K : PySem.W.Frag} {mg : Str → Option Value} {base : Heap} {CX : CXT}
  {k : Nat} {f : Addr} {fd : FuncData} {ps : List Str} {sp sp' : Sp}
theorem FnG.mono {j : Nat} (F : FnG P w K mg base CX j f fd ps sp) (h : j ≤ k) : FnG P w K mg base CX k f fd ps sp :=
  ⟨F.len, fun A o s H a us vs Q E hr => F.run A o s H a us vs Q E (hr.mono h)⟩
theorem FnG.imp (F : FnG P w K mg base CX k f fd ps sp) (h : ∀ vs H Q E, sp' vs H Q E → sp vs H Q E) :
    FnG P w K mg base CX k f fd ps sp' :=
  ⟨fun vs H Q E q => F.len vs H Q E (h _ _ _ _ q),
   fun A o s H a us vs Q E hr e b v q => F.run A o s H a us vs Q E hr e b v (h _ _ _ _ q)⟩

/-- a def by its body -/
theorem fn_ofG {name qual : Str} {params : Arguments} {body : List Stmt} {scope : Scope}
    {dV kV doc pm cdv ct oc : Value} {an od : Option Addr} {osl : Array (Option Value)} {N : List Str}
    (lk : K.lookup f = some ⟨oc, od, .func (PySem.W.fnOf name qual params body scope dV kV doc pm an cdv ct), osl⟩)
    (hcd : PySem.W.codeIn K cdv qual = true) (S : FnScope N ps scope)
    (len : ∀ vs H Q E, sp vs H Q E → vs.length = ps.length)
    (hb : ∀ (A : Around) (outer : List Env) (s : Shared) (H : Hp) (vs : List V) (Q : VK) (E : XK),
      RoomG k (A.deeper (envOfC qual scope s.heap.objs.size f cdv)) → sp vs H Q E →
      ∃ t, PSs (cxOf CX P w K mg base N qual scope f cdv A outer s H E) body t ∧
        t { nx := fun _ H' => Q .non H', rt := Q } (start N vs) H) :
    FnG P w K mg base CX (k + 1) f (PySem.W.fnOf name qual params body scope dV kV doc pm an cdv ct) ps sp := by
  refine ⟨len, ?_⟩
  intro A outer s H args us vs Q E hr e0 hbd r hsp
  have keepB : ∀ b o, base.get? b = some o → s.heap.get? b = some o := fun b o e => (e0.bs b o e).1
  have kinds : ∀ y ∈ ps.zip us, scope.names.lookup y.1 = some .local ∨
      (scope.names.lookup y.1 = some .cell ∧
        ((cellsFrom (s.heap.objs.size + 1) scope.names []).lookup y.1).isSome = true) := by
    rintro ⟨n, v⟩ hy
    have hn := (List.of_mem_zip hy).1
    cases S.par n hn with
    | inl q => exact .inl q
    | inr q => exact .inr ⟨q, PySem.W.cellsFrom_some _ _ _ (.inl q)⟩
  refine codeAny_call_function hr.rm.depth ((e0.mod.kin.keeps keepB) _ _ lk) rfl S.co S.gen rfl
    (PySem.W.codeRec_of (e0.mod.kin.keeps keepB) hcd) (hbd _ _ _ _ ?_)
  refine wpAny_newFunctionEnv_cells S.kind kinds ?_
  rintro env rfl s1 x
  refine ⟨(e0.mod.nolimit.keeps keepB).keeps x.toInCall.keep, codeAny_func ?_⟩
  obtain ⟨t, ht, hq⟩ := hb A outer s H vs Q E (hr.deeper _) hsp
  have I := inv_start (CX := CX) (E := E) S hr.rm.hd e0 (len _ _ _ _ hsp) r x
  have back : ∀ {s' : Shared} {σ' : L2.St} {H' : Hp} {v : V} {u : Value},
      Inv (cxOf CX P w K mg base N qual scope f cdv A outer s H E) [] σ' H' s' → RelV v u → Q v H' →
      CE outer P w H s Q u s' := fun J rv q => ⟨_, _, J.os, J.bare, J.base, J.hok, rv, q⟩
  refine wpAny_mono (ht.run [] s1 (start N vs) H _ I hq) ?_ (fun _ _ hs => hs)
  intro fl s' hs
  cases fl with
  | next => exact let ⟨_, _, J, q⟩ := hs; back (v := V.non) J rfl q
  | ret u => exact let ⟨_, _, _, J, rv, q⟩ := hs; back J rv q
  | brk => exact let ⟨_, _, _, q⟩ := hs; False.elim q
  | cont => exact let ⟨_, _, _, q⟩ := hs; False.elim q
theorem Fun.okG {x qual : Str} {st : Stmt} {N : List Str} (F : Fun K x qual st f fd) (S : FnScope N ps (defScope st))
    (len : ∀ vs H Q E, sp vs H Q E → vs.length = ps.length)
    (hb : ∀ (cdv : Value) (A : Around) (outer : List Env) (s : Shared) (H : Hp) (vs : List V) (Q : VK) (E : XK),
      RoomG k (A.deeper (envOfC qual (defScope st) s.heap.objs.size f cdv)) → sp vs H Q E →
      ∃ t, PSs (cxOf CX P w K mg base N qual (defScope st) f cdv A outer s H E) (defBody st) t ∧
        t { nx := fun _ H' => Q .non H', rt := Q } (start N vs) H) : FnG P w K mg base CX (k + 1) f fd ps sp := by
  obtain ⟨oc, od, kV, doc, pm, an, cdv, ct, osl, rfl, lk, hcd⟩ := F.ex
  exact fn_ofG lk hcd S len (hb cdv)
end

section
variable {X : Cx} {CX : CXT} {k : Nat} {f : Addr} {fd : FuncData} {ps ks : List Str} {sp : Sp} {dvs : List V} {ds : List Value}
  {E : XK} {x : Str} {p pos : Pos} {e : Expr} {es : List Expr} {kws : List Keyword} {t tk : TA}
  {g : List Value → List Value → List Value} {gV : List V → List V → List V}
theorem run_G {pins : List (Addr × Obj)} {σ : L2.St} {H : Hp} {s : Shared} {Q : VK} {us : List Value} {args : Args} {vs : List V}
    (F : FnG X.prog X.w X.K X.mg X.base CX k f fd ps sp) (hr : RoomG k X.A) (hx : Passes CX X E)
    (I : Inv X pins σ H s) (hb : BindsTo s fd args (ps.zip us)) (r : Vals vs us) (h : sp vs H Q E) :
    wpAny (model X.prog X.w) X.A (call (.ref f) args.pos args.kw) (EP X pins σ Q) X.xe s := by
  refine wpAny_call (codeAny_mono (F.run X.A X.stack s H args us vs Q E hr I.env0 hb r h) ?_)
  intro r s' hq
  match r, hq with
  | .error e, hq => exact hx pins σ H s e s' I hq
  | .ok (.ret u), hq => exact I.after hq
theorem pe_callG (F : FnG X.prog X.w X.K X.mg X.base CX k f fd ps sp) (hr : RoomG k X.A) (hg : Gl X x) (hm : X.mg x = some (.ref f))
    (hk : PySem.W.keepIn X.K (.ref f) = true) (hb : Binds X.K fd ps ds) (hd : Vals dvs ds) (hx : Passes CX X E) (ha : PA X (e :: es) t)
    (hdb : (x == ("__debug__" : Str)) = false := by decide)
    (he : starEach (e :: es) X.env = (false, eval e X.env) :: starEach es X.env := by rfl)
    (hpl : (backTo pos (starEach es X.env)).any (·.1) = false := by rfl) :
    PE X (.Call (.Name x p) (e :: es) [] pos) (tCall sp dvs E t) := by
  constructor
  intro pins s σ H Q I h
  refine wpAny_Call_Name_kw (ld_glob I hg hm ?_ hdb)
  refine PySem.W.callWith_K (h₀ := X.base) I.ok.mod.kin hk (thn (ha.run pos pins s σ H _ I h) ?_) he hpl
  rintro us s1 ⟨vs, H1, I1, r, q⟩
  have r2 := r.append hd
  have hl : (us ++ ds).length = ps.length := r2.length.symm.trans (F.len _ _ _ _ q)
  exact ⟨I1.kIn, run_G (args := ⟨us, []⟩) F hr hx I1 (hb _ us I1.kIn hl) r2 q⟩
theorem pe_call0G (F : FnG X.prog X.w X.K X.mg X.base CX k f fd ps sp) (hr : RoomG k X.A) (hg : Gl X x) (hm : X.mg x = some (.ref f))
    (hk : PySem.W.keepIn X.K (.ref f) = true) (hb : Binds X.K fd ps ds) (hd : Vals dvs ds) (hx : Passes CX X E)
    (hdb : (x == ("__debug__" : Str)) = false := by decide) :
    PE X (.Call (.Name x p) [] [] pos) (tCall sp dvs E tNil) := by
  constructor
  intro pins s σ H Q I h
  refine wpAny_Call_Name_kw (ld_glob I hg hm ?_ hdb)
  have r2 : Vals ([] ++ dvs) ([] ++ ds) := hd
  have hl : (([] : List Value) ++ ds).length = ps.length := r2.length.symm.trans (F.len _ _ _ _ h)
  exact PySem.W.callWith_K0 I.kIn hk (run_G (args := ⟨[], []⟩) F hr hx I (hb _ [] I.kIn hl) r2 h)
/-- positional arguments and keywords -/
theorem pe_callKG (F : FnG X.prog X.w X.K X.mg X.base CX k f fd ps sp) (hr : RoomG k X.A) (hg : Gl X x) (hm : X.mg x = some (.ref f))
    (hk : PySem.W.keepIn X.K (.ref f) = true) (hb : KBinds X.K fd ps ks g gV) (hx : Passes CX X E) (ha : PA X (e :: es) t) (hkw : PK X kws tk)
    (hall : (backToKw pos (keywordEach kws X.env)).all (·.1.isSome) = true := by rfl)
    (hks : (backToKw pos (keywordEach kws X.env)).filterMap (·.1) = ks := by rfl)
    (hdb : (x == ("__debug__" : Str)) = false := by decide)
    (he : starEach (e :: es) X.env = (false, eval e X.env) :: starEach es X.env := by rfl)
    (hpl : ((backTo pos (starEach (e :: es) X.env)).any (·.1) || (backToKw pos (keywordEach kws X.env)).any (·.1.isNone)) = false := by rfl) :
    PE X (.Call (.Name x p) (e :: es) kws pos) (tCallK sp gV E t tk) := by
  constructor
  intro pins s σ H Q I h
  refine wpAny_Call_Name_kw (ld_glob I hg hm ?_ hdb)
  refine PySem.W.callWith_KW (h₀ := X.base) I.ok.mod.kin hk hall (thn (ha.run pos pins s σ H _ I h) ?_) hpl he
  rintro us s1 ⟨vs, H1, I1, r, q⟩
  refine thn (hkw.run pos pins s1 σ H1 _ I1 q) ?_
  rintro ws s2 ⟨zs, H2, I2, rz, q2⟩
  refine ⟨I2.kIn, ?_⟩
  rw [hks]
  have r2 := hb.rel r rz
  exact run_G (args := ⟨us, ks.zip ws⟩) F hr hx I2 (hb.to _ us ws I2.kIn (r2.length.symm.trans (F.len _ _ _ _ q2))) r2 q2
/-- keywords alone -/
theorem pe_callK0G (F : FnG X.prog X.w X.K X.mg X.base CX k f fd ps sp) (hr : RoomG k X.A) (hg : Gl X x) (hm : X.mg x = some (.ref f))
    (hk : PySem.W.keepIn X.K (.ref f) = true) (hb : KBinds X.K fd ps ks g gV) (hx : Passes CX X E) (hkw : PK X kws tk)
    (hall : (backToKw pos (keywordEach kws X.env)).all (·.1.isSome) = true := by rfl)
    (hks : (backToKw pos (keywordEach kws X.env)).filterMap (·.1) = ks := by rfl)
    (hdb : (x == ("__debug__" : Str)) = false := by decide)
    (hpl : ((backTo pos (starEach [] X.env)).any (·.1) || (backToKw pos (keywordEach kws X.env)).any (·.1.isNone)) = false := by rfl) :
    PE X (.Call (.Name x p) [] kws pos) (tCallK sp gV E tNil tk) := by
  constructor
  intro pins s σ H Q I h
  refine wpAny_Call_Name_kw (ld_glob I hg hm ?_ hdb)
  refine PySem.W.callWith_KW0 (h₀ := X.base) I.ok.mod.kin hk hall (thn (hkw.run pos pins s σ H _ I h) ?_) hpl
  rintro ws s2 ⟨zs, H2, I2, rz, q2⟩
  refine ⟨I2.kIn, ?_⟩
  rw [hks]
  have r2 := hb.rel (vs := []) (us := []) .nil rz
  exact run_G (args := ⟨[], ks.zip ws⟩) F hr hx I2 (hb.to _ [] ws I2.kIn (r2.length.symm.trans (F.len _ _ _ _ q2))) r2 q2
end
end DL

namespace DL
open PySem PySem.Spec PyProof.Rows L2
/-- a list that is read: told of in the heap, or written out by K -/
def SqM (K : PySem.W.Frag) (H : Hp) (a : Addr) (xs : List V) : Prop :=
  Rd H a (.lst xs) ∨ ∃ (its : Array Value) (n : Nat), K.lookup a = some { cls := .type "list", data := .seq its n } ∧ its.size ≤ sizeLine ∧ Vals xs its.toList
theorem SqM.l {K : PySem.W.Frag} {H : Hp} {a : Addr} {xs : List V} (h : SqM K H a xs) : SqL K H a xs :=
  h.elim .inl fun ⟨its, n, hk, hz, r⟩ => .inr ⟨_, its, n, hk, rfl, rfl, rfl, hz, r⟩
/-- an abstract heap in which the script alone may be tracked -/
theorem scriptHp {P : Program} {w : World} {K : PySem.W.Frag} {h : Heap} {a : Addr} {vs : List Value} {ns : List Int}
    (KX : K.In h) (ha : h.get? a = some { cls := .type "list", data := .seq vs.toArray }) (hi : IntsAre vs ns) (hl : ns.length ≤ sizeLine) :
    ∃ H : Hp, Only H ∧ SqM K H a (ns.map V.int) ∧ HOk P w H h ∧ (∀ b, H b ≠ none → b = a) ∧ (H a ≠ none → K.lookup a = none) := by
  have rv := vals_ints hi
  cases e : K.lookup a with
  | some o =>
    have e2 := (KX a o e).symm.trans ha
    cases e2
    refine ⟨fun _ => none, fun _ => .inl rfl, .inr ⟨vs.toArray, _, e, ?_, by simpa using rv⟩, fun _ _ z => (nomatch z), fun _ z => absurd rfl z, fun z => absurd rfl z⟩
    rw [List.size_toArray, hi.length]
    exact hl
  | none =>
    let ob : Obj := { cls := .type "list", data := .seq vs.toArray }
    let H : Hp := fun b => if b = a then some (.frz ob (.lst (ns.map V.int))) else none
    have at_ : ∀ b, b ≠ a → H b = none := fun b n => if_neg n
    have self : H a = some (.frz ob (.lst (ns.map V.int))) := if_pos rfl
    refine ⟨H, fun b => ?_, .inl (.inr ⟨ob, self⟩), fun b u z => ?_, fun b z => ?_, fun _ => rfl⟩
    · exact (Decidable.em (b = a)).elim (fun q => .inr ⟨ob, _, q ▸ self⟩) (fun q => .inl (at_ b q))
    · have q : b = a := Decidable.byContradiction fun n => by rw [at_ b n] at z; cases z
      subst q
      rw [self] at z
      cases z
      exact ⟨ha, by rw [List.length_map]; exact hl, vs, _, rv, ha⟩
    · exact Decidable.byContradiction fun n => z (at_ b n)
/-- the law's call at the end of the top -/
theorem lawG {P : Program} {w : World} {K : PySem.W.Frag} {mg mb : Str → Option Value} {k : Nat} {fa a : Addr} {fd : FuncData} {x : Str} {sp : Sp} {s1 : Shared} {vs : List Value} {ns : List Int}
    (KX : K.In s1.heap) (hns : s1.heap.Ns mainGlobals mg) (hb : s1.heap.Ns builtinsNs mb) (hbb : ∀ x : Str, x ≠ "__name__" → mb x = bootBuiltins x) (hlim : s1.heap.NoLimit) (hg : s1.gens = #[])
    (ha : s1.heap.get? a = some { cls := .type "list", data := .seq vs.toArray }) (hi : IntsAre vs ns) (hl : ns.length ≤ sizeLine) (hr : RoomG k callerA)
    (F : ∀ base : Heap, K.In base → base.Ns mainGlobals mg → FnG P w K mg base CX0 k fa fd [x] sp)
    (hbind : ∀ (s : Shared) (u : Value), BindsTo s fd ⟨[u], []⟩ [(x, u)])
    (hsp : ∀ H : Hp, Only H → SqM K H a (ns.map V.int) → sp [.ref a] H (fun v _ => v = .bl true) fun _ _ _ => False) :
    codeAny (model P w) callerA (.call (.ref fa) ⟨[.ref a], []⟩)
      (fun r s' => r = .ok (.ret (.bool true)) ∧ PySem.OldK s1.heap s'.heap ∧ s'.os = s1.os ∧ AllBare s'.gens) s1 := by
  obtain ⟨H, hO, hS, hok, hA, hK⟩ := scriptHp (P := P) (w := w) KX ha hi hl
  have only : ∀ {b : Addr} {o : Obj}, s1.heap.get? b = some o → (H b ≠ none → o ≠ { cls := .type "list", data := .seq vs.toArray }) → H b = none := by
    intro b o e d
    cases q : H b with
    | none => rfl
    | some u =>
      have hb' := hA b (by rw [q]; simp)
      subst hb'
      exact absurd (Option.some.inj (e.symm.trans ha)) (d (by rw [q]; simp))
  have ns' : ∀ {b : Addr} {m : Str → Option Value}, s1.heap.Ns b m → (hidT s1.heap H).Ns b m := by
    rintro b m ⟨o, es, ep, e, d, r⟩
    refine ⟨o, es, ep, hidT_get e (only e fun _ z => ?_), d, r⟩
    rw [z] at d
    cases d
  have KB : K.In (hidT s1.heap H) := by
    intro b o e
    refine hidT_get (KX b o e) ?_
    cases q : H b with
    | none => rfl
    | some u =>
      have hb' := hA b (by rw [q]; simp)
      subst hb'
      rw [hK (by rw [q]; simp)] at e
      cases e
  obtain ⟨mc, l1, l2⟩ := hlim
  have M : Mod K mg (hidT s1.heap H) := ⟨KB, ns' hns, ⟨mb, ns' hb, hbb⟩, mc, ns' l1, l2⟩
  have e0 : Env0 P w K mg (hidT s1.heap H) callerA [] s1 H :=
    { frames := rfl, mod := M, bs := fun b o e => of_hidT e, bsz := Nat.le_of_eq (hidT_size _ _), funs := trivial,
      frf := fun b hb => absurd (show b ∈ ([] : List Addr) from hb) (by simp), hok := hok, bare := .of_eq hg }
  have run := (F _ KB (ns' hns)).run callerA [] s1 H ⟨[.ref a], []⟩ [.ref a] [.ref a] _ _ hr e0 (hbind s1 _) (.cons rfl .nil) (hsp H hO hS)
  refine codeAny_mono run ?_
  intro r s' h
  match r, h with
  | .error e, h => exact False.elim h
  | .ok (.ret u), ⟨v, H', os, bare, un, hok', r', q⟩ =>
    obtain rfl : v = .bl true := q
    obtain rfl : u = Value.bool true := r'
    refine ⟨rfl, PySem.OldK.of_keep fun b o e => ?_, os, bare⟩
    cases q : H b with
    | none => exact un.keep b o e q (fun z => nomatch z) (fun z => nomatch z)
    | some u =>
      cases hO b with
      | inl z => rw [q] at z; cases z
      | inr z =>
        obtain ⟨ob, xs, z⟩ := z
        have e1 := (hok b _ z).1
        have e2 := (hok' b _ (un.frzs b ob _ z)).1
        exact (Option.some.inj (e.symm.trans e1)) ▸ e2
/-- the goal that k_head leaves -/
theorem walkG {l : PySem.W.OpenLaw} {n k : Nat} {q : Program} {loose : List Str} {XP : (Str → Option Value) → Heap → Prop} {YP : World → Heap → Prop} {d : DefRec} {K : Params → PySem.W.Frag} {sp : PySem.W.Frag → Sp} {x : Str}
    (hn : l.most = some n) (hn2 : n ≤ sizeLine) (hdf : d.params.defaults = []) (hr : RoomG k callerA)
    (hY : ∀ (w : World) (h : Heap), YP w h → (K w.params).In h)
    (F : ∀ (w : World) (mg : Str → Option Value) (fa : Addr) (h : Heap), (K w.params).In h → h.Ns mainGlobals mg → mg d.name = some (.ref fa) →
      ∃ fd : FuncData, (∀ (s : Shared) (u : Value), BindsTo s fd ⟨[u], []⟩ [(x, u)]) ∧
        ∀ base : Heap, (K w.params).In base → base.Ns mainGlobals mg → FnG l.prog w (K w.params) mg base CX0 k fa fd [x] (sp (K w.params)))
    (hsp : ∀ (K : PySem.W.Frag) (H : Hp) (a : Addr) (ns : List Int), ns.length ≤ n → Only H → SqM K H a (ns.map V.int) → sp K [.ref a] H (fun v _ => v = .bl true) fun _ _ _ => False) :
    PySem.W.WalkO q loose XP YP l.row.toRowW d [] (fun f vs => PySem.call f vs) := by
  refine Att.attach_call hn hdf ?_
  intro w s₀ s₁ mg mb fa o pm cd doc a vs ns G Y ho hd hcd hmg hobj hints hlen hg
  have KX := hY w _ Y
  obtain ⟨fd, hb, hF⟩ := F w mg fa _ KX G.T.g hmg
  exact lawG KX G.T.g G.T.b G.T.builtins G.T.nolimit hg hobj hints (Nat.le_trans hlen hn2) hr hF hb fun H hO hS => hsp _ H a ns hlen hO hS
end DL
end
section
/-! data by value: what nobody changes is a PyData; what is changed stands in a small store -/
namespace DL
open PySem PySem.Spec PyProof.Rows L2

def kD : L2.Key → PyData
  | .inl i => .int i
  | .inr x => .str x
/-- a tuple's object, nothing else hangs on it -/
def PlT (o : Obj) : Prop := o.cls = .type "tuple" ∧ o.dict = none
def TpP (F : Hp) (a : Addr) (xs : List V) : Prop := ∃ o, F a = some (.frz o (.tup xs)) ∧ PlT o
theorem TpP.same {H H' : Hp} {a : Addr} {xs : List V} (h : TpP H a xs) (e : Same H H') : TpP H' a xs := let ⟨o, q, p⟩ := h; ⟨o, e _ _ q, p⟩
theorem TpP.sq {K : PySem.W.Frag} {H : Hp} {a : Addr} {xs : List V} (h : TpP H a xs) : SqT K H a xs := let ⟨o, q, _⟩ := h; .inl (.inr ⟨o, q⟩)
mutual
/-- v is the data, read in the frozen heap F -/
inductive Rp (K : PySem.W.Frag) (F : Hp) : V → PyData → Prop
  | non : Rp K F .non .none
  | bl (b : Bool) : Rp K F (.bl b) (.bool b)
  | int (i : Int) : Rp K F (.int i) (.int i)
  | str (x : Str) : Rp K F (.str x) (.str x)
  | lst {a : Addr} {xs : List V} {ds : List PyData} : SqM K F a xs → RpA K F xs ds → Rp K F (.ref a) (.list ds)
  | tup {a : Addr} {xs : List V} {ds : List PyData} : TpP F a xs → RpA K F xs ds → Rp K F (.ref a) (.tuple ds)
  | dct {a : Addr} {kvs : List (L2.Key × V)} {ds : List (PyData × PyData)} : F a = some (.dK kvs) → RpK K F kvs ds → Rp K F (.ref a) (.dict ds)
inductive RpA (K : PySem.W.Frag) (F : Hp) : List V → List PyData → Prop
  | nil : RpA K F [] []
  | cons {v : V} {vs : List V} {d : PyData} {ds : List PyData} : Rp K F v d → RpA K F vs ds → RpA K F (v :: vs) (d :: ds)
inductive RpK (K : PySem.W.Frag) (F : Hp) : List (L2.Key × V) → List (PyData × PyData) → Prop
  | nil : RpK K F [] []
  | cons {k : L2.Key} {v : V} {d : PyData} {kvs : List (L2.Key × V)} {ds : List (PyData × PyData)} : Rp K F v d → RpK K F kvs ds → RpK K F ((k, v) :: kvs) ((kD k, d) :: ds)
end
theorem sqT_same {K : PySem.W.Frag} {H H' : Hp} {a : Addr} {xs : List V} (e : Same H H') (h : SqT K H a xs) : SqT K H' a xs := by
  rcases h with (h | ⟨o, h⟩) | h
  · exact .inl (.inl (e _ _ h))
  · exact .inl (.inr ⟨o, e _ _ h⟩)
  · exact .inr h
theorem sqM_same {K : PySem.W.Frag} {H H' : Hp} {a : Addr} {xs : List V} (e : Same H H') (h : SqM K H a xs) : SqM K H' a xs := by
  rcases h with (h | ⟨o, h⟩) | h
  · exact .inl (.inl (e _ _ h))
  · exact .inl (.inr ⟨o, e _ _ h⟩)
  · exact .inr h
theorem rd_same {H H' : Hp} {a : Addr} {u : HO} (e : Same H H') (h : Rd H a u) : Rd H' a u := h.imp (e _ _) fun ⟨o, h⟩ => ⟨o, e _ _ h⟩
section
variable {K : PySem.W.Frag} {F F' R H H' : Hp}
mutual
theorem Rp.mono (e : Same F F') : ∀ {v : V} {d : PyData}, Rp K F v d → Rp K F' v d
  | _, _, .non => .non
  | _, _, .bl b => .bl b
  | _, _, .int i => .int i
  | _, _, .str x => .str x
  | _, _, .lst h r => .lst (sqM_same e h) (RpA.mono e r)
  | _, _, .tup h r => .tup (h.same e) (RpA.mono e r)
  | _, _, .dct h r => .dct (e _ _ h) (RpK.mono e r)
theorem RpA.mono (e : Same F F') : ∀ {v : List V} {d : List PyData}, RpA K F v d → RpA K F' v d
  | _, _, .nil => .nil
  | _, _, .cons r t => .cons (Rp.mono e r) (RpA.mono e t)
theorem RpK.mono (e : Same F F') : ∀ {v : List (L2.Key × V)} {d : List (PyData × PyData)}, RpK K F v d → RpK K F' v d
  | _, _, .nil => .nil
  | _, _, .cons r t => .cons (Rp.mono e r) (RpK.mono e t)
end
theorem RpA.length : ∀ {vs : List V} {ds : List PyData}, RpA K F vs ds → vs.length = ds.length
  | _, _, .nil => rfl
  | _, _, .cons _ t => congrArg (· + 1) (RpA.length t)
theorem RpA.append : ∀ {vs ws : List V} {ds es : List PyData}, RpA K F vs ds → RpA K F ws es → RpA K F (vs ++ ws) (ds ++ es)
  | _, _, _, _, .nil, s => s
  | _, _, _, _, .cons r t, s => .cons r (RpA.append t s)
theorem RpA.take : ∀ {vs : List V} {ds : List PyData} (n : Nat), RpA K F vs ds → RpA K F (vs.take n) (ds.take n)
  | _, _, 0, _ => .nil
  | _, _, _ + 1, .nil => .nil
  | _, _, n + 1, .cons r t => .cons r (RpA.take n t)
theorem RpA.drop : ∀ {vs : List V} {ds : List PyData} (n : Nat), RpA K F vs ds → RpA K F (vs.drop n) (ds.drop n)
  | _, _, 0, r => r
  | _, _, _ + 1, .nil => .nil
  | _, _, n + 1, .cons _ t => RpA.drop n t
theorem RpA.get : ∀ {vs : List V} {ds : List PyData} {i : Nat} {d : PyData}, RpA K F vs ds → ds[i]? = some d → ∃ v, vs[i]? = some v ∧ Rp K F v d
  | _, _, _, _, .nil, e => by simp at e
  | _, _, 0, _, .cons r _, e => by
    simp only [List.getElem?_cons_zero, Option.some.injEq] at e
    subst e
    exact ⟨_, rfl, r⟩
  | _, _, i + 1, _, .cons _ t, e => by
    obtain ⟨v, h1, h2⟩ := RpA.get (i := i) t (by simpa using e)
    exact ⟨v, by simpa using h1, h2⟩
theorem RpA.getV : ∀ {vs : List V} {ds : List PyData} {i : Nat} {v : V}, RpA K F vs ds → vs[i]? = some v → ∃ d, ds[i]? = some d ∧ Rp K F v d
  | _, _, _, _, .nil, e => by simp at e
  | _, _, 0, _, .cons r _, e => by
    simp only [List.getElem?_cons_zero, Option.some.injEq] at e
    subst e
    exact ⟨_, rfl, r⟩
  | _, _, i + 1, _, .cons _ t, e => by
    obtain ⟨v, h1, h2⟩ := RpA.getV (i := i) t (by simpa using e)
    exact ⟨v, by simpa using h1, h2⟩
theorem RpA.reverse {vs : List V} {ds : List PyData} (h : RpA K F vs ds) : RpA K F vs.reverse ds.reverse := by
  induction vs generalizing ds with
  | nil => cases h; exact .nil
  | cons v vs ih =>
    cases h with
    | cons r t =>
      rw [List.reverse_cons, List.reverse_cons]
      exact (ih t).append (.cons r .nil)

/-- a value, or the place of something that may be changed -/
inductive L where
  | d (x : PyData)
  | p (a : Addr)
  | c (v : V)
/-- what may be changed -/
inductive MO where
  | lst (xs : List L)
  | dct (kvs : List (L2.Key × L))
  | ins (C dx : Addr) (fs : List (Str × L))
abbrev Ms := Addr → Option MO
def updM (M : Ms) (a : Addr) (o : MO) : Ms := fun b => if b = a then some o else M b
theorem updM_same {M : Ms} {a : Addr} {o : MO} : updM M a o a = some o := if_pos rfl
theorem updM_ne {M : Ms} {a b : Addr} {o : MO} (h : b ≠ a) : updM M a o b = M b := if_neg h
theorem updM_updM {M : Ms} {a : Addr} {o u : MO} : updM (updM M a o) a u = updM M a u := by
  funext b; unfold updM; split <;> rfl

def LR (K : PySem.W.Frag) (F : Hp) (v : V) : L → Prop
  | .d x => Rp K F v x
  | .p a => v = .ref a
  | .c w => v = w
theorem LR.mono (e : Same F F') {v : V} : ∀ {l : L}, LR K F v l → LR K F' v l
  | .d _, h => Rp.mono e h
  | .p _, h => h
  | .c _, h => h
abbrev LRs (K : PySem.W.Frag) (F : Hp) : List V → List L → Prop := Paired (LR K F)
theorem LRs.mono (e : Same F F') : ∀ {vs : List V} {ls : List L}, LRs K F vs ls → LRs K F' vs ls
  | _, _, .nil => .nil
  | _, _, .cons r t => .cons (LR.mono e r) (LRs.mono e t)
theorem LRs.of_data : ∀ {vs : List V} {ds : List PyData}, RpA K F vs ds → LRs K F vs (ds.map L.d)
  | _, _, .nil => .nil
  | _, _, .cons r t => .cons r (LRs.of_data t)
theorem LRs.data : ∀ {vs : List V} {ds : List PyData}, LRs K F vs (ds.map L.d) → RpA K F vs ds
  | _, [], .nil => .nil
  | _, _ :: _, .cons r t => .cons r (LRs.data t)
theorem LRs.get : ∀ {vs : List V} {ls : List L} {i : Nat} {l : L}, LRs K F vs ls → ls[i]? = some l → ∃ v, vs[i]? = some v ∧ LR K F v l
  | _, _, _, _, .nil, e => by simp at e
  | _, _, 0, _, .cons r _, e => by
    simp only [List.getElem?_cons_zero, Option.some.injEq] at e
    subst e
    exact ⟨_, rfl, r⟩
  | _, _, i + 1, _, .cons _ t, e => by
    obtain ⟨v, h1, h2⟩ := LRs.get (i := i) t (by simpa using e)
    exact ⟨v, by simpa using h1, h2⟩
theorem LRs.append : ∀ {vs ws : List V} {ls ms : List L}, LRs K F vs ls → LRs K F ws ms → LRs K F (vs ++ ws) (ls ++ ms)
  | _, _, _, _, .nil, s => s
  | _, _, _, _, .cons r t, s => .cons r (LRs.append t s)
theorem LRs.length : ∀ {vs : List V} {ls : List L}, LRs K F vs ls → vs.length = ls.length
  | _, _, .nil => rfl
  | _, _, .cons _ t => congrArg (· + 1) (LRs.length t)
theorem LRs.set {v : V} {l : L} (r : LR K F v l) : ∀ {vs : List V} {ls : List L} (i : Nat), LRs K F vs ls → LRs K F (vs.set i v) (ls.set i l)
  | _, _, _, .nil => .nil
  | _, _, 0, .cons _ t => .cons r t
  | _, _, i + 1, .cons q t => .cons q (LRs.set r i t)
theorem LRs.eraseIdx : ∀ {vs : List V} {ls : List L} (i : Nat), LRs K F vs ls → LRs K F (vs.eraseIdx i) (ls.eraseIdx i)
  | _, _, _, .nil => .nil
  | _, _, 0, .cons _ t => t
  | _, _, i + 1, .cons q t => .cons q (LRs.eraseIdx i t)
theorem LRs.dropLast : ∀ {vs : List V} {ls : List L}, LRs K F vs ls → LRs K F vs.dropLast ls.dropLast
  | _, _, .nil => .nil
  | _, _, .cons _ .nil => .nil
  | _, _, .cons r (.cons q t) => .cons r (LRs.dropLast (.cons q t))

abbrev KR {κ : Type} (K : PySem.W.Frag) (F : Hp) : List (κ × V) → List (κ × L) → Prop := Paired fun p q => p.1 = q.1 ∧ LR K F p.2 q.2
theorem KR.mono {κ : Type} (e : Same F F') : ∀ {vs : List (κ × V)} {ls : List (κ × L)}, KR K F vs ls → KR K F' vs ls
  | _, _, .nil => .nil
  | _, _, .cons r t => .cons ⟨r.1, LR.mono e r.2⟩ (KR.mono e t)

/-- the changeable thing o stands at a -/
def MR (K : PySem.W.Frag) (F H : Hp) (a : Addr) : MO → Prop
  | .lst ls => ∃ vs, H a = some (.lst vs) ∧ LRs K F vs ls
  | .dct ks => ∃ vs, H a = some (.dK vs) ∧ KR K F vs ks
  | .ins C dx fs => ∃ vs, H a = some (.ins C dx vs) ∧ KR K F vs fs
theorem MR.mono (e : Same F F') {a : Addr} (h : H' a = H a) : ∀ {o : MO}, MR K F H a o → MR K F' H' a o
  | .lst _, ⟨vs, q, r⟩ => ⟨vs, h.trans q, LRs.mono e r⟩
  | .dct _, ⟨vs, q, r⟩ => ⟨vs, h.trans q, KR.mono e r⟩
  | .ins _ _ _, ⟨vs, q, r⟩ => ⟨vs, h.trans q, KR.mono e r⟩
theorem MR.some {a : Addr} : ∀ {o : MO}, MR K F H a o → ∃ u, H a = some u
  | .lst _, ⟨_, q, _⟩ => ⟨_, q⟩
  | .dct _, ⟨_, q, _⟩ => ⟨_, q⟩
  | .ins _ _ _, ⟨_, q, _⟩ => ⟨_, q⟩

/-- the heap H holds the frozen F and, apart from it, the store M and what is kept aside, R -/
structure Abs (K : PySem.W.Frag) (F R : Hp) (M : Ms) (H : Hp) : Prop where
  fz : Same F H
  mu : ∀ a o, M a = some o → F a = none ∧ R a = none ∧ MR K F H a o
  rs : ∀ a o, R a = some o → F a = none ∧ H a = some o
theorem Abs.freeF {M : Ms} (A : Abs K F R M H) {p : Addr} (h : H p = none) : F p = none := A.fz.free h
theorem Abs.freeR {M : Ms} (A : Abs K F R M H) {p : Addr} (h : H p = none) : R p = none := by
  cases q : R p with
  | none => rfl
  | some o =>
    rw [(A.rs p o q).2] at h
    cases h
theorem Abs.freeM {M : Ms} (A : Abs K F R M H) {p : Addr} (h : H p = none) : M p = none := by
  cases q : M p with
  | none => rfl
  | some o =>
    obtain ⟨u, e⟩ := (A.mu p o q).2.2.some
    rw [h] at e
    cases e
theorem same_new {p : Addr} {o : HO} (h : F p = none) : Same F (upd F p o) := fun b x e => by
  rw [upd_ne (ne_of_none e h)]
  exact e
/-- a new thing that nobody will change -/
theorem Abs.frz {M : Ms} {p : Addr} {o : HO} (A : Abs K F R M H) (h : H p = none) : Abs K (upd F p o) R M (upd H p o) := by
  have hf := A.freeF h
  refine ⟨fun b x e => ?_, fun a m e => ?_, fun a x e => ?_⟩
  · by_cases q : b = p
    · subst q
      rw [upd_same] at e ⊢
      exact e
    · rw [upd_ne q] at e ⊢
      exact A.fz b x e
  · obtain ⟨z, z2, r⟩ := A.mu a m e
    have q : a ≠ p := fun q => by
      have := A.freeM h
      rw [← q, e] at this
      cases this
    exact ⟨by rw [upd_ne q]; exact z, z2, r.mono (same_new hf) (upd_ne q)⟩
  · have q : a ≠ p := fun q => by
      have := A.freeR h
      rw [← q, e] at this
      cases this
    rw [upd_ne q, upd_ne q]
    exact A.rs a x e
/-- a new thing in the store -/
theorem Abs.new {M : Ms} {p : Addr} {o : HO} {m : MO} (A : Abs K F R M H) (h : H p = none) (r : MR K F (upd H p o) p m) : Abs K F R (updM M p m) (upd H p o) := by
  have hf := A.freeF h
  have hr := A.freeR h
  refine ⟨fun b x e => ?_, fun a n e => ?_, fun a x e => ?_⟩
  · rw [upd_ne (ne_of_none e hf)]
    exact A.fz b x e
  · by_cases q : a = p
    · subst q
      rw [updM_same] at e
      cases e
      exact ⟨hf, hr, r⟩
    · rw [updM_ne q] at e
      obtain ⟨z, z2, r⟩ := A.mu a n e
      exact ⟨z, z2, r.mono (fun _ _ e => e) (upd_ne q)⟩
  · rw [upd_ne (ne_of_none e hr)]
    exact A.rs a x e
/-- a thing of the store is changed -/
theorem Abs.put {M : Ms} {p : Addr} {o : HO} {m m' : MO} (A : Abs K F R M H) (e0 : M p = some m) (r : MR K F (upd H p o) p m') : Abs K F R (updM M p m') (upd H p o) := by
  obtain ⟨hf, hr, _⟩ := A.mu p m e0
  refine ⟨fun b x e => ?_, fun a n e => ?_, fun a x e => ?_⟩
  · rw [upd_ne (ne_of_none e hf)]
    exact A.fz b x e
  · by_cases q : a = p
    · subst q
      rw [updM_same] at e
      cases e
      exact ⟨hf, hr, r⟩
    · rw [updM_ne q] at e
      obtain ⟨z, z2, r⟩ := A.mu a n e
      exact ⟨z, z2, r.mono (fun _ _ e => e) (upd_ne q)⟩
  · rw [upd_ne (ne_of_none e hr)]
    exact A.rs a x e
/-- something is set aside -/
theorem Abs.aside {M : Ms} {p : Addr} {o : HO} (A : Abs K F R M H) (h : H p = none) : Abs K F (upd R p o) M (upd H p o) := by
  have hf := A.freeF h
  have hm := A.freeM h
  refine ⟨fun b x e => ?_, fun a n e => ?_, fun a x e => ?_⟩
  · rw [upd_ne (ne_of_none e hf)]
    exact A.fz b x e
  · have q : a ≠ p := fun q => by
      rw [← q, e] at hm
      cases hm
    obtain ⟨z, z2, r⟩ := A.mu a n e
    exact ⟨z, by rw [upd_ne q]; exact z2, r.mono (fun _ _ e => e) (upd_ne q)⟩
  · by_cases q : a = p
    · subst q
      rw [upd_same] at e ⊢
      exact ⟨hf, e⟩
    · rw [upd_ne q] at e ⊢
      exact A.rs a x e
/-- what was set aside changes -/
theorem Abs.again {M : Ms} {p : Addr} {o o' : HO} (A : Abs K F (upd R p o) M H) : Abs K F (upd R p o') M (upd H p o') := by
  obtain ⟨hf, hh⟩ := A.rs p o upd_same
  refine ⟨fun b x e => ?_, fun a n e => ?_, fun a x e => ?_⟩
  · rw [upd_ne (ne_of_none e hf)]
    exact A.fz b x e
  · obtain ⟨z, z2, r⟩ := A.mu a n e
    have q : a ≠ p := fun q => by
      rw [q, upd_same] at z2
      cases z2
    exact ⟨z, by rw [upd_ne q]; rw [upd_ne q] at z2; exact z2, r.mono (fun _ _ e => e) (upd_ne q)⟩
  · by_cases q : a = p
    · subst q
      rw [upd_same] at e ⊢
      exact ⟨hf, e⟩
    · rw [upd_ne q] at e ⊢
      exact A.rs a x (by rw [upd_ne q]; exact e)
/-- what was set aside is frozen -/
theorem Abs.keep {M : Ms} {p : Addr} {o : HO} (hr : R p = none) (A : Abs K F (upd R p o) M H) : Abs K (upd F p o) R M H := by
  obtain ⟨hf, hh⟩ := A.rs p o upd_same
  refine ⟨fun b x e => ?_, fun a n e => ?_, fun a x e => ?_⟩
  · by_cases q : b = p
    · subst q
      rw [upd_same] at e
      cases e
      exact hh
    · rw [upd_ne q] at e
      exact A.fz b x e
  · obtain ⟨z, z2, r⟩ := A.mu a n e
    have q : a ≠ p := fun q => by
      rw [q, upd_same] at z2
      cases z2
    rw [upd_ne q] at z2
    exact ⟨by rw [upd_ne q]; exact z, z2, r.mono (same_new hf) rfl⟩
  · have q : a ≠ p := fun q => by
      rw [q, hr] at e
      cases e
    rw [upd_ne q]
    exact A.rs a x (by rw [upd_ne q]; exact e)
/-- a thing of the store is forgotten there and frozen -/
def delM (M : Ms) (a : Addr) : Ms := fun b => if b = a then none else M b

/-- the names' slots -/
abbrev Ev := List (Option L)
def Er (K : PySem.W.Frag) (F : Hp) (σ : L2.St) (η : Ev) : Prop := σ.length = η.length ∧ ∀ (i : Nat) (l : L), η[i]? = some (some l) → ∃ v, σ[i]? = some (some v) ∧ LR K F v l
theorem Er.mono (e : Same F F') {σ : L2.St} {η : Ev} (h : Er K F σ η) : Er K F' σ η := ⟨h.1, fun i l q => let ⟨v, a, b⟩ := h.2 i l q; ⟨v, a, b.mono e⟩⟩
theorem Er.set {σ : L2.St} {η : Ev} {v : V} {l : L} (h : Er K F σ η) (i : Nat) (r : LR K F v l) : Er K F (σ.set i (some v)) (η.set i (some l)) := by
  refine ⟨by rw [List.length_set, List.length_set]; exact h.1, fun j m q => ?_⟩
  by_cases e : i = j
  · subst e
    have hi : i < η.length := by
      have := (List.getElem?_eq_some_iff.mp q).1
      simpa using this
    rw [List.getElem?_set_self hi] at q
    cases q
    exact ⟨v, List.getElem?_set_self (by rw [h.1]; exact hi), r⟩
  · rw [List.getElem?_set_ne e] at q ⊢
    exact h.2 j m q
theorem Er.set_none {σ : L2.St} {η : Ev} {x : Option V} (h : Er K F σ η) (i : Nat) : Er K F (σ.set i x) (η.set i none) := by
  refine ⟨by rw [List.length_set, List.length_set]; exact h.1, fun j m q => ?_⟩
  by_cases e : i = j
  · subst e
    have hi : i < η.length := by
      have := (List.getElem?_eq_some_iff.mp q).1
      simpa using this
    rw [List.getElem?_set_self hi] at q
    cases q
  · rw [List.getElem?_set_ne e] at q ⊢
    exact h.2 j m q
end

abbrev DQ := L → Ms → Prop
abbrev DE := Ev → Ms → DQ → Prop
abbrev DT := Ev → Ms → (Bool → Ms → Prop) → Prop
abbrev DA := Ev → Ms → (List L → Ms → Prop) → Prop
/-- what follows a value -/
def Cont (K : PySem.W.Frag) (F R : Hp) (q : DQ) (Q : VK) : Prop := ∀ l M v H F', Same F F' → Abs K F' R M H → LR K F' v l → q l M → Q v H
theorem Cont.mono {K : PySem.W.Frag} {F F' R : Hp} {q : DQ} {Q : VK} (c : Cont K F R q Q) (e : Same F F') : Cont K F' R q Q := fun l M v H G s => c l M v H G (e.trans s)
/-- what is known ahead: frozen, and set aside -/
abbrev GH := Hp × Hp
def SG (G : GH) (F R : Hp) : Prop := Same G.1 F ∧ Same G.2 R
theorem SG.trans {G : GH} {F F' R : Hp} (h : SG G F R) (s : Same F F') : SG G F' R := ⟨h.1.trans s, h.2⟩
theorem SG.more {G : GH} {F R : Hp} {D : Addr} {vs : List V} (h : SG G F R) (r : R D = none) : SG G F (upd R D (.lst vs)) := ⟨h.1, h.2.trans (same_new r)⟩
theorem SG.refl (F R : Hp) : SG (F, R) F R := ⟨Same.refl F, Same.refl R⟩
def LE (K : PySem.W.Frag) (G : GH) (de : DE) : TE := fun σ H Q => ∃ F R η M q, SG G F R ∧ Abs K F R M H ∧ Er K F σ η ∧ de η M q ∧ Cont K F R q Q
def LT (K : PySem.W.Frag) (G : GH) (dt : DT) : TT := fun σ H Q => ∃ F R η M q, SG G F R ∧ Abs K F R M H ∧ Er K F σ η ∧ dt η M q ∧ ∀ b M' H' F', Same F F' → Abs K F' R M' H' → q b M' → Q b H'
def LA (K : PySem.W.Frag) (G : GH) (da : DA) : TA := fun σ H Q => ∃ F R η M q, SG G F R ∧ Abs K F R M H ∧ Er K F σ η ∧ da η M q ∧ ∀ ls M' vs H' F', Same F F' → Abs K F' R M' H' → LRs K F' vs ls → q ls M' → Q vs H'
def PX (X : Cx) (G : GH) (e : Expr) (de : DE) : Prop := PE X e (LE X.K G de)
def PXT (X : Cx) (G : GH) (e : Expr) (dt : DT) : Prop := PT X e (LT X.K G dt)
def PXA (X : Cx) (G : GH) (es : List Expr) (da : DA) : Prop := PA X es (LA X.K G da)
theorem pe_imp {X : Cx} {e : Expr} {t t' : TE} (h : PE X e t) (i : ∀ σ H Q, t' σ H Q → t σ H Q) : PE X e t' := ⟨fun pins s σ H Q I q => h.run pins s σ H Q I (i _ _ _ q)⟩
theorem pt_imp {X : Cx} {e : Expr} {t t' : TT} (h : PT X e t) (i : ∀ σ H Q, t' σ H Q → t σ H Q) : PT X e t' := ⟨fun pins s σ H Q I q => h.run pins s σ H Q I (i _ _ _ q)⟩
theorem pa_imp {X : Cx} {e : List Expr} {t t' : TA} (h : PA X e t) (i : ∀ σ H Q, t' σ H Q → t σ H Q) : PA X e t' := ⟨fun p pins s σ H Q I q => h.run p pins s σ H Q I (i _ _ _ q)⟩
theorem ps_imp {X : Cx} {e : Stmt} {t t' : TS} (h : PS X e t) (i : ∀ D σ H, t' D σ H → t D σ H) : PS X e t' := ⟨fun pins s σ H D I q => h.run pins s σ H D I (i _ _ _ q)⟩
theorem pss_imp {X : Cx} {e : List Stmt} {t t' : TS} (h : PSs X e t) (i : ∀ D σ H, t' D σ H → t D σ H) : PSs X e t' := ⟨fun pins s σ H D I q => h.run pins s σ H D I (i _ _ _ q)⟩

/-- the reading of e, then what follows with its value -/
theorem le_bind {K : PySem.W.Frag} {G : GH} {F R : Hp} {σ : L2.St} {H : Hp} {η : Ev} {M : Ms} {de : DE} {q : DQ} {Q : VK}
    (hG : SG G F R) (A : Abs K F R M H) (E : Er K F σ η) (h : de η M q)
    (c : ∀ l M' v H' F', SG G F' R → Same F F' → Abs K F' R M' H' → Er K F' σ η → LR K F' v l → q l M' → Q v H') : LE K G de σ H Q :=
  ⟨F, R, η, M, q, hG, A, E, h, fun l M' v H' F' s A' r h' => c l M' v H' F' (hG.trans s) s A' (E.mono s) r h'⟩

/-! ### names, constants -/
def dV (i : Nat) : DE := fun η M q => ∃ l, η[i]? = some (some l) ∧ q l M
def dC (x : PyData) : DE := fun _ M q => q (.d x) M
section
variable {X : Cx} {G : GH}
theorem px_v (i : Nat) {x : Str} {pos : Pos} (hN : X.N[i]? = some x := by rfl) (hv : Vis X.env.scope x := by first | exact Or.inl rfl | exact Or.inr (Or.inl rfl) | exact Or.inr (Or.inr rfl))
    (hd : (x == ("__debug__" : Str)) = false := by decide) (hcd : (x == ("__classdict__" : Str)) = false := by decide) : PX X G (.Name x pos) (dV i) := by
  refine pe_imp (pe_var hN hv hd hcd) ?_
  rintro σ H Q ⟨F, R, η, M, q, hG, A, E, ⟨l, e, h⟩, c⟩
  obtain ⟨v, e1, r⟩ := E.2 i l e
  exact ⟨v, e1, c l M v H F (Same.refl F) A r h⟩
theorem px_of_const {e : Expr} {v : V} {x : PyData} (h : PE X e (tC v)) (r : ∀ F, Rp X.K F v x) : PX X G e (dC x) := by
  refine pe_imp h ?_
  rintro σ H Q ⟨F, R, η, M, q, hG, A, E, h, c⟩
  exact c (.d x) M v H F (Same.refl F) A (r F) h
theorem px_int {i j pos} : PX X G (.Constant (.int i) j pos) (dC (.int i)) := px_of_const pe_int fun _ => .int i
theorem px_bl {b j pos} : PX X G (.Constant (.bool b) j pos) (dC (.bool b)) := px_of_const pe_bl fun _ => .bl b
theorem px_non {j pos} : PX X G (.Constant .none j pos) (dC .none) := px_of_const pe_non fun _ => .non
theorem px_str {x j pos} : PX X G (.Constant (.str x) j pos) (dC (.str x)) := px_of_const pe_str fun _ => .str x
/-- a constant of the module -/
theorem px_glob {x : Str} {v : V} {u : Value} {d : PyData} {pos : Pos} (hg : Gl X x) (hm : X.mg x = some u) (r : RelV v u) (r2 : ∀ F, Rp X.K F v d) (hd : (x == ("__debug__" : Str)) = false := by decide) : PX X G (.Name x pos) (dC d) :=
  px_of_const (pe_glob hg hm r hd) r2

/-! ### operators -/
abbrev DR2 := L → L → Ms → DQ → Prop
def OpD (K : PySem.W.Frag) (r : R2) (dr : DR2) : Prop := ∀ F R M H x y a b q Q, Abs K F R M H → LR K F x a → LR K F y b → dr a b M q → Cont K F R q Q → r x y H Q
def dOp (dr : DR2) (da db : DE) : DE := fun η M q => da η M fun a M1 => db η M1 fun b M2 => dr a b M2 q
theorem le_op {K : PySem.W.Frag} {r : R2} {dr : DR2} {da db : DE} (o : OpD K r dr) {σ : L2.St} {H : Hp} {Q : VK} (h : LE K G (dOp dr da db) σ H Q) : tOp r (LE K G da) (LE K G db) σ H Q := by
  obtain ⟨F, R, η, M, q, hG, A, E, h, c⟩ := h
  refine le_bind hG A E h fun a M1 x H1 F1 g1 s1 A1 E1 r1 h1 => ?_
  refine le_bind g1 A1 E1 h1 fun b M2 y H2 F2 g2 s2 A2 E2 r2 h2 => ?_
  exact o F2 R M2 H2 x y a b q Q A2 (r1.mono s2) r2 h2 (c.mono (s1.trans s2))
theorem px_bin {op : Operator} {r : R2} {dr : DR2} {a b : Expr} {da db : DE} {pos : Pos} (ho : OpR X (binaryOp op) r) (o : OpD X.K r dr) (ha : PX X G a da) (hb : PX X G b db) : PX X G (.BinOp a op b pos) (dOp dr da db) :=
  pe_imp (pe_op ho ha hb) fun _ _ _ h => le_op o h
theorem px_cmp {op : CmpOp} {r : R2} {dr : DR2} {a b : Expr} {da db : DE} {pos : Pos} (ho : OpR X (compareOp op) r) (o : OpD X.K r dr) (ha : PX X G a da) (hb : PX X G b db) (hm : behindInMarks op b = false := by first | exact nomark _ | rfl) : PX X G (.Compare a [op] [b] pos) (dOp dr da db) :=
  pe_imp (pe_cmpR ho ha hb hm) fun _ _ _ h => le_op o h
end
end DL
end
section
/-! what operators and built-ins do to data -/
namespace DL
open PySem PySem.Spec PyProof.Rows L2

/-! ### data is read -/
mutual
def hasList : PyData → Bool
  | .list _ => true
  | .tuple xs => hasListA xs
  | .dict kvs => hasListK kvs
  | _ => false
def hasListA : List PyData → Bool
  | [] => false
  | x :: xs => hasList x || hasListA xs
def hasListK : List (PyData × PyData) → Bool
  | [] => false
  | (k, v) :: r => hasList v || hasListK r
end
section
variable {X : Cx} {pins : List (Addr × Obj)} {σ : L2.St} {H : Hp} {s : Shared}
theorem pairs_keys : ∀ {es : List DictEntry} {kvs : List (L2.Key × Value)}, Pairs (mixKind X.prog X.w) es kvs → es.map (·.val) = kvs.map (·.2) ∧ Paired (fun (e : Value) (k : L2.Key) => keyIs k e = true) (es.map (·.key)) (kvs.map (·.1))
  | _, _, .nil => ⟨rfl, .nil⟩
  | _, _, .cons h1 h2 h3 => by
    obtain ⟨i1, i2⟩ := pairs_keys h3
    refine ⟨?_, .cons h1 i2⟩
    rw [List.map_cons, List.map_cons, h2, i1]
theorem reads_key {k : L2.Key} {v : Value} (h : Heap) (e : keyIs k v = true) : Reads h v (kD k) [] := by
  rcases keyIs_shape e with ⟨i, t, rfl, rfl⟩ | ⟨x, t, rfl, rfl⟩
  · exact Reads.int i t
  · exact Reads.str x t
theorem reads_keys (h : Heap) : ∀ {vs : List Value} {ks : List L2.Key}, Paired (fun (e : Value) (k : L2.Key) => keyIs k e = true) vs ks → ReadsAll h vs (ks.map kD) []
  | _, _, .nil => .nil
  | _, _, .cons e t => ReadsAll.cons (as := []) (bs := []) (reads_key h e) (reads_keys h t)
theorem kv_keys : ∀ {kvs : List (L2.Key × V)} {vs : List (L2.Key × Value)}, KV kvs vs → kvs.map (·.1) = vs.map (·.1)
  | _, _, .nil => rfl
  | _, _, .cons ⟨e, _⟩ t => by rw [List.map_cons, List.map_cons, e, kv_keys t]
theorem rpk_keys {K : PySem.W.Frag} {F : Hp} : ∀ {kvs : List (L2.Key × V)} {ds : List (PyData × PyData)}, RpK K F kvs ds → ds.map (·.1) = kvs.map fun p => kD p.1
  | _, _, .nil => rfl
  | _, _, .cons _ t => by rw [List.map_cons, List.map_cons, rpk_keys t]
/-- the addresses that reading goes over are no sys.modules -/
def NoSys (as : List Addr) : Prop := sysModules ∉ as
theorem noSys_app {as bs : List Addr} (a : NoSys as) (b : NoSys bs) : NoSys (as ++ bs) := fun h => (List.mem_append.mp h).elim a b
mutual
theorem Rp.reads (I : Inv X pins σ H s) : ∀ {d : PyData} {v : V} {u : Value}, Rp X.K H v d → RelV v u → ∃ as, Reads s.heap u d as ∧ (hasList d = false → NoSys as)
  | _, _, _, .non, r => by cases r; exact ⟨_, Reads.none, fun _ h => nomatch h⟩
  | _, _, _, .bl b, r => by cases r; exact ⟨_, Reads.bool b, fun _ h => nomatch h⟩
  | _, _, _, .int i, r => by obtain ⟨t, rfl⟩ := r; exact ⟨_, Reads.int i t, fun _ h => nomatch h⟩
  | _, _, _, .str x, r => by obtain ⟨t, rfl⟩ := r; exact ⟨_, Reads.str x t, fun _ h => nomatch h⟩
  | _, _, _, .lst hs ha, r => by
    cases r
    obtain ⟨its, rv, ⟨o, n, ho, hc, _, hd⟩, _⟩ := I.list hs.l
    obtain ⟨as, hr, hn⟩ := RpA.reads I ha rv
    exact ⟨_, Reads.list ho hc hd hr, fun q => by simp [hasList] at q⟩
  | _, _, _, .tup hs ha, r => by
    cases r
    obtain ⟨its, rv, ⟨o, ho, hc, n, hd⟩, _⟩ := I.tuple hs.sq
    obtain ⟨as, hr, hn⟩ := RpA.reads I ha rv
    exact ⟨_, Reads.tuple ho hc hd hr, fun q => hn (by simpa [hasList] using q)⟩
  | .dict ds, _, _, .dct (a := a) (kvs := kvs) hs ha, r => by
    cases r
    obtain ⟨_, hsys, vs, rv, o, es, ep, ho, hx, hd, hk, hp, _⟩ := (show ObjOk X.prog X.w H s.heap a (.dK kvs) from I.hok a _ hs)
    obtain ⟨e1, e2⟩ := pairs_keys hp
    obtain ⟨bs, hr, hn⟩ := RpK.reads I ha rv
    have k1 := reads_keys s.heap e2
    rw [← kv_keys rv, List.map_map] at k1
    have k2 : ds.map (·.1) = kvs.map (kD ∘ fun p => p.1) := rpk_keys ha
    rw [← k2] at k1
    rw [← e1] at hr
    refine ⟨_, Reads.dict ho hx.1 hd k1 hr, fun q h => ?_⟩
    rcases List.mem_cons.mp (by simpa using h) with z | z
    · rw [z] at hsys
      simp at hsys
    · exact hn (by simpa [hasList] using q) z
theorem RpA.reads (I : Inv X pins σ H s) : ∀ {ds : List PyData} {vs : List V} {us : List Value}, RpA X.K H vs ds → Vals vs us → ∃ as, ReadsAll s.heap us ds as ∧ (hasListA ds = false → NoSys as)
  | _, _, _, .nil, r => by cases r; exact ⟨_, ReadsAll.nil, fun _ h => nomatch h⟩
  | _, _, _, .cons h1 h2, r => by
    cases r with
    | cons r1 r2 =>
      obtain ⟨as, q1, n1⟩ := Rp.reads I h1 r1
      obtain ⟨bs, q2, n2⟩ := RpA.reads I h2 r2
      refine ⟨_, ReadsAll.cons q1 q2, fun q => ?_⟩
      simp only [hasListA, Bool.or_eq_false_iff] at q
      exact noSys_app (n1 q.1) (n2 q.2)
theorem RpK.reads (I : Inv X pins σ H s) : ∀ {ds : List (PyData × PyData)} {kvs : List (L2.Key × V)} {us : List (L2.Key × Value)}, RpK X.K H kvs ds → KV kvs us → ∃ as, ReadsAll s.heap (us.map (·.2)) (ds.map (·.2)) as ∧ (hasListK ds = false → NoSys as)
  | _, _, _, .nil, r => by cases r; exact ⟨_, ReadsAll.nil, fun _ h => nomatch h⟩
  | _, _, _, .cons h1 h2, r => by
    cases r with
    | cons r1 r2 =>
      obtain ⟨as, q1, n1⟩ := Rp.reads I h1 r1.2
      obtain ⟨bs, q2, n2⟩ := RpK.reads I h2 r2
      refine ⟨_, ReadsAll.cons q1 q2, fun q => ?_⟩
      simp only [hasListK, Bool.or_eq_false_iff] at q
      exact noSys_app (n1 q.1) (n2 q.2)
end
end

/-! ### reading a value as data -/
def allD : List L → Option (List PyData)
  | [] => some []
  | .d x :: r => (allD r).map (x :: ·)
  | _ :: _ => none
theorem allD_map : ∀ ds : List PyData, allD (ds.map L.d) = some ds
  | [] => rfl
  | x :: r => by
    show (allD (r.map L.d)).map (x :: ·) = _
    rw [allD_map r]
    rfl
theorem allD_eq : ∀ {ls : List L} {ds : List PyData}, allD ls = some ds → ls = ds.map L.d
  | [], ds, h => by
    cases h
    rfl
  | .d x :: r, ds, h => by
    cases q : allD r with
    | none =>
      have h' : (allD r).map (x :: ·) = some ds := h
      rw [q] at h'
      cases h'
    | some es =>
      have h' : (allD r).map (x :: ·) = some ds := h
      rw [q] at h'
      cases h'
      rw [allD_eq q]
      rfl
  | .p _ :: _, ds, h => by cases h
  | .c _ :: _, ds, h => by cases h
def rd (M : Ms) : L → Option PyData
  | .d x => some x
  | .p a => match M a with
    | some (.lst ls) => (allD ls).map PyData.list
    | _ => none
  | .c _ => none
@[simp] theorem rd_d (M : Ms) (x : PyData) : rd M (.d x) = some x := rfl
theorem rd_p {M : Ms} {a : Addr} {ds : List PyData} (h : M a = some (.lst (ds.map L.d))) : rd M (.p a) = some (.list ds) := by
  show (match M a with
    | some (.lst ls) => (allD ls).map PyData.list
    | _ => none) = _
  rw [h]
  show (allD (ds.map L.d)).map PyData.list = _
  rw [allD_map]
  rfl
theorem rd_p_inv {M : Ms} {a : Addr} {x : PyData} (h : rd M (.p a) = some x) : ∃ ds, x = .list ds ∧ M a = some (.lst (ds.map L.d)) := by
  have h' : (match M a with
    | some (.lst ls) => (allD ls).map PyData.list
    | _ => none) = some x := h
  split at h'
  · rename_i ls e
    cases q : allD ls with
    | none => rw [q] at h'; cases h'
    | some ds =>
      rw [q] at h'
      cases h'
      exact ⟨ds, rfl, by rw [e, allD_eq q]⟩
  · cases h'
section
variable {K : PySem.W.Frag} {F R H : Hp} {M : Ms} {v : V} {l : L}
theorem rd_list (A : Abs K F R M H) (r : LR K F v l) {ds : List PyData} (h : rd M l = some (.list ds)) : ∃ p vs, v = .ref p ∧ SqM K H p vs ∧ RpA K F vs ds := by
  cases l with
  | d x =>
    cases h
    cases r with
    | lst hs ha => exact ⟨_, _, rfl, sqM_same A.fz hs, ha⟩
  | p a =>
    obtain ⟨ds', e, hm⟩ := rd_p_inv h
    cases e
    obtain ⟨_, _, vs, hv, hl⟩ := A.mu a _ hm
    exact ⟨a, vs, r, .inl (.inl hv), hl.data⟩
  | c w => cases h
theorem rd_tuple (A : Abs K F R M H) (r : LR K F v l) {ds : List PyData} (h : rd M l = some (.tuple ds)) : ∃ p vs, v = .ref p ∧ SqT K H p vs ∧ RpA K F vs ds := by
  cases l with
  | d x =>
    cases h
    cases r with
    | tup hs ha => exact ⟨_, _, rfl, (hs.same A.fz).sq, ha⟩
  | p a =>
    obtain ⟨ds', e, hm⟩ := rd_p_inv h
    cases e
  | c w => cases h
theorem rd_tupleP (A : Abs K F R M H) (r : LR K F v l) {ds : List PyData} (h : rd M l = some (.tuple ds)) : ∃ p vs, v = .ref p ∧ TpP H p vs ∧ RpA K F vs ds := by
  cases l with
  | d x =>
    cases h
    cases r with
    | tup hs ha => exact ⟨_, _, rfl, hs.same A.fz, ha⟩
  | p a =>
    obtain ⟨ds', e, hm⟩ := rd_p_inv h
    cases e
  | c w => cases h
theorem rd_tupleF (r : LR K F v l) {ds : List PyData} (h : rd M l = some (.tuple ds)) : Rp K F v (.tuple ds) := by
  cases l with
  | d x => cases h; exact r
  | p a =>
    obtain ⟨ds', e, hm⟩ := rd_p_inv h
    cases e
  | c w => cases h
theorem rd_int (r : LR K F v l) {i : Int} (h : rd M l = some (.int i)) : v = .int i := by
  cases l with
  | d x => cases h; cases r; rfl
  | p a => obtain ⟨ds', e, hm⟩ := rd_p_inv h; cases e
  | c w => cases h
theorem rd_bool (r : LR K F v l) {i : Bool} (h : rd M l = some (.bool i)) : v = .bl i := by
  cases l with
  | d x => cases h; cases r; rfl
  | p a => obtain ⟨ds', e, hm⟩ := rd_p_inv h; cases e
  | c w => cases h
theorem rd_str (r : LR K F v l) {i : Str} (h : rd M l = some (.str i)) : v = .str i := by
  cases l with
  | d x => cases h; cases r; rfl
  | p a => obtain ⟨ds', e, hm⟩ := rd_p_inv h; cases e
  | c w => cases h
theorem rd_none (r : LR K F v l) (h : rd M l = some .none) : v = .non := by
  cases l with
  | d x => cases h; cases r; rfl
  | p a => obtain ⟨ds', e, hm⟩ := rd_p_inv h; cases e
  | c w => cases h
theorem rd_dict (A : Abs K F R M H) (r : LR K F v l) {ds : List (PyData × PyData)} (h : rd M l = some (.dict ds)) : ∃ p kvs, v = .ref p ∧ H p = some (.dK kvs) ∧ RpK K F kvs ds := by
  cases l with
  | d x =>
    cases h
    cases r with
    | dct hs ha => exact ⟨_, _, rfl, A.fz _ _ hs, ha⟩
  | p a => obtain ⟨ds', e, hm⟩ := rd_p_inv h; cases e
  | c w => cases h
theorem rd_rep (A : Abs K F R M H) (r : LR K F v l) {x : PyData} (h : rd M l = some x) : Rp K H v x := by
  cases l with
  | d y => cases h; exact Rp.mono A.fz r
  | p a =>
    obtain ⟨ds', e, hm⟩ := rd_p_inv h
    cases e
    obtain ⟨p, vs, e, hs, ha⟩ := rd_list A r h
    rw [e]
    exact .lst hs (RpA.mono A.fz ha)
  | c w => cases h
end

/-! ### two-place operators on data -/
/-- f tells what it asks of x and y, and the answer -/
def dBin (f : PyData → PyData → (PyData → Prop) → Prop) : DR2 := fun a b M q => ∃ x y, rd M a = some x ∧ rd M b = some y ∧ f x y fun z => q (.d z) M
@[simp] theorem dBin_d (f : PyData → PyData → (PyData → Prop) → Prop) (x y : PyData) (M : Ms) (q : DQ) : dBin f (.d x) (.d y) M q ↔ f x y fun z => q (.d z) M := by
  constructor
  · rintro ⟨x', y', e1, e2, h⟩
    cases e1
    cases e2
    exact h
  · exact fun h => ⟨x, y, rfl, rfl, h⟩
def addW : PyData → PyData → (PyData → Prop) → Prop
  | .int i, .int j, q => q (.int (i + j))
  | .str i, .str j, q => i.length + j.length ≤ sizeLine ∧ q (.str (i ++ j))
  | .list xs, .list ys, q => xs.length + ys.length ≤ sizeLine ∧ q (.list (xs ++ ys))
  | .tuple xs, .tuple ys, q => xs.length + ys.length ≤ sizeLine ∧ q (.tuple (xs ++ ys))
  | _, _, _ => False
def subW : PyData → PyData → (PyData → Prop) → Prop
  | .int i, .int j, q => q (.int (i - j))
  | _, _, _ => False
def mulW : PyData → PyData → (PyData → Prop) → Prop
  | .int i, .int j, q => CMul i j ∧ q (.int (i * j))
  | .list xs, .int k, q => -(2 ^ 63) ≤ k ∧ k < 2 ^ 63 ∧ xs.length * k.toNat ≤ sizeLine ∧ q (.list (List.replicate k.toNat xs).flatten)
  | _, _, _ => False
def modW : PyData → PyData → (PyData → Prop) → Prop
  | .int i, .int j, q => 0 < j ∧ q (.int (i % j))
  | _, _, _ => False
def fdivW : PyData → PyData → (PyData → Prop) → Prop
  | .int i, .int j, q => CDiv i j ∧ q (.int (i / j))
  | _, _, _ => False
def powW : PyData → PyData → (PyData → Prop) → Prop
  | .int i, .int j, q => CPow i j ∧ q (.int (i ^ j.toNat))
  | _, _, _ => False
def ordW (f : Int → Int → Bool) : PyData → PyData → (PyData → Prop) → Prop
  | .int i, .int j, q => q (.bool (f i j))
  | _, _, _ => False
/-- the ints of a list of them -/
def intsD : List PyData → Option (List Int)
  | [] => some []
  | .int i :: r => (intsD r).map (i :: ·)
  | _ :: _ => none
theorem intsD_map : ∀ ns : List Int, intsD (ns.map PyData.int) = some ns
  | [] => rfl
  | x :: r => by
    show (intsD (r.map PyData.int)).map (x :: ·) = _
    rw [intsD_map r]
    rfl
theorem intsD_rep {K : PySem.W.Frag} {F : Hp} : ∀ {ds : List PyData} {vs : List V} {ns : List Int}, intsD ds = some ns → RpA K F vs ds → vs = ns.map V.int
  | [], _, _, h, r => by cases h; cases r; rfl
  | .int i :: ds, _, ns, h, r => by
    cases r with
    | cons r1 r2 =>
      cases r1
      cases q : intsD ds with
      | none =>
        have h' : (intsD ds).map (i :: ·) = some ns := h
        rw [q] at h'
        cases h'
      | some ms =>
        have h' : (intsD ds).map (i :: ·) = some ns := h
        rw [q] at h'
        cases h'
        rw [intsD_rep q r2]
        rfl
  | .none :: _, _, _, h, _ => by cases h
  | .bool _ :: _, _, _, h, _ => by cases h
  | .str _ :: _, _, _, h, _ => by cases h
  | .list _ :: _, _, _, h, _ => by cases h
  | .tuple _ :: _, _, _, h, _ => by cases h
  | .dict _ :: _, _, _, h, _ => by cases h
def leL (ns ms : List Int) : Bool := Ob.lexAt (fun j => decide (ns.getD j 0 = ms.getD j 0)) (fun j => decide (ns.getD j 0 ≤ ms.getD j 0)) (decide (ns.length ≤ ms.length)) 0 (min ns.length ms.length)
def leW : PyData → PyData → (PyData → Prop) → Prop
  | .int i, .int j, q => q (.bool (decide (i ≤ j)))
  | .tuple xs, .tuple ys, q => ∃ ns ms, intsD xs = some ns ∧ intsD ys = some ms ∧ q (.bool (leL ns ms))
  | _, _, _ => False
def ltW : PyData → PyData → (PyData → Prop) → Prop
  | .int i, .int j, q => q (.bool (decide (i < j)))
  | .tuple xs, .tuple ys, q => ∃ ns ms, intsD xs = some ns ∧ intsD ys = some ms ∧ q (.bool (HT.lexLt ns ms))
  | _, _, _ => False
/-- == is told of these two -/
def scalD : PyData → PyData → Bool
  | .none, .none => true | .none, .int _ => true | .int _, .none => true | .none, .bool _ => true | .bool _, .none => true | .none, .str _ => true | .str _, .none => true
  | .int _, .int _ => true | .bool _, .bool _ => true | .str _, .str _ => true
  | .int _, .str _ => true | .str _, .int _ => true | .bool _, .str _ => true | .str _, .bool _ => true
  | _, _ => false
def eqOk (x y : PyData) : Bool := scalD x y || (SeqAt.shaped x && SeqAt.shaped y)
def eqW (x y : PyData) (q : PyData → Prop) : Prop := eqOk x y = true ∧ q (.bool (PyData.eqv x y))
def neW (x y : PyData) (q : PyData → Prop) : Prop := eqOk x y = true ∧ q (.bool (!PyData.eqv x y))
def memW (neg : Bool) : PyData → PyData → (PyData → Prop) → Prop
  | x, .list ys, q => SeqAt.shaped x = true ∧ SeqAt.shaped (.list ys) = true ∧ q (.bool ((ys.any fun z => PyData.eqv z x) != neg))
  | x, .tuple ys, q => SeqAt.shaped x = true ∧ SeqAt.shaped (.tuple ys) = true ∧ q (.bool ((ys.any fun z => PyData.eqv z x) != neg))
  | .str i, .str j, q => q (.bool ((!(Builtin.Str.occurrences j i 0 j.length 1).isEmpty) != neg))
  | _, _, _ => False
end DL
end
section
/-! the operators keep what is told of data -/
namespace DL
open PySem PySem.Spec PyProof.Rows L2

def rW (K : PySem.W.Frag) (w : PyData → PyData → (PyData → Prop) → Prop) : R2 := fun x y H Q =>
  ∃ F R M a b q, Abs K F R M H ∧ LR K F x a ∧ LR K F y b ∧ dBin w a b M q ∧ Cont K F R q Q
theorem opD_of {K : PySem.W.Frag} (w : PyData → PyData → (PyData → Prop) → Prop) : OpD K (rW K w) (dBin w) := fun F R M H x y a b q Q A r1 r2 h c => ⟨F, R, M, a, b, q, A, r1, r2, h, c⟩
/-- the answer is a plain value -/
theorem Cont.plain {K : PySem.W.Frag} {F R H : Hp} {M : Ms} {q : DQ} {Q : VK} (c : Cont K F R q Q) (A : Abs K F R M H) {v : V} {x : PyData} (r : Rp K F v x) (h : q (.d x) M) : Q v H :=
  c (.d x) M v H F (Same.refl F) A r h
/-- the answer is a new list that nobody will change -/
theorem Cont.lst {K : PySem.W.Frag} {F R H : Hp} {M : Ms} {q : DQ} {Q : VK} (c : Cont K F R q Q) (A : Abs K F R M H) {p : Addr} (hp : H p = none) {vs : List V} {ds : List PyData} (r : RpA K F vs ds) (h : q (.d (.list ds)) M) : Q (.ref p) (upd H p (.lst vs)) :=
  have s := same_new (o := .lst vs) (A.freeF hp)
  c (.d (.list ds)) M (.ref p) _ _ s (A.frz hp) (.lst (.inl (.inl upd_same)) (RpA.mono s r)) h
theorem Cont.tup {K : PySem.W.Frag} {F R H : Hp} {M : Ms} {q : DQ} {Q : VK} (c : Cont K F R q Q) (A : Abs K F R M H) {p : Addr} (hp : H p = none) {vs : List V} {ds : List PyData} {o : Obj} (ho : PlT o) (r : RpA K F vs ds) (h : q (.d (.tuple ds)) M) : Q (.ref p) (upd H p (.frz o (.tup vs))) :=
  have s := same_new (o := .frz o (.tup vs)) (A.freeF hp)
  c (.d (.tuple ds)) M (.ref p) _ _ s (A.frz hp) (.tup ⟨o, upd_same, ho⟩ (RpA.mono s r)) h
/-- t + u, any tuples; what is new is a plain one -/
def rCatP (K : PySem.W.Frag) : R2 := fun x y H Q => ∃ a b xs ys, x = .ref a ∧ y = .ref b ∧ SqT K H a xs ∧ SqT K H b ys ∧ xs.length + ys.length ≤ sizeLine ∧
  (xs = [] → Q (.ref b) H) ∧ (ys = [] → Q (.ref a) H) ∧ ∀ p o, PlT o → H p = none → Q (.ref p) (upd H p (.frz o (.tup (xs ++ ys))))
theorem op_catP {X : Cx} : OpR X (binaryOp .Add) (rCatP X.K) := by
  rintro pins s σ H x y v u Q I rx ry ⟨a, b, xs, ys, rfl, rfl, ha, hb, hz, q0, q1, q2⟩
  cases rx
  cases ry
  obtain ⟨its, r1, p1, _⟩ := I.tuple ha
  obtain ⟨its2, r2, p2, _⟩ := I.tuple hb
  by_cases hx : xs = []
  · subst hx
    cases r1
    exact cat_tup0 p1 p2 ⟨.ref b, H, I, rfl, q0 rfl⟩
  refine HT.cat_tup p1 p2 (fun z => hx (r1.nil_iff.mp z)) (fun z => ⟨.ref a, H, I, rfl, q1 (r2.nil_iff.mp z)⟩) (fun z => ?_) (by rw [← r1.length, ← r2.length]; exact hz)
  refine ⟨.ref s.heap.objs.size, _, I.laid (t' := s.toks) (fun c ob q => Heap.get?_push_of_some _ q) (Nat.le_refl _) (o := .frz _ (.tup (xs ++ ys))) ⟨Heap.get?_push_size _ rfl, ?_⟩, rfl, q2 _ _ ⟨rfl, rfl⟩ (I.hok.fresh (Nat.le_refl _))⟩
  exact ⟨by rw [List.length_append]; exact hz, _, r1.append r2, IsTup.new _ _⟩
section
variable {X : Cx}
/-- list + list, of any lists that are read -/
theorem rd_obj {pins : List (Addr × Obj)} {s : Shared} {σ : L2.St} {H : Hp} {l : Addr} {xs : List V} (I : L2.Inv X pins σ H s) (h : SqM X.K H l xs) :
    ∃ (its : List Value) (n : Nat), Vals xs its ∧ xs.length = its.length ∧ xs.length ≤ sizeLine ∧ s.heap.get? l = some { cls := .type "list", data := .seq its.toArray n } := by
  rcases h with h | ⟨its, n, hk, hz, r⟩
  · obtain ⟨z, its, n, r, e⟩ := h.ok I.hok
    exact ⟨its, n, r, r.length, z, e⟩
  · refine ⟨its.toList, n, r, r.length, ?_, ?_⟩
    · rw [r.length, Array.length_toList]
      exact hz
    · exact I.kIn _ _ hk
theorem op_catL : OpR X (binaryOp .Add) (fun x y H Q => ∃ l b xs zs, x = .ref l ∧ y = .ref b ∧ SqM X.K H l xs ∧ SqM X.K H b zs ∧ xs.length + zs.length ≤ sizeLine ∧
    ∀ p, H p = none → Q (.ref p) (upd H p (.lst (xs ++ zs)))) := by
  intro pins s σ H x y v u Q I rx ry h
  obtain ⟨l, b, xs, zs, rfl, rfl, hL, hB, hz, q⟩ := h
  cases rx
  cases ry
  obtain ⟨its, n1, r1, l1, _, e1⟩ := rd_obj I hL
  obtain ⟨its2, n2, r2, l2, _, e2⟩ := rd_obj I hB
  refine PySem.P.add_list e1 e2 ?_ (by rw [List.size_toArray, List.size_toArray]; omega)
  have ea : its.toArray ++ its2.toArray = (its ++ its2).toArray := by simp
  rw [ea]
  exact ⟨.ref _, _, I.lnew (t' := s.toks) (r1.append r2) (by rw [List.length_append]; omega), rfl, q _ I.fresh⟩
theorem opx_add : OpR X (binaryOp .Add) (rW X.K addW) := by
  rintro pins s σ H x y v u Q I rx ry ⟨F, R, M, a, b, q, A, ra, rb, ⟨da, db, ea, eb, h⟩, c⟩
  match da, db, ea, eb, h with
  | .int i, .int j, ea, eb, h =>
    exact op_add pins s σ H _ _ v u Q I rx ry ⟨i, j, rd_int ra ea, rd_int rb eb, c.plain A (.int _) h⟩
  | .str i, .str j, ea, eb, h =>
    exact op_add_str pins s σ H _ _ v u Q I rx ry ⟨i, j, rd_str ra ea, rd_str rb eb, h.1, c.plain A (.str _) h.2⟩
  | .list xs, .list ys, ea, eb, h =>
    obtain ⟨p, vs, e1, s1, r1⟩ := rd_list A ra ea
    obtain ⟨p2, vs2, e2, s2, r2⟩ := rd_list A rb eb
    exact op_catL pins s σ H _ _ v u Q I rx ry ⟨p, p2, vs, vs2, e1, e2, s1, s2, by rw [r1.length, r2.length]; exact h.1, fun p hp => c.lst A hp (r1.append r2) h.2⟩
  | .tuple xs, .tuple ys, ea, eb, h =>
    obtain ⟨p, vs, e1, s1, r1⟩ := rd_tuple A ra ea
    obtain ⟨p2, vs2, e2, s2, r2⟩ := rd_tuple A rb eb
    refine op_catP pins s σ H _ _ v u Q I rx ry ⟨p, p2, vs, vs2, e1, e2, s1, s2, by rw [r1.length, r2.length]; exact h.1, fun z => ?_, fun z => ?_, fun p o ho hp => c.tup A hp ho (r1.append r2) h.2⟩
    · subst z
      cases r1
      exact c.plain A (e2 ▸ rd_tupleF rb eb) h.2
    · subst z
      cases r2
      refine c.plain A (e1 ▸ rd_tupleF ra ea) ?_
      have := h.2
      rw [List.append_nil] at this
      exact this
theorem opx_sub : OpR X (binaryOp .Sub) (rW X.K subW) := by
  rintro pins s σ H x y v u Q I rx ry ⟨F, R, M, a, b, q, A, ra, rb, ⟨da, db, ea, eb, h⟩, c⟩
  match da, db, ea, eb, h with
  | .int i, .int j, ea, eb, h => exact op_sub pins s σ H _ _ v u Q I rx ry ⟨i, j, rd_int ra ea, rd_int rb eb, c.plain A (.int _) h⟩
theorem opx_mod : OpR X (binaryOp .Mod) (rW X.K modW) := by
  rintro pins s σ H x y v u Q I rx ry ⟨F, R, M, a, b, q, A, ra, rb, ⟨da, db, ea, eb, h⟩, c⟩
  match da, db, ea, eb, h with
  | .int i, .int j, ea, eb, h => exact op_mod pins s σ H _ _ v u Q I rx ry ⟨i, j, rd_int ra ea, rd_int rb eb, h.1, c.plain A (.int _) h.2⟩
theorem opx_fdiv : OpR X (binaryOp .FloorDiv) (rW X.K fdivW) := by
  rintro pins s σ H x y v u Q I rx ry ⟨F, R, M, a, b, q, A, ra, rb, ⟨da, db, ea, eb, h⟩, c⟩
  match da, db, ea, eb, h with
  | .int i, .int j, ea, eb, h => exact op_fdiv pins s σ H _ _ v u Q I rx ry ⟨i, j, rd_int ra ea, rd_int rb eb, h.1, c.plain A (.int _) h.2⟩
theorem opx_pow : OpR X (binaryOp .Pow) (rW X.K powW) := by
  rintro pins s σ H x y v u Q I rx ry ⟨F, R, M, a, b, q, A, ra, rb, ⟨da, db, ea, eb, h⟩, c⟩
  match da, db, ea, eb, h with
  | .int i, .int j, ea, eb, h => exact op_pow pins s σ H _ _ v u Q I rx ry ⟨i, j, rd_int ra ea, rd_int rb eb, h.1, c.plain A (.int _) h.2⟩
theorem opx_lt (hu : X.A.units < cLine) : OpR X (compareOp .Lt) (rW X.K ltW) := by
  rintro pins s σ H x y v u Q I rx ry ⟨F, R, M, a, b, q, A, ra, rb, ⟨da, db, ea, eb, h⟩, c⟩
  match da, db, ea, eb, h with
  | .int i, .int j, ea, eb, h => exact op_lt pins s σ H _ _ v u Q I rx ry ⟨i, j, rd_int ra ea, rd_int rb eb, c.plain A (.bl _) h⟩
  | .tuple xs, .tuple ys, ea, eb, h =>
    obtain ⟨ns, ms, n1, n2, h⟩ := h
    obtain ⟨p, vs, e1, s1, r1⟩ := rd_tuple A ra ea
    obtain ⟨p2, vs2, e2, s2, r2⟩ := rd_tuple A rb eb
    have i1 := intsD_rep n1 r1
    have i2 := intsD_rep n2 r2
    subst i1 i2
    exact op_ltT hu pins s σ H _ _ v u Q I rx ry ⟨p, p2, ns, ms, e1, e2, s1, s2, c.plain A (.bl _) h⟩
theorem opx_le (hu : X.A.units < cLine) : OpR X (compareOp .LtE) (rW X.K leW) := by
  rintro pins s σ H x y v u Q I rx ry ⟨F, R, M, a, b, q, A, ra, rb, ⟨da, db, ea, eb, h⟩, c⟩
  match da, db, ea, eb, h with
  | .int i, .int j, ea, eb, h => exact op_le pins s σ H _ _ v u Q I rx ry ⟨i, j, rd_int ra ea, rd_int rb eb, c.plain A (.bl _) h⟩
  | .tuple xs, .tuple ys, ea, eb, h =>
    obtain ⟨ns, ms, n1, n2, h⟩ := h
    obtain ⟨p, vs, e1, s1, r1⟩ := rd_tuple A ra ea
    obtain ⟨p2, vs2, e2, s2, r2⟩ := rd_tuple A rb eb
    have i1 := intsD_rep n1 r1
    have i2 := intsD_rep n2 r2
    subst i1 i2
    exact op_leT hu pins s σ H _ _ v u Q I rx ry ⟨p, p2, ns, ms, e1, e2, s1, s2, c.plain A (.bl _) h⟩
theorem opx_gt : OpR X (compareOp .Gt) (rW X.K (ordW fun i j => decide (j < i))) := by
  rintro pins s σ H x y v u Q I rx ry ⟨F, R, M, a, b, q, A, ra, rb, ⟨da, db, ea, eb, h⟩, c⟩
  match da, db, ea, eb, h with
  | .int i, .int j, ea, eb, h => exact op_gt pins s σ H _ _ v u Q I rx ry ⟨i, j, rd_int ra ea, rd_int rb eb, c.plain A (.bl _) h⟩
theorem opx_ge : OpR X (compareOp .GtE) (rW X.K (ordW fun i j => decide (j ≤ i))) := by
  rintro pins s σ H x y v u Q I rx ry ⟨F, R, M, a, b, q, A, ra, rb, ⟨da, db, ea, eb, h⟩, c⟩
  match da, db, ea, eb, h with
  | .int i, .int j, ea, eb, h => exact op_ge pins s σ H _ _ v u Q I rx ry ⟨i, j, rd_int ra ea, rd_int rb eb, c.plain A (.bl _) h⟩

/-! ### ==, != -/
theorem scal_of {K : PySem.W.Frag} {F : Hp} {x y : V} {d e : PyData} (rx : Rp K F x d) (ry : Rp K F y e) (h : scalD d e = true) : scal x y = true ∧ decide (x = y) = PyData.eqv d e := by
  cases rx <;> cases ry <;> first
    | (exact absurd (show false = true from h) Bool.false_ne_true)
    | (refine ⟨rfl, ?_⟩
       first
         | (simp [PyData.eqv]; done)
         | (simp only [PyData.eqv]; exact dec_int)
         | (simp only [PyData.eqv]; exact dec_bl)
         | (simp only [PyData.eqv]; exact dec_str))
theorem opx_eq (hu : X.A.units + 64 < cLine) : OpR X (compareOp .Eq) (rW X.K eqW) := by
  rintro pins s σ H x y v u Q I rx ry ⟨F, R, M, a, b, q, A, ra, rb, ⟨da, db, ea, eb, ok, h⟩, c⟩
  have r1 := rd_rep A ra ea
  have r2 := rd_rep A rb eb
  rcases Bool.or_eq_true_iff.mp ok with ok | ok
  · obtain ⟨h1, h2⟩ := scal_of r1 r2 ok
    exact op_eq pins s σ H _ _ v u Q I rx ry ⟨h1, by rw [h2]; exact c.plain A (.bl _) h⟩
  · obtain ⟨o1, o2⟩ := Bool.and_eq_true_iff.mp ok
    obtain ⟨as, q1, _⟩ := Rp.reads I r1 rx
    obtain ⟨bs, q2, _⟩ := Rp.reads I r2 ry
    exact SeqAt.compareEq_shaped q1 q2 o1 o2 hu ⟨.bl _, H, I, rfl, c.plain A (.bl _) h⟩
theorem opx_ne (hu : X.A.units + 64 < cLine) : OpR X (compareOp .NotEq) (rW X.K neW) := by
  rintro pins s σ H x y v u Q I rx ry ⟨F, R, M, a, b, q, A, ra, rb, ⟨da, db, ea, eb, ok, h⟩, c⟩
  have r1 := rd_rep A ra ea
  have r2 := rd_rep A rb eb
  rcases Bool.or_eq_true_iff.mp ok with ok | ok
  · obtain ⟨h1, h2⟩ := scal_of r1 r2 ok
    exact op_ne pins s σ H _ _ v u Q I rx ry ⟨h1, by rw [h2]; exact c.plain A (.bl _) h⟩
  · obtain ⟨o1, o2⟩ := Bool.and_eq_true_iff.mp ok
    obtain ⟨as, q1, _⟩ := Rp.reads I r1 rx
    obtain ⟨bs, q2, _⟩ := Rp.reads I r2 ry
    exact SeqAt.compareNe_shaped q1 q2 o1 o2 hu ⟨.bl _, H, I, rfl, c.plain A (.bl _) h⟩

/-! ### in, not in -/
theorem opx_in (hu : X.A.units + 65 < cLine) : OpR X (compareOp .In) (rW X.K (memW false)) := by
  rintro pins s σ H x y v u Q I rx ry ⟨F, R, M, a, b, q, A, ra, rb, ⟨da, db, ea, eb, h⟩, c⟩
  have r1 := rd_rep A ra ea
  have r2 := rd_rep A rb eb
  cases db with
  | list ys =>
    obtain ⟨o1, o2, h⟩ := h
    obtain ⟨as, q1, _⟩ := Rp.reads I r1 rx
    obtain ⟨bs, q2, _⟩ := Rp.reads I r2 ry
    exact SeqAt.in_list_reads q2 q1 (SeqAt.canLay_of_shaped o2) (SeqAt.canLay_of_shaped o1) (room_in_shaped o1 hu) ⟨.bl _, H, I, rfl, c.plain A (.bl _) (by simpa using h)⟩
  | tuple ys =>
    obtain ⟨o1, o2, h⟩ := h
    obtain ⟨as, q1, _⟩ := Rp.reads I r1 rx
    obtain ⟨bs, q2, _⟩ := Rp.reads I r2 ry
    exact SeqAt.in_tuple_reads q2 q1 (SeqAt.canLay_of_shaped o2) (SeqAt.canLay_of_shaped o1) (room_in_shaped o1 hu) ⟨.bl _, H, I, rfl, c.plain A (.bl _) (by simpa using h)⟩
  | str j =>
    cases da with
    | str i => exact op_in_str pins s σ H _ _ v u Q I rx ry ⟨i, j, rd_str ra ea, rd_str rb eb, c.plain A (.bl _) (by simpa [memW] using h)⟩
    | _ => exact h.elim
  | _ => cases da <;> exact h.elim
theorem opx_notin (hu : X.A.units + 65 < cLine) : OpR X (compareOp .NotIn) (rW X.K (memW true)) := by
  rintro pins s σ H x y v u Q I rx ry ⟨F, R, M, a, b, q, A, ra, rb, ⟨da, db, ea, eb, h⟩, c⟩
  have r1 := rd_rep A ra ea
  have r2 := rd_rep A rb eb
  cases db with
  | list ys =>
    obtain ⟨o1, o2, h⟩ := h
    obtain ⟨as, q1, _⟩ := Rp.reads I r1 rx
    obtain ⟨bs, q2, _⟩ := Rp.reads I r2 ry
    exact SeqAt.notIn_list_reads q2 q1 (SeqAt.canLay_of_shaped o2) (SeqAt.canLay_of_shaped o1) (room_in_shaped o1 hu) ⟨.bl _, H, I, rfl, c.plain A (.bl _) (by simpa using h)⟩
  | tuple ys =>
    obtain ⟨o1, o2, h⟩ := h
    obtain ⟨as, q1, _⟩ := Rp.reads I r1 rx
    obtain ⟨bs, q2, _⟩ := Rp.reads I r2 ry
    exact SeqAt.notIn_tuple_reads q2 q1 (SeqAt.canLay_of_shaped o2) (SeqAt.canLay_of_shaped o1) (room_in_shaped o1 hu) ⟨.bl _, H, I, rfl, c.plain A (.bl _) (by simpa using h)⟩
  | str j =>
    cases da with
    | str i => exact op_notIn_str pins s σ H _ _ v u Q I rx ry ⟨i, j, rd_str ra ea, rd_str rb eb, c.plain A (.bl _) (by simpa [memW] using h)⟩
    | _ => exact h.elim
  | _ => cases da <;> exact h.elim
end
end DL
end
section
/-! expressions on data -/
namespace DL
open PySem PySem.Spec PyProof.Rows L2
section
variable {X : Cx} {G : GH} {a b c e : Expr} {es : List Expr} {pos p p2 : Pos} {da db dc de : DE}

/-! ### operators by name -/
theorem px_add (ha : PX X G a da) (hb : PX X G b db) : PX X G (.BinOp a .Add b pos) (dOp (dBin addW) da db) := px_bin opx_add (opD_of _) ha hb
theorem px_sub (ha : PX X G a da) (hb : PX X G b db) : PX X G (.BinOp a .Sub b pos) (dOp (dBin subW) da db) := px_bin opx_sub (opD_of _) ha hb
theorem px_mod (ha : PX X G a da) (hb : PX X G b db) : PX X G (.BinOp a .Mod b pos) (dOp (dBin modW) da db) := px_bin opx_mod (opD_of _) ha hb
theorem px_fdiv (ha : PX X G a da) (hb : PX X G b db) : PX X G (.BinOp a .FloorDiv b pos) (dOp (dBin fdivW) da db) := px_bin opx_fdiv (opD_of _) ha hb
theorem px_pow (ha : PX X G a da) (hb : PX X G b db) : PX X G (.BinOp a .Pow b pos) (dOp (dBin powW) da db) := px_bin opx_pow (opD_of _) ha hb
theorem rpa_flat {K : PySem.W.Frag} {F : Hp} {vs : List V} {xs : List PyData} (r : RpA K F vs xs) (n : Nat) : RpA K F (List.replicate n vs).flatten (List.replicate n xs).flatten := by
  induction n with
  | zero => exact .nil
  | succ n ih =>
    rw [List.replicate_succ, List.replicate_succ, List.flatten_cons, List.flatten_cons]
    exact r.append ih
theorem foldl_flat (ys : List Value) : ∀ (n : Nat) (acc : List Value),
    List.foldl (fun x1 x2 => x1 ++ x2) acc.toArray (List.replicate n ys.toArray) = (acc ++ (List.replicate n ys).flatten).toArray
  | 0, acc => by simp
  | n + 1, acc => by
    rw [List.replicate_succ, List.foldl_cons, List.replicate_succ, List.flatten_cons, ← List.append_assoc,
      ← foldl_flat ys n (acc ++ ys)]
    simp
theorem op_repL : OpR X (binaryOp .Mult) (fun x y H Q => ∃ l k xs, x = .ref l ∧ y = .int k ∧ SqM X.K H l xs ∧
    -(2 ^ 63) ≤ k ∧ k < 2 ^ 63 ∧ xs.length * k.toNat ≤ sizeLine ∧
    ∀ p, H p = none → Q (.ref p) (upd H p (.lst (List.replicate k.toNat xs).flatten))) := by
  rintro pins s σ H x y v u Q I rx ry ⟨l, k, xs, rfl, rfl, hL, lo, hi, hz, q⟩
  cases rx
  obtain ⟨t, rfl⟩ := ry
  obtain ⟨ys, n, r, hl, _, e⟩ := rd_obj I hL
  have size_ : ys.toArray.size * k.toNat ≤ sizeLine := by
    rw [List.size_toArray, ← hl]
    exact hz
  have cap : ¬ ys.toArray.size * k.toNat > (2 ^ 63 - 1) / 8 := fun z => by
    have h8 : (sizeLine : Nat) ≤ (2 ^ 63 - 1) / 8 := by decide
    omega
  have fit : ¬ (!Builtin.List.listFitsIndex k) = true := fun z => by
    rw [fitsIndex_both lo hi] at z
    cases z
  have long : ¬ Builtin.List.listTooLong (ys.toArray.size * k.toNat) = true := fun z => by
    rw [notLongL size_] at z
    cases z
  have items : List.foldl (fun x1 x2 => x1 ++ x2) #[]
      (List.replicate (if ys.toArray.isEmpty = true then 0 else k.toNat) ys.toArray) = (List.replicate k.toNat ys).flatten.toArray := by
    cases ys with
    | nil => simp
    | cons z zs =>
      rw [if_neg (by simp)]
      exact (foldl_flat (z :: zs) k.toNat []).trans (by rw [List.nil_append])
  have mul : wpAny (model X.prog X.w) X.A (call (.builtin "list.__mul__") [.ref l, .int k t]) (EP X pins σ Q) X.xe s := by
    refine call_meets F.slot_list_mul ⟨_, e, rfl⟩ F.entry_list_mul (F.args_list_mul_2 _ _)
      (AutoListH.list___mul___list_int_3 l ys.toArray n k t fit cap long) ⟨e, ?_⟩
    rw [items]
    refine ⟨.ref _, _, I.lnew (t' := s.toks) (r.rep k.toNat) ?_, rfl, q _ I.fresh⟩
    rw [PyProof.Rows.lm_len_rep_flat, Nat.mul_comm]
    exact hz
  exact wpAny_binaryOp_repeat_ref (T := "list") (U := "int") (by decide) ⟨_, e, rfl⟩
    (fun s' => typeIs_int s' k t) noFill_list_mul F.fills_int_mul F.slot_int_rmul repeat_list F.slot_int_index.lookup
    (call_meets F.slot_int_rmul (typeIs_int s k t) F.entry_int_rmul (F.args_int_rmul_2 _ _)
      (int___rmul___int_list k t l ys.toArray n) ⟨e, rfl, ⟨_, e, rfl⟩, mul⟩)
theorem opx_mul : OpR X (binaryOp .Mult) (rW X.K mulW) := by
  rintro pins s σ H x y v u Q I rx ry ⟨F, R, M, a, b, q, A, ra, rb, ⟨da, db, ea, eb, h⟩, c⟩
  match da, db, ea, eb, h with
  | .int i, .int j, ea, eb, h => exact op_mul pins s σ H _ _ v u Q I rx ry ⟨i, j, rd_int ra ea, rd_int rb eb, h.1, c.plain A (.int _) h.2⟩
  | .list xs, .int k, ea, eb, h =>
    obtain ⟨p, vs, e1, s1, r1⟩ := rd_list A ra ea
    have e2 := rd_int rb eb
    subst e1 e2
    obtain ⟨h1, h2, h3, h4⟩ := h
    exact op_repL pins s σ H _ _ v u Q I rx ry ⟨p, k, vs, rfl, rfl, s1, h1, h2, by rw [r1.length]; exact h3, fun p hp => c.lst A hp (rpa_flat r1 _) h4⟩
theorem px_mul (ha : PX X G a da) (hb : PX X G b db) : PX X G (.BinOp a .Mult b pos) (dOp (dBin mulW) da db) := px_bin opx_mul (opD_of _) ha hb
theorem px_lt (hr : RoomG 0 X.A) (ha : PX X G a da) (hb : PX X G b db) : PX X G (.Compare a [.Lt] [b] pos) (dOp (dBin ltW) da db) := px_cmp (opx_lt hr.rm.units0) (opD_of _) ha hb
theorem px_le (hr : RoomG 0 X.A) (ha : PX X G a da) (hb : PX X G b db) : PX X G (.Compare a [.LtE] [b] pos) (dOp (dBin leW) da db) := px_cmp (opx_le hr.rm.units0) (opD_of _) ha hb
def gtW := ordW fun i j => decide (j < i)
def geW := ordW fun i j => decide (j ≤ i)
theorem px_gt (ha : PX X G a da) (hb : PX X G b db) : PX X G (.Compare a [.Gt] [b] pos) (dOp (dBin gtW) da db) := px_cmp opx_gt (opD_of _) ha hb
theorem px_ge (ha : PX X G a da) (hb : PX X G b db) : PX X G (.Compare a [.GtE] [b] pos) (dOp (dBin geW) da db) := px_cmp opx_ge (opD_of _) ha hb
theorem px_eq (hr : RoomG 0 X.A) (ha : PX X G a da) (hb : PX X G b db) : PX X G (.Compare a [.Eq] [b] pos) (dOp (dBin eqW) da db) := px_cmp (opx_eq hr.rm.units) (opD_of _) ha hb
theorem px_ne (hr : RoomG 0 X.A) (ha : PX X G a da) (hb : PX X G b db) : PX X G (.Compare a [.NotEq] [b] pos) (dOp (dBin neW) da db) := px_cmp (opx_ne hr.rm.units) (opD_of _) ha hb
theorem px_in (hr : RoomG 0 X.A) (ha : PX X G a da) (hb : PX X G b db) (hm : behindInMarks .In b = false := by first | exact nomark _ | rfl) : PX X G (.Compare a [.In] [b] pos) (dOp (dBin (memW false)) da db) :=
  px_cmp (opx_in (by have := hr.rm.un; omega)) (opD_of _) ha hb hm
theorem px_notin (hr : RoomG 0 X.A) (ha : PX X G a da) (hb : PX X G b db) (hm : behindInMarks .NotIn b = false := by first | exact nomark _ | rfl) : PX X G (.Compare a [.NotIn] [b] pos) (dOp (dBin (memW true)) da db) :=
  px_cmp (opx_notin (by have := hr.rm.un; omega)) (opD_of _) ha hb hm
/-- x is None -/
def isNW (neg : Bool) : PyData → PyData → (PyData → Prop) → Prop
  | .none, .none, q => q (.bool (true != neg))
  | _, .none, q => q (.bool (false != neg))
  | _, _, _ => False
theorem opx_isN : OpR X (compareOp .Is) (rW X.K (isNW false)) := by
  rintro pins s σ H x y v u Q I rx ry ⟨F, R, M, a, b, q, A, ra, rb, ⟨da, db, ea, eb, h⟩, c⟩
  have r1 := rd_rep A ra ea
  cases db with
  | none =>
    refine op_isN pins s σ H _ _ v u Q I rx ry ⟨rd_none rb eb, ?_⟩
    cases r1 <;> exact c.plain A (.bl _) h
  | _ => cases da <;> exact h.elim
theorem opx_notN : OpR X (compareOp .IsNot) (rW X.K (isNW true)) := by
  rintro pins s σ H x y v u Q I rx ry ⟨F, R, M, a, b, q, A, ra, rb, ⟨da, db, ea, eb, h⟩, c⟩
  have r1 := rd_rep A ra ea
  cases db with
  | none =>
    refine op_notN pins s σ H _ _ v u Q I rx ry ⟨rd_none rb eb, ?_⟩
    cases r1 <;> exact c.plain A (.bl _) h
  | _ => cases da <;> exact h.elim
theorem px_is (ha : PX X G a da) (hb : PX X G b db) : PX X G (.Compare a [.Is] [b] pos) (dOp (dBin (isNW false)) da db) := px_cmp opx_isN (opD_of _) ha hb
theorem px_isnot (ha : PX X G a da) (hb : PX X G b db) : PX X G (.Compare a [.IsNot] [b] pos) (dOp (dBin (isNW true)) da db) := px_cmp opx_notN (opD_of _) ha hb

/-! ### -a, not, and, or, if -/
def dNeg (da : DE) : DE := fun η M q => da η M fun l M1 => ∃ i, l = .d (.int i) ∧ q (.d (.int (-i))) M1
theorem px_neg (ha : PX X G a da) : PX X G (.UnaryOp .USub a pos) (dNeg da) := by
  refine pe_imp (pe_un un_neg ha) ?_
  rintro σ H Q ⟨F, R, η, M, q, hG, A, E, h, c⟩
  refine le_bind hG A E h fun l M1 v H1 F1 g1 s1 A1 E1 r1 h1 => ?_
  obtain ⟨i, rfl, h1⟩ := h1
  cases r1
  exact ⟨i, rfl, (c.mono s1).plain A1 (.int _) h1⟩
def dNot (da : DE) : DE := fun η M q => da η M fun l M1 => ∃ c, l = .d (.bool c) ∧ q (.d (.bool (!c))) M1
theorem px_not (ha : PX X G a da) : PX X G (.UnaryOp .Not a pos) (dNot da) := by
  refine pe_imp (pe_not ha) ?_
  rintro σ H Q ⟨F, R, η, M, q, hG, A, E, h, c⟩
  refine le_bind hG A E h fun l M1 v H1 F1 g1 s1 A1 E1 r1 h1 => ?_
  obtain ⟨i, rfl, h1⟩ := h1
  cases r1
  exact ⟨i, rfl, (c.mono s1).plain A1 (.bl _) h1⟩
def dAnd (da db : DE) : DE := fun η M q => da η M fun l M1 => ∃ c, l = .d (.bool c) ∧ if c = true then db η M1 q else q (.d (.bool false)) M1
def dOr (da db : DE) : DE := fun η M q => da η M fun l M1 => ∃ c, l = .d (.bool c) ∧ if c = true then q (.d (.bool true)) M1 else db η M1 q
theorem px_one {op} (ha : PX X G a da) : PX X G (.BoolOp op [a] pos) da := pe_one ha
theorem px_and {r : List Expr} (ha : PX X G a da) (hb : PX X G (.BoolOp .And (b :: r) pos) db) : PX X G (.BoolOp .And (a :: b :: r) pos) (dAnd da db) := by
  refine pe_imp (pe_and ha hb) ?_
  rintro σ H Q ⟨F, R, η, M, q, hG, A, E, h, c⟩
  refine le_bind hG A E h fun l M1 v H1 F1 g1 s1 A1 E1 r1 h1 => ?_
  obtain ⟨i, rfl, h1⟩ := h1
  cases r1
  refine ⟨i, rfl, ?_⟩
  cases i with
  | true => exact iteT ⟨F1, R, η, M1, q, g1, A1, E1, h1, c.mono s1⟩
  | false => exact iteF ((c.mono s1).plain A1 (.bl _) h1)
theorem px_or {r : List Expr} (ha : PX X G a da) (hb : PX X G (.BoolOp .Or (b :: r) pos) db) : PX X G (.BoolOp .Or (a :: b :: r) pos) (dOr da db) := by
  refine pe_imp (pe_or ha hb) ?_
  rintro σ H Q ⟨F, R, η, M, q, hG, A, E, h, c⟩
  refine le_bind hG A E h fun l M1 v H1 F1 g1 s1 A1 E1 r1 h1 => ?_
  obtain ⟨i, rfl, h1⟩ := h1
  cases r1
  refine ⟨i, rfl, ?_⟩
  cases i with
  | true => exact iteT ((c.mono s1).plain A1 (.bl _) h1)
  | false => exact iteF ⟨F1, R, η, M1, q, g1, A1, E1, h1, c.mono s1⟩

/-! ### tests -/
theorem lt_bind {K : PySem.W.Frag} {G : GH} {F R : Hp} {σ : L2.St} {H : Hp} {η : Ev} {M : Ms} {dt : DT} {q : Bool → Ms → Prop} {Q : Bool → Hp → Prop}
    (hG : SG G F R) (A : Abs K F R M H) (E : Er K F σ η) (h : dt η M q)
    (c : ∀ b M' H' F', SG G F' R → Same F F' → Abs K F' R M' H' → Er K F' σ η → q b M' → Q b H') : LT K G dt σ H Q :=
  ⟨F, R, η, M, q, hG, A, E, h, fun b M' H' F' s A' h' => c b M' H' F' (hG.trans s) s A' (E.mono s) h'⟩
def dTst (da : DE) : DT := fun η M q => da η M fun l M1 => ∃ c, l = .d (.bool c) ∧ q c M1
theorem lt_tst {K : PySem.W.Frag} {σ : L2.St} {H : Hp} {Q : Bool → Hp → Prop} (h : LT K G (dTst da) σ H Q) : LE K G da σ H fun x H1 => ∃ c, x = .bl c ∧ Q c H1 := by
  obtain ⟨F, R, η, M, q, hG, A, E, h, c⟩ := h
  refine le_bind hG A E h fun l M1 v H1 F1 g1 s1 A1 E1 r1 h1 => ?_
  obtain ⟨i, rfl, h1⟩ := h1
  cases r1
  exact ⟨i, rfl, c i M1 H1 F1 s1 A1 h1⟩
/-- a comparison as a test -/
theorem pxt_cmp {op : CmpOp} {w : PyData → PyData → (PyData → Prop) → Prop} (ho : OpR X (compareOp op) (rW X.K w)) (ha : PX X G a da) (hb : PX X G b db) (hm : behindInMarks op b = false := by first | exact nomark _ | rfl) :
    PXT X G (.Compare a [op] [b] pos) (dTst (dOp (dBin w) da db)) := by
  refine pt_imp (pt_cmpR ho ha hb hm) fun σ H Q h => ?_
  exact le_op (opD_of _) (lt_tst h)
/-- a call, a name .. as a test: its value is a bool -/
theorem pxt_val (ha : PX X G a da) (he : ∀ whole, isTrue a X.env whole = (do let v ← whole; standAt a.pos; holding [v] (truthy v)) := by intro _; rfl) : PXT X G a (dTst da) := by
  refine pt_imp (pt_val ha he) fun σ H Q h => ?_
  exact lt_tst h
variable {ta tb : DT}
def dtNot (t : DT) : DT := fun η M q => t η M fun c M1 => q (!c) M1
def dtAnd (t u : DT) : DT := fun η M q => t η M fun c M1 => if c = true then u η M1 q else q false M1
def dtOr (t u : DT) : DT := fun η M q => t η M fun c M1 => if c = true then q true M1 else u η M1 q
theorem pxt_not (ha : PXT X G a ta) : PXT X G (.UnaryOp .Not a pos) (dtNot ta) := by
  refine pt_imp (pt_not ha) ?_
  rintro σ H Q ⟨F, R, η, M, q, hG, A, E, h, c⟩
  exact lt_bind hG A E h fun b M1 H1 F1 g1 s1 A1 E1 h1 => c _ M1 H1 F1 s1 A1 h1
def PXW (X : Cx) (G : GH) (e : Expr) (dt : DT) : Prop := PW X e (LT X.K G dt)
theorem pw_imp {X : Cx} {e : Expr} {t t' : TT} (h : PW X e t) (i : ∀ σ H Q, t' σ H Q → t σ H Q) : PW X e t' := ⟨fun w pins s σ H Q I q => h.run w pins s σ H Q I (i _ _ _ q)⟩
theorem pxw_and1 (ha : PXT X G a ta) : PXW X G (.BoolOp .And [a] pos) ta := pw_and1 ha
theorem pxw_or1 (ha : PXT X G a ta) : PXW X G (.BoolOp .Or [a] pos) ta := pw_or1 ha
theorem pxw_and {r : List Expr} (ha : PXT X G a ta) (hb : PXW X G (.BoolOp .And (b :: r) pos) tb) : PXW X G (.BoolOp .And (a :: b :: r) pos) (dtAnd ta tb) := by
  refine pw_imp (pw_and ha hb) ?_
  rintro σ H Q ⟨F, R, η, M, q, hG, A, E, h, c⟩
  refine lt_bind hG A E h fun b M1 H1 F1 g1 s1 A1 E1 h1 => ?_
  cases b with
  | true => exact iteT ⟨F1, R, η, M1, q, g1, A1, E1, h1, fun b M' H' F' s => c b M' H' F' (s1.trans s)⟩
  | false => exact iteF (c _ M1 H1 F1 s1 A1 h1)
theorem pxw_or {r : List Expr} (ha : PXT X G a ta) (hb : PXW X G (.BoolOp .Or (b :: r) pos) tb) : PXW X G (.BoolOp .Or (a :: b :: r) pos) (dtOr ta tb) := by
  refine pw_imp (pw_or ha hb) ?_
  rintro σ H Q ⟨F, R, η, M, q, hG, A, E, h, c⟩
  refine lt_bind hG A E h fun b M1 H1 F1 g1 s1 A1 E1 h1 => ?_
  cases b with
  | true => exact iteT (c _ M1 H1 F1 s1 A1 h1)
  | false => exact iteF ⟨F1, R, η, M1, q, g1, A1, E1, h1, fun b M' H' F' s => c b M' H' F' (s1.trans s)⟩
theorem pxt_w (h : PXW X G e ta) : PXT X G e ta := PW.pt h
def dIf (t : DT) (da db : DE) : DE := fun η M q => t η M fun c M1 => if c = true then da η M1 q else db η M1 q
theorem px_if (ht : PXT X G c ta) (ha : PX X G a da) (hb : PX X G b db) : PX X G (.IfExp c a b pos) (dIf ta da db) := by
  refine pe_imp (pe_ifExp ht ha hb) ?_
  rintro σ H Q ⟨F, R, η, M, q, hG, A, E, h, c⟩
  refine lt_bind hG A E h fun b M1 H1 F1 g1 s1 A1 E1 h1 => ?_
  cases b with
  | true => exact iteT ⟨F1, R, η, M1, q, g1, A1, E1, h1, c.mono s1⟩
  | false => exact iteF ⟨F1, R, η, M1, q, g1, A1, E1, h1, c.mono s1⟩
/-- a op b op' c -/
def dChain (w w' : PyData → PyData → (PyData → Prop) → Prop) (da db dc : DE) : DE := fun η M q => da η M fun x M1 => db η M1 fun y M2 => dBin w x y M2 fun z M3 => ∃ k, z = .d (.bool k) ∧
  if k = true then dc η M3 fun t M4 => dBin w' y t M4 q else q (.d (.bool false)) M3
theorem le_chain {K : PySem.W.Frag} {w w' : PyData → PyData → (PyData → Prop) → Prop} {σ : L2.St} {H : Hp} {Q : VK} (h : LE K G (dChain w w' da db dc) σ H Q) : tChain (rW K w) (rW K w') (LE K G da) (LE K G db) (LE K G dc) σ H Q := by
  obtain ⟨F, R, η, M, q, hG, A, E, h, c⟩ := h
  refine le_bind hG A E h fun x M1 vx H1 F1 g1 s1 A1 E1 r1 h1 => ?_
  refine le_bind g1 A1 E1 h1 fun y M2 vy H2 F2 g2 s2 A2 E2 r2 h2 => ?_
  refine ⟨F2, R, M2, x, y, _, A2, r1.mono s2, r2, h2, fun z M3 vz H3 F3 s3 A3 r3 h3 => ?_⟩
  obtain ⟨k, rfl, h3⟩ := h3
  cases r3
  refine ⟨k, rfl, ?_⟩
  cases k with
  | true =>
    refine iteT (le_bind (g2.trans s3) A3 (E2.mono s3) h3 fun t M4 vt H4 F4 g4 s4 A4 E4 r4 h4 => ?_)
    exact ⟨F4, R, M4, y, t, q, A4, r2.mono (s3.trans s4), r4, h4, c.mono (((s1.trans s2).trans s3).trans s4)⟩
  | false => exact iteF ((c.mono ((s1.trans s2).trans s3)).plain A3 (.bl _) h3)
theorem px_chain {op op' : CmpOp} {w w' : PyData → PyData → (PyData → Prop) → Prop} (ho : OpR X (compareOp op) (rW X.K w)) (ho' : OpR X (compareOp op') (rW X.K w')) (ha : PX X G a da) (hb : PX X G b db) (hc : PX X G c dc)
    (hm : lastMarks [op, op'] [b, c] = false := by with_unfolding_all rfl) : PX X G (.Compare a [op, op'] [b, c] pos) (dChain w w' da db dc) :=
  pe_imp (pe_chain ho ho' ha hb hc hm) fun _ _ _ h => le_chain h
theorem pxt_chain {op op' : CmpOp} {w w' : PyData → PyData → (PyData → Prop) → Prop} (ho : OpR X (compareOp op) (rW X.K w)) (ho' : OpR X (compareOp op') (rW X.K w')) (ha : PX X G a da) (hb : PX X G b db) (hc : PX X G c dc)
    (hm : lastMarks [op, op'] [b, c] = false := by with_unfolding_all rfl) : PXT X G (.Compare a [op, op'] [b, c] pos) (dTst (dChain w w' da db dc)) :=
  pt_imp (pt_chain ho ho' ha hb hc hm) fun _ _ _ h => le_chain (lt_tst h)

/-! ### argument lists, displays -/
variable {ds : DA}
def daNil : DA := fun _ M q => q [] M
def daCons (de : DE) (ds : DA) : DA := fun η M q => de η M fun l M1 => ds η M1 fun ls M2 => q (l :: ls) M2
theorem la_bind {K : PySem.W.Frag} {G : GH} {F R : Hp} {σ : L2.St} {H : Hp} {η : Ev} {M : Ms} {q : List L → Ms → Prop} {Q : List V → Hp → Prop}
    (hG : SG G F R) (A : Abs K F R M H) (E : Er K F σ η) (h : ds η M q)
    (c : ∀ ls M' vs H' F', SG G F' R → Same F F' → Abs K F' R M' H' → Er K F' σ η → LRs K F' vs ls → q ls M' → Q vs H') : LA K G ds σ H Q :=
  ⟨F, R, η, M, q, hG, A, E, h, fun l M' v H' F' s A' r h' => c l M' v H' F' (hG.trans s) s A' (E.mono s) r h'⟩
theorem pxa_nil : PXA X G [] daNil := by
  refine pa_imp pa_nil ?_
  rintro σ H Q ⟨F, R, η, M, q, hG, A, E, h, c⟩
  exact c [] M [] H F (Same.refl F) A .nil h
theorem pxa_cons (ha : PX X G e de) (hr : PXA X G es ds) (hs : starEach (e :: es) X.env = (false, eval e X.env) :: starEach es X.env := by rfl) : PXA X G (e :: es) (daCons de ds) := by
  refine pa_imp (pa_cons ha hr hs) ?_
  rintro σ H Q ⟨F, R, η, M, q, hG, A, E, h, c⟩
  refine le_bind hG A E h fun x M1 vx H1 F1 g1 s1 A1 E1 r1 h1 => ?_
  exact la_bind g1 A1 E1 h1 fun ls M2 vs H2 F2 g2 s2 A2 E2 r2 h2 => c _ M2 _ H2 F2 (s1.trans s2) A2 (.cons (r1.mono s2) r2) h2
def dTup (ds : DA) : DE := fun η M q => ds η M fun ls M1 => ∃ xs, ls = xs.map L.d ∧ xs.length ≤ sizeLine ∧ q (.d (.tuple xs)) M1
def dLst (ds : DA) : DE := fun η M q => ds η M fun ls M1 => ∃ xs, ls = xs.map L.d ∧ xs.length ≤ sizeLine ∧ q (.d (.list xs)) M1
/-- a new list that will be changed -/
def dLstM (ds : DA) : DE := fun η M q => ds η M fun ls M1 => ls.length ≤ sizeLine ∧ ∀ a, M1 a = none → q (.p a) (updM M1 a (.lst ls))
def tTupP (t : TA) : TE := fun σ H Q => t σ H fun xs H1 => xs.length ≤ sizeLine ∧ ∀ p o, PlT o → H1 p = none → Q (.ref p) (upd H1 p (.frz o (.tup xs)))
theorem pe_tupP {x1 : Nat} {t : TA} (h : PA X es t) : PE X (.Tuple es x1 pos) (tTupP t) := by
  refine ⟨fun pins s σ H Q I hq => ?_⟩
  refine wpAny_Tuple_spliced (thn (h.run pos pins s σ H _ I hq) ?_)
  rintro us s1 ⟨xs, H1, I1, r, z, q⟩
  refine ⟨by rw [← r.length]; exact z, .ref s1.heap.objs.size, _, I1.laid (t' := s1.toks) (fun b u e => Heap.get?_push_of_some _ e) (Nat.le_refl _) (o := .frz _ (.tup xs)) ⟨Heap.get?_push_size _ rfl, ?_⟩, rfl, q _ _ ⟨rfl, rfl⟩ (I1.hok.fresh (Nat.le_refl _))⟩
  exact ⟨z, us, r, ⟨_, Heap.get?_push_size _ rfl, rfl, _, rfl⟩⟩
theorem px_tup {k} (h : PXA X G es ds) : PX X G (.Tuple es k pos) (dTup ds) := by
  refine pe_imp (pe_tupP h) ?_
  rintro σ H Q ⟨F, R, η, M, q, hG, A, E, h, c⟩
  refine la_bind hG A E h fun ls M1 vs H1 F1 g1 s1 A1 E1 r1 h1 => ?_
  obtain ⟨xs, rfl, hz, h1⟩ := h1
  have r1 := r1.data
  exact ⟨by rw [r1.length]; exact hz, fun p o ho hp => (c.mono s1).tup A1 hp ho r1 h1⟩
theorem px_lst (h : PXA X G es ds) : PX X G (.List es pos) (dLst ds) := by
  refine pe_imp (pe_lst h) ?_
  rintro σ H Q ⟨F, R, η, M, q, hG, A, E, h, c⟩
  refine la_bind hG A E h fun ls M1 vs H1 F1 g1 s1 A1 E1 r1 h1 => ?_
  obtain ⟨xs, rfl, hz, h1⟩ := h1
  have r1 := r1.data
  exact ⟨by rw [r1.length]; exact hz, fun p hp => (c.mono s1).lst A1 hp r1 h1⟩
theorem px_lstM (h : PXA X G es ds) : PX X G (.List es pos) (dLstM ds) := by
  refine pe_imp (pe_lst h) ?_
  rintro σ H Q ⟨F, R, η, M, q, hG, A, E, h, c⟩
  refine la_bind hG A E h fun ls M1 vs H1 F1 g1 s1 A1 E1 r1 h1 => ?_
  obtain ⟨hz, h1⟩ := h1
  refine ⟨by rw [r1.length]; exact hz, fun p hp => ?_⟩
  exact c (.p p) _ (.ref p) _ F1 s1 (A1.new (m := .lst ls) hp ⟨vs, upd_same, r1⟩) rfl (h1 p (A1.freeM hp))

/-! ### built-ins by their name -/
/-- what a call of a built-in asks of data -/
def CallD (K : PySem.W.Frag) (r : List V → Hp → VK → Prop) (dr : List L → Ms → DQ → Prop) : Prop := ∀ F R M H xs ls q Q, Abs K F R M H → LRs K F xs ls → dr ls M q → Cont K F R q Q → r xs H Q
def dCB (dr : List L → Ms → DQ → Prop) (ds : DA) : DE := fun η M q => ds η M fun ls M1 => dr ls M1 q
theorem le_cb {K : PySem.W.Frag} {r : List V → Hp → VK → Prop} {dr : List L → Ms → DQ → Prop} (o : CallD K r dr) {σ : L2.St} {H : Hp} {Q : VK} (h : LE K G (dCB dr ds) σ H Q) : tCB r (LA K G ds) σ H Q := by
  obtain ⟨F, R, η, M, q, hG, A, E, h, c⟩ := h
  exact la_bind hG A E h fun ls M1 vs H1 F1 g1 s1 A1 E1 r1 h1 => o F1 R M1 H1 vs ls q Q A1 r1 h1 (c.mono s1)
theorem px_callB {id : String} {x : Str} {r : List V → Hp → VK → Prop} {dr : List L → Ms → DQ → Prop} (hc : CallR X (.builtin id) r) (o : CallD X.K r dr) (hm : X.mg x = none) (hv : bootBuiltins x = some (.builtin id)) (ha : PXA X G (e :: es) ds) (hg : Gl X x := by rfl)
    (hn : x ≠ "__name__" := by decide) (hdb : (x == ("__debug__" : Str)) = false := by decide)
    (he : starEach (e :: es) X.env = (false, eval e X.env) :: starEach es X.env := by rfl) (hpl : (backTo pos (starEach es X.env)).any (·.1) = false := by rfl) : PX X G (.Call (.Name x p) (e :: es) [] pos) (dCB dr ds) :=
  pe_imp (pe_callB hc hg hm hv ha hn hdb he hpl) fun _ _ _ h => le_cb o h
theorem px_callT {T : String} {x : Str} {r : List V → Hp → VK → Prop} {dr : List L → Ms → DQ → Prop} (hc : CallR X (.type T) r) (o : CallD X.K r dr) (hm : X.mg x = none) (hv : bootBuiltins x = some (.type T)) (ha : PXA X G (e :: es) ds) (hg : Gl X x := by rfl)
    (hn : x ≠ "__name__" := by decide) (hdb : (x == ("__debug__" : Str)) = false := by decide)
    (he : starEach (e :: es) X.env = (false, eval e X.env) :: starEach es X.env := by rfl) (hpl : (backTo pos (starEach es X.env)).any (·.1) = false := by rfl) : PX X G (.Call (.Name x p) (e :: es) [] pos) (dCB dr ds) :=
  pe_imp (pe_callTy hc hg hm hv ha hn hdb he hpl) fun _ _ _ h => le_cb o h
end
end DL
end
section
/-! built-in functions, subscripts, slices on data -/
namespace DL
open PySem PySem.Spec PyProof.Rows L2

/-- one argument that is read as data -/
def d1 (f : PyData → (PyData → Prop) → Prop) : List L → Ms → DQ → Prop := fun ls M q => ∃ a x, ls = [a] ∧ rd M a = some x ∧ f x fun z => q (.d z) M
@[simp] theorem d1_d (f : PyData → (PyData → Prop) → Prop) (x : PyData) (M : Ms) (q : DQ) : d1 f [.d x] M q ↔ f x fun z => q (.d z) M := by
  constructor
  · rintro ⟨a, y, e1, e2, h⟩
    cases e1
    cases e2
    exact h
  · exact fun h => ⟨_, x, rfl, rfl, h⟩
theorem lrs1 {K : PySem.W.Frag} {F : Hp} {vs : List V} {a : L} (h : LRs K F vs [a]) : ∃ v, vs = [v] ∧ LR K F v a := by
  cases h with
  | cons r t => cases t; exact ⟨_, rfl, r⟩
theorem lrs2 {K : PySem.W.Frag} {F : Hp} {vs : List V} {a b : L} (h : LRs K F vs [a, b]) : ∃ v w, vs = [v, w] ∧ LR K F v a ∧ LR K F w b := by
  cases h with
  | cons r t =>
    obtain ⟨w, rfl, r2⟩ := lrs1 t
    exact ⟨_, w, rfl, r, r2⟩

def lenW : PyData → (PyData → Prop) → Prop
  | .list xs, q => q (.int xs.length)
  | .tuple xs, q => q (.int xs.length)
  | .str x, q => x.length ≤ sizeLine ∧ q (.int x.length)
  | _, _ => False
def absW : PyData → (PyData → Prop) → Prop
  | .int i, q => q (.int (if i < 0 then -i else i))
  | _, _ => False
def intW : PyData → (PyData → Prop) → Prop
  | .int i, q => q (.int i)
  | .bool b, q => q (.int (if b then 1 else 0))
  | _, _ => False
def tupleW : PyData → (PyData → Prop) → Prop
  | .list xs, q => q (.tuple xs)
  | .tuple xs, q => q (.tuple xs)
  | _, _ => False
def listW : PyData → (PyData → Prop) → Prop
  | .list xs, q => q (.list xs)
  | .tuple xs, q => q (.list xs)
  | _, _ => False
def sumW : PyData → (PyData → Prop) → Prop
  | .list xs, q => ∃ ns, intsD xs = some ns ∧ q (.int ns.sum)
  | _, _ => False
def strW : PyData → (PyData → Prop) → Prop
  | .int i, q => i.natAbs.log2 < 1920 ∧ q (.str (toString i))
  | .str x, q => q (.str x)
  | _, _ => False
/-- repr is told of such data -/
def reprOk (x : PyData) : Prop := x.showable = true ∧ x.shown.length ≤ sizeLine ∧ x.depth ≤ 60 ∧ (x.hasDict = true → hasList x = false)
def reprW (x : PyData) (q : PyData → Prop) : Prop := reprOk x ∧ q (.str x.shown)
section
variable {X : Cx} {G : GH} {a b c e : Expr} {es : List Expr} {pos p p2 : Pos} {da db dc de : DE}
theorem cd_len : CallD X.K (fun xs H Q => ∃ x n, xs = [x] ∧ LenV X.K x H n ∧ Q (.int n) H) (d1 lenW) := by
  rintro F R M H xs ls q Q A rr ⟨a, x, rfl, e, h⟩ c
  obtain ⟨v, rfl, r⟩ := lrs1 rr
  cases x with
  | list ds =>
    obtain ⟨p, vs, rfl, s, r2⟩ := rd_list A r e
    exact ⟨_, vs.length, rfl, .inl ⟨vs, s.l, rfl⟩, by rw [r2.length]; exact c.plain A (.int _) h⟩
  | tuple ds =>
    obtain ⟨p, vs, rfl, s, r2⟩ := rd_tuple A r e
    exact ⟨_, vs.length, rfl, .inr ⟨vs, s, rfl⟩, by rw [r2.length]; exact c.plain A (.int _) h⟩
  | str z =>
    obtain rfl := rd_str r e
    exact ⟨_, z.length, rfl, ⟨h.1, rfl⟩, c.plain A (.int _) h.2⟩
  | _ => exact h.elim
theorem cd_abs : CallD X.K (fun xs H Q => ∃ i, xs = [.int i] ∧ Q (.int (if i < 0 then -i else i)) H) (d1 absW) := by
  rintro F R M H xs ls q Q A rr ⟨a, x, rfl, e, h⟩ c
  obtain ⟨v, rfl, r⟩ := lrs1 rr
  cases x with
  | int i => obtain rfl := rd_int r e; exact ⟨i, rfl, c.plain A (.int _) h⟩
  | _ => exact h.elim
theorem cd_int : CallD X.K (fun xs H Q => (∃ i, xs = [.int i] ∧ Q (.int i) H) ∨ ∃ k, xs = [.bl k] ∧ Q (.int (if k then 1 else 0)) H) (d1 intW) := by
  rintro F R M H xs ls q Q A rr ⟨a, x, rfl, e, h⟩ c
  obtain ⟨v, rfl, r⟩ := lrs1 rr
  cases x with
  | int i => obtain rfl := rd_int r e; exact .inl ⟨i, rfl, c.plain A (.int _) h⟩
  | bool i => obtain rfl := rd_bool r e; exact .inr ⟨i, rfl, c.plain A (.int _) h⟩
  | _ => exact h.elim
/-- tuple(x): a new plain one of a list; of a tuple itself -/
def rTupP (K : PySem.W.Frag) : List V → Hp → VK → Prop := fun xs H Q => ∃ p ys, xs = [.ref p] ∧ ((SqL K H p ys ∧ ∀ l o, PlT o → H l = none → Q (.ref l) (upd H l (.frz o (.tup ys)))) ∨ (SqT K H p ys ∧ Q (.ref p) H))
theorem call_tupleP {X : Cx} : CallR X (.type "tuple") (rTupP X.K) := by
  rintro pins s σ H xs us Q I r ⟨p, ys, rfl, h⟩
  obtain ⟨u, rfl, rx⟩ := vals1 r
  cases rx
  rcases h with ⟨hq, q⟩ | ⟨hq, q⟩
  · obtain ⟨its, r', pl, hz⟩ := I.list hq
    have hlen := r'.length
    refine call_tuple_list pl.isList (fun h' kp => ?_) (by simp only [List.size_toArray]; omega)
    have I1 : L2.Inv X pins σ H { s with heap := h' } := I.kept (t' := s.toks) kp
    refine ⟨.ref h'.objs.size, _, I1.laid (t' := s.toks) (fun b o e => Heap.get?_push_of_some _ e) (Nat.le_refl _) (o := .frz _ (.tup ys)) ⟨Heap.get?_push_size _ rfl, ?_⟩, rfl, q _ _ ⟨rfl, rfl⟩ (I1.hok.fresh (Nat.le_refl _))⟩
    exact ⟨hz, its, r', IsTup.new _ _⟩
  · obtain ⟨its, r', pl, hz⟩ := I.tuple hq
    exact call_tuple_same pl ⟨.ref p, H, I, rfl, q⟩
theorem cd_tuple : CallD X.K (rTupP X.K) (d1 tupleW) := by
  rintro F R M H xs ls q Q A rr ⟨a, x, rfl, e, h⟩ c
  obtain ⟨v, rfl, r⟩ := lrs1 rr
  cases x with
  | list ds =>
    obtain ⟨p, vs, rfl, s, r2⟩ := rd_list A r e
    exact ⟨p, vs, rfl, .inl ⟨s.l, fun l o ho hl => c.tup A hl ho r2 h⟩⟩
  | tuple ds =>
    obtain ⟨p, vs, e2, s, r2⟩ := rd_tuple A r e
    subst e2
    exact ⟨p, vs, rfl, .inr ⟨s, c.plain A (rd_tupleF r e) h⟩⟩
  | _ => exact h.elim
theorem cd_list : CallD X.K (fun xs H Q => ∃ p ys, xs = [.ref p] ∧ (SqL X.K H p ys ∨ SqT X.K H p ys) ∧ ∀ l, H l = none → Q (.ref l) (upd H l (.lst ys))) (d1 listW) := by
  rintro F R M H xs ls q Q A rr ⟨a, x, rfl, e, h⟩ c
  obtain ⟨v, rfl, r⟩ := lrs1 rr
  cases x with
  | list ds =>
    obtain ⟨p, vs, rfl, s, r2⟩ := rd_list A r e
    exact ⟨p, vs, rfl, .inl s.l, fun l hl => c.lst A hl r2 h⟩
  | tuple ds =>
    obtain ⟨p, vs, rfl, s, r2⟩ := rd_tuple A r e
    exact ⟨p, vs, rfl, .inr s, fun l hl => c.lst A hl r2 h⟩
  | _ => exact h.elim
theorem cd_sum : CallD X.K (rSum X.K) (d1 sumW) := by
  rintro F R M H xs ls q Q A rr ⟨a, x, rfl, e, h⟩ c
  obtain ⟨v, rfl, r⟩ := lrs1 rr
  cases x with
  | list ds =>
    obtain ⟨ns, e1, h⟩ := h
    obtain ⟨p, vs, rfl, s, r2⟩ := rd_list A r e
    have i1 := intsD_rep e1 r2
    subst i1
    exact ⟨p, ns, rfl, s.l, c.plain A (.int _) h⟩
  | _ => exact h.elim
theorem cr_str : CallR X (.type "str") (fun xs H Q => (∃ i, xs = [.int i] ∧ i.natAbs.log2 < 1920 ∧ Q (.str (toString i)) H) ∨ ∃ a, xs = [.str a] ∧ Q (.str a) H) := by
  intro pins s σ H xs us Q I r h
  rcases h with h | h
  · exact call_str_int pins s σ H xs us Q I r h
  · exact SkE.call_str_str pins s σ H xs us Q I r h
theorem cd_str : CallD X.K (fun xs H Q => (∃ i, xs = [.int i] ∧ i.natAbs.log2 < 1920 ∧ Q (.str (toString i)) H) ∨ ∃ a, xs = [.str a] ∧ Q (.str a) H) (d1 strW) := by
  rintro F R M H xs ls q Q A rr ⟨a, x, rfl, e, h⟩ c
  obtain ⟨v, rfl, r⟩ := lrs1 rr
  cases x with
  | int i => obtain rfl := rd_int r e; exact .inl ⟨i, rfl, h.1, c.plain A (.str _) h.2⟩
  | str i => obtain rfl := rd_str r e; exact .inr ⟨i, rfl, c.plain A (.str _) h⟩
  | _ => exact h.elim

/-! ### repr -/
def rRepr (X : Cx) : List V → Hp → VK → Prop := fun xs H Q => ∃ v d, xs = [v] ∧ Rp X.K H v d ∧ reprOk d ∧ Q (.str d.shown) H
theorem cr_repr (hr : RoomG 0 X.A) : CallR X (.builtin "repr") (rRepr X) := by
  intro pins s σ H xs us Q I r h
  obtain ⟨v, d, rfl, rp, ⟨o1, o2, o3, o4⟩, q⟩ := h
  obtain ⟨u, rfl, rx⟩ := vals1 r
  have hu : X.A.units + 200 < cLine := by have := hr.rm.un; omega
  cases rp with
  | non =>
    cases rx
    refine PySem.P.repr_of_none ⟨.str _, H, I.tok _, ⟨_, rfl⟩, ?_⟩
    simpa only [PyData.shown] using q
  | bl b =>
    cases rx
    refine PySem.P.repr_of_bool ⟨.str _, H, I.tok _, ⟨_, rfl⟩, ?_⟩
    simpa only [PyData.shown] using q
  | int i =>
    obtain ⟨t, rfl⟩ := rx
    refine PySem.P.repr_of_int (by simpa [PyData.showable] using o1) ⟨.str _, H, I.tok _, ⟨_, rfl⟩, ?_⟩
    simpa only [PyData.shown] using q
  | str z =>
    obtain ⟨t, rfl⟩ := rx
    refine PySem.P.repr_of_str ⟨.str _, H, I.tok _, ⟨_, rfl⟩, ?_⟩ (by simpa only [PyData.shown] using o2)
    simpa only [PyData.shown] using q
  | lst hs ha =>
    obtain ⟨as, rd, no⟩ := Rp.reads I (.lst hs ha) rx
    cases rx
    exact repr_of_reads' rd o1 (fun z => no (o4 z)) hr.gd (by omega) (fun _ _ e => e) (fun h' u tk k => ⟨.str _, H, I.kept (h' := h') (t' := tk) k, ⟨_, rfl⟩, q⟩) o2
  | tup hs ha =>
    obtain ⟨as, rd, no⟩ := Rp.reads I (.tup hs ha) rx
    cases rx
    exact repr_of_reads' rd o1 (fun z => no (o4 z)) hr.gd (by omega) (fun _ _ e => e) (fun h' u tk k => ⟨.str _, H, I.kept (h' := h') (t' := tk) k, ⟨_, rfl⟩, q⟩) o2
  | dct hs ha =>
    obtain ⟨as, rd, no⟩ := Rp.reads I (.dct hs ha) rx
    cases rx
    exact repr_of_reads' rd o1 (fun z => no (o4 z)) hr.gd (by omega) (fun _ _ e => e) (fun h' u tk k => ⟨.str _, H, I.kept (h' := h') (t' := tk) k, ⟨_, rfl⟩, q⟩) o2
theorem cd_repr : CallD X.K (rRepr X) (d1 reprW) := by
  rintro F R M H xs ls q Q A rr ⟨a, x, rfl, e, o, h⟩ c
  obtain ⟨v, rfl, r⟩ := lrs1 rr
  exact ⟨v, x, rfl, rd_rep A r e, o, c.plain A (.str _) h⟩

/-! ### isinstance(x, T), T a built-in type -/
def tyN : PyData → String
  | .none => "NoneType"
  | .bool _ => "bool"
  | .int _ => "int"
  | .str _ => "str"
  | .list _ => "list"
  | .tuple _ => "tuple"
  | .dict _ => "dict"
theorem tyX_of {K : PySem.W.Frag} {H : Hp} {v : V} {x : PyData} (r : Rp K H v x) : TyX K H v (.type (tyN x)) := by
  cases r with
  | non => exact .base .non
  | bl b => exact .base (.bl b)
  | int i => exact .base (.int i)
  | str z => exact .base (.str z)
  | lst h _ =>
    rcases h with (h | ⟨o, h⟩) | ⟨its, n, h, _⟩
    · exact .base (.lst h)
    · exact .base (.frz h)
    · exact .kList h rfl
  | tup h _ =>
    obtain ⟨o, h, _⟩ := h
    exact .fTuple h
  | dct h _ => exact .base (.dK h)
/-- whether data of the type named a is of the type named b -/
def isTy (T : String) (x : PyData) : Option Bool := kitB (tyN x) T
def isiW : List L → Ms → DQ → Prop := fun ls M q => ∃ a x T k, ls = [a, .c (.ty T)] ∧ rd M a = some x ∧ isTy T x = some k ∧ q (.d (.bool k)) M
theorem cd_isi : CallD X.K (rIsi X.K) isiW := by
  rintro F R M H xs ls q Q A rr ⟨a, x, T, k, rfl, e, hk, h⟩ c
  obtain ⟨v, w, rfl, r1, r2⟩ := lrs2 rr
  obtain rfl : w = .ty T := r2
  exact ⟨v, .ty T, _, _, k, rfl, .ty T, tyX_of (rd_rep A r1 e), kit_ty hk, c.plain A (.bl _) h⟩
/-- a built-in type as a value -/
def dTy (T : String) : DE := fun _ M q => q (.c (.ty T)) M
theorem px_ty {x : Str} {T : String} {pos : Pos} (hm : X.mg x = none) (hv : bootBuiltins x = some (.type T)) (hg : Gl X x := by rfl) (hn : x ≠ "__name__" := by decide) (hd : (x == ("__debug__" : Str)) = false := by decide) : PX X G (.Name x pos) (dTy T) := by
  refine pe_imp (pe_bltn hg hm hv (v := .ty T) rfl hn hd) ?_
  rintro σ H Q ⟨F, R, η, M, q, hG, A, E, h, c⟩
  exact c (.c (.ty T)) M (.ty T) H F (Same.refl F) A rfl h

/-! ### subscripts -/
def dIx : DR2 := fun a b M q => match a with
  | .d (.list xs) => ∃ i v, b = .d (.int i) ∧ atI xs i = some v ∧ q (.d v) M
  | .d (.tuple xs) => ∃ i v, b = .d (.int i) ∧ atI xs i = some v ∧ q (.d v) M
  | .d (.str z) => ∃ i v, b = .d (.int i) ∧ z.length ≤ sizeLine ∧ atI z.cps.toList i = some v ∧ q (.d (.str ⟨#[v]⟩)) M
  | .p l => ∃ xs i v, M l = some (.lst xs) ∧ b = .d (.int i) ∧ atI xs i = some v ∧ q v M
  | _ => False
theorem atI_len {α β : Type} {xs : List α} {ys : List β} (h : xs.length = ys.length) {i : Int} {v : α} (e : atI xs i = some v) : ∃ j : Nat, xs[j]? = some v ∧ ∀ w, ys[j]? = some w → atI ys i = some w := by
  unfold atI at e ⊢
  cases q : ixN xs.length i with
  | none => rw [q] at e; cases e
  | some j =>
    rw [q] at e
    refine ⟨j, e, fun w hw => ?_⟩
    rw [← h, q]
    exact hw
theorem opd_ix : OpD X.K (rIx X.K) dIx := by
  intro F R M H x y a b q Q A ra rb h c
  cases a with
  | d x0 =>
    cases x0 with
    | list xs =>
      obtain ⟨i, v, rfl, e, h⟩ := h
      obtain ⟨p, vs, rfl, s, r2⟩ := rd_list A ra rfl
      cases rb
      obtain ⟨j, e1, e2⟩ := atI_len r2.length.symm e
      obtain ⟨w, hw, rw_⟩ := r2.get e1
      exact .inl ⟨p, vs, i, w, rfl, rfl, s.l, e2 w hw, c.plain A rw_ h⟩
    | tuple xs =>
      obtain ⟨i, v, rfl, e, h⟩ := h
      obtain ⟨p, vs, rfl, s, r2⟩ := rd_tuple A ra rfl
      cases rb
      obtain ⟨j, e1, e2⟩ := atI_len r2.length.symm e
      obtain ⟨w, hw, rw_⟩ := r2.get e1
      exact .inr (.inl ⟨p, vs, i, w, rfl, rfl, s, e2 w hw, c.plain A rw_ h⟩)
    | str z =>
      obtain ⟨i, v, rfl, hz, e, h⟩ := h
      cases ra
      cases rb
      exact .inr (.inr ⟨z, i, v, rfl, rfl, hz, e, c.plain A (.str _) h⟩)
    | _ => exact h.elim
  | p l =>
    obtain ⟨xs, i, v, hm, rfl, e, h⟩ := h
    cases rb
    obtain ⟨_, _, vs, hv, r2⟩ := A.mu l _ hm
    obtain ⟨j, e1, e2⟩ := atI_len r2.length.symm e
    obtain ⟨w, hw, rw_⟩ := r2.get e1
    exact .inl ⟨l, vs, i, w, ra, rfl, .inl (.inl hv), e2 w hw, c v M w H F (Same.refl F) A rw_ h⟩
  | c w => exact h.elim
theorem px_ix (ha : PX X G a da) (hb : PX X G b db) (hs : PlainIx b := by exact fun _ _ => rfl) : PX X G (.Subscript a b pos) (dOp dIx da db) :=
  pe_imp (pe_ix ix_seq ha hb hs) fun _ _ _ h => le_op opd_ix h

/-! ### slices -/
abbrev DO := Ev → Ms → (Option Int → Ms → Prop) → Prop
def LO (K : PySem.W.Frag) (G : GH) (dp : DO) : TO := fun σ H Q => ∃ F R η M q, SG G F R ∧ Abs K F R M H ∧ Er K F σ η ∧ dp η M q ∧ ∀ o M' H' F', Same F F' → Abs K F' R M' H' → q o M' → Q o H'
def PXO (X : Cx) (G : GH) (e : Option Expr) (dp : DO) : Prop := PO X e (LO X.K G dp)
def dNoPart : DO := fun _ M q => q none M
def dPart (de : DE) : DO := fun η M q => de η M fun l M1 => ∃ i, l = .d (.int i) ∧ q (some i) M1
theorem po_imp {X : Cx} {e : Option Expr} {t t' : TO} (h : PO X e t) (i : ∀ σ H Q, t' σ H Q → t σ H Q) : PO X e t' := ⟨fun pins s σ H Q I q => h.run pins s σ H Q I (i _ _ _ q)⟩
theorem pxo_none : PXO X G none dNoPart := by
  refine po_imp po_none ?_
  rintro σ H Q ⟨F, R, η, M, q, hG, A, E, h, c⟩
  exact c none M H F (Same.refl F) A h
theorem pxo_some (h : PX X G e de) : PXO X G (some e) (dPart de) := by
  refine po_imp (po_some h) ?_
  rintro σ H Q ⟨F, R, η, M, q, hG, A, E, h, c⟩
  refine le_bind hG A E h fun l M1 v H1 F1 g1 s1 A1 E1 r1 h1 => ?_
  obtain ⟨i, rfl, h1⟩ := h1
  cases r1
  exact ⟨i, rfl, c _ M1 H1 F1 s1 A1 h1⟩
theorem lo_bind {K : PySem.W.Frag} {G : GH} {F R : Hp} {σ : L2.St} {H : Hp} {η : Ev} {M : Ms} {dp : DO} {q : Option Int → Ms → Prop} {Q : Option Int → Hp → Prop}
    (hG : SG G F R) (A : Abs K F R M H) (E : Er K F σ η) (h : dp η M q)
    (c : ∀ o M' H' F', SG G F' R → Same F F' → Abs K F' R M' H' → Er K F' σ η → q o M' → Q o H') : LO K G dp σ H Q :=
  ⟨F, R, η, M, q, hG, A, E, h, fun o M' H' F' s A' h' => c o M' H' F' (hG.trans s) s A' (E.mono s) h'⟩
/-- t[lo:hi]: itself, or a new plain one -/
def rSlP (K : PySem.W.Frag) : V → Option Int → Option Int → Hp → VK → Prop := fun x lo hi H Q => ∃ a xs, x = .ref a ∧ SqT K H a xs ∧
  (HT.sIx xs.length 0 lo = 0 ∧ HT.sIx xs.length xs.length hi = xs.length → Q (.ref a) H) ∧ ∀ p o, PlT o → H p = none → Q (.ref p) (upd H p (.frz o (.tup (cutV xs lo hi))))
theorem sl_tupP {X : Cx} : SlR X (rSlP X.K) := by
  rintro pins s σ H x v vl vu lo hi sl Q I rx hs pl pu ⟨a, xs, rfl, hx, q1, q2⟩
  cases rx
  obtain ⟨its, r, ht, hz⟩ := I.tuple hx
  have hlen : its.toArray.size = xs.length := by rw [List.size_toArray]; exact r.length.symm
  refine ⟨"tuple", _, PyProof.Rows.slot_tuple_getitem.lookup, ht.typeIs, ?_⟩
  by_cases hw : HT.sIx xs.length 0 lo = 0 ∧ HT.sIx xs.length xs.length hi = xs.length
  · exact getItem_tuple_whole ht hs pl pu (by rw [hlen]; exact hw) ⟨.ref a, H, I, rfl, q1 hw⟩
  refine HT.getItem_tuple_cut ht hs pl pu (by rw [hlen]; exact hw) ?_ (by rw [hlen]; exact hz)
  rw [hlen]
  refine ⟨.ref s.heap.objs.size, _, I.laid (t' := s.toks) (fun b ob q => Heap.get?_push_of_some _ q) (Nat.le_refl _) (o := .frz _ (.tup (cutV xs lo hi))) ⟨Heap.get?_push_size _ rfl, ?_⟩, rfl, q2 _ _ ⟨rfl, rfl⟩ (I.hok.fresh (Nat.le_refl _))⟩
  exact ⟨Nat.le_trans (cutV_length xs lo hi) hz, _, (r.drop (HT.sIx xs.length 0 lo)).take (HT.sIx xs.length xs.length hi - HT.sIx xs.length 0 lo), IsTup.new _ _⟩
/-- the items of xs[lo:hi] -/
def cutD {α : Type} (xs : List α) (lo hi : Option Int) : List α := (xs.drop (HT.sIx xs.length 0 lo)).take (HT.sIx xs.length xs.length hi - HT.sIx xs.length 0 lo)
def slW : PyData → Option Int → Option Int → (PyData → Prop) → Prop
  | .list xs, lo, hi, q => q (.list (cutD xs lo hi))
  | .tuple xs, lo, hi, q => q (.tuple (cutD xs lo hi))
  | .str z, lo, hi, q => z.length ≤ sizeLine ∧ q (.str (cutS z lo hi))
  | _, _, _, _ => False
def dSl (da : DE) (dl dh : DO) : DE := fun η M q => da η M fun a M1 => dl η M1 fun lo M2 => dh η M2 fun hi M3 => ∃ x, rd M3 a = some x ∧ slW x lo hi fun z => q (.d z) M3
theorem px_sl {lo hi : Option Expr} {dl dh : DO} (ha : PX X G a da) (hl : PXO X G lo dl) (hh : PXO X G hi dh) : PX X G (.Subscript a (.Slice lo hi none p2) pos) (dSl da dl dh) := by
  refine pe_imp (pe_slice (sl_list.or (sl_tupP.or sl_str)) ha hl hh) ?_
  rintro σ H Q ⟨F, R, η, M, q, hG, A, E, h, c⟩
  refine le_bind hG A E h fun l M1 v H1 F1 g1 s1 A1 E1 r1 h1 => ?_
  refine lo_bind g1 A1 E1 h1 fun o1 M2 H2 F2 g2 s2 A2 E2 h2 => ?_
  refine lo_bind g2 A2 E2 h2 fun o2 M3 H3 F3 g3 s3 A3 E3 h3 => ?_
  obtain ⟨x, e, h3⟩ := h3
  have r3 := (r1.mono s2).mono s3
  have c3 := c.mono ((s1.trans s2).trans s3)
  cases x with
  | list ds =>
    obtain ⟨p, vs, rfl, s, r⟩ := rd_list A3 r3 e
    refine .inl ⟨p, vs, rfl, s.l, fun p' hp => c3.lst A3 hp (ds := cutD ds o1 o2) ?_ h3⟩
    unfold cutV cutD
    rw [r.length]
    exact (r.drop _).take _
  | tuple ds =>
    obtain ⟨p, vs, e1, s, r⟩ := rd_tuple A3 r3 e
    subst e1
    have rr : RpA X.K F3 (cutV vs o1 o2) (cutD ds o1 o2) := by
      unfold cutV cutD
      rw [r.length]
      exact (r.drop _).take _
    refine .inr (.inl ⟨p, vs, rfl, s, fun z => ?_, fun p' o ho hp => c3.tup A3 hp ho rr h3⟩)
    have ee : cutD ds o1 o2 = ds := by
      unfold cutD
      rw [← r.length, z.1, z.2, List.drop_zero, Nat.sub_zero, r.length]
      exact List.take_length
    have h3' : q (.d (.tuple (cutD ds o1 o2))) M3 := h3
    rw [ee] at h3'
    exact c3.plain A3 (rd_tupleF r3 e) h3'
  | str z =>
    obtain rfl := rd_str r3 e
    exact .inr (.inr ⟨z, rfl, h3.1, c3.plain A3 (.str _) h3.2⟩)
  | _ => exact h3.elim
end
end DL
end
section
/-! statements, loops, comprehensions on data -/
namespace DL
open PySem PySem.Spec PyProof.Rows L2

/-- what is wanted behind a statement -/
structure DEnds where
  nx : Ev → Ms → Prop
  rt : DQ
  bk : Ev → Ms → Prop := fun _ _ => False
  ct : Ev → Ms → Prop := fun _ _ => False
abbrev DS := DEnds → Ev → Ms → Prop
structure EndsOk (K : PySem.W.Frag) (F R : Hp) (d : DEnds) (D : Ends) : Prop where
  nx : ∀ η M σ H F', Same F F' → Abs K F' R M H → Er K F' σ η → d.nx η M → D.nx σ H
  rt : Cont K F R d.rt D.rt
  bk : ∀ η M σ H F', Same F F' → Abs K F' R M H → Er K F' σ η → d.bk η M → D.bk σ H
  ct : ∀ η M σ H F', Same F F' → Abs K F' R M H → Er K F' σ η → d.ct η M → D.ct σ H
theorem EndsOk.mono {K : PySem.W.Frag} {F F' R : Hp} {d : DEnds} {D : Ends} (h : EndsOk K F R d D) (s : Same F F') : EndsOk K F' R d D :=
  ⟨fun η M σ H F'' t => h.nx η M σ H F'' (s.trans t), h.rt.mono s, fun η M σ H F'' t => h.bk η M σ H F'' (s.trans t), fun η M σ H F'' t => h.ct η M σ H F'' (s.trans t)⟩
def LS (K : PySem.W.Frag) (G : GH) (ds : DS) : TS := fun D σ H => ∃ F R η M d, SG G F R ∧ Abs K F R M H ∧ Er K F σ η ∧ ds d η M ∧ EndsOk K F R d D
def PXS (X : Cx) (G : GH) (s : Stmt) (ds : DS) : Prop := PS X s (LS X.K G ds)
def PXB (X : Cx) (G : GH) (s : List Stmt) (ds : DS) : Prop := PSs X s (LS X.K G ds)

def dNext : DS := fun d η M => d.nx η M
def dSeq (s t : DS) : DS := fun d η M => s { d with nx := t d } η M
def dRet (de : DE) : DS := fun d η M => de η M d.rt
def dRetN : DS := fun d _ M => d.rt (.d .none) M
def dDrop (de : DE) : DS := fun d η M => de η M fun _ M1 => d.nx η M1
def dSet (i : Nat) (de : DE) : DS := fun d η M => de η M fun l M1 => d.nx (η.set i (some l)) M1
def dIfS (t : DT) (a b : DS) : DS := fun d η M => t η M fun c M1 => if c = true then a d η M1 else b d η M1
section
variable {X : Cx} {G : GH} {st : Stmt} {rest body : List Stmt} {e a b c iter tg : Expr} {pos p : Pos} {de da db : DE} {ds dt : DS} {t : DT}
theorem pxb_nil : PXB X G [] dNext := by
  refine pss_imp pss_nil ?_
  rintro D σ H ⟨F, R, η, M, d, hG, A, E, h, k⟩
  exact k.nx η M σ H F (Same.refl F) A E h
theorem pxb_cons (h1 : PXS X G st ds) (h2 : PXB X G rest dt) : PXB X G (st :: rest) (dSeq ds dt) := by
  refine pss_imp (pss_cons h1 h2) ?_
  rintro D σ H ⟨F, R, η, M, d, hG, A, E, h, k⟩
  exact ⟨F, R, η, M, _, hG, A, E, h, fun η' M' σ' H' F' s A' E' h' => ⟨F', R, η', M', d, hG.trans s, A', E', h', k.mono s⟩, k.rt, k.bk, k.ct⟩
theorem pxb_one (h1 : PXS X G st ds) : PXB X G [st] ds := pss_one h1
theorem pxs_ret (he : PX X G e de) : PXS X G (.Return (some e) pos) (dRet de) := by
  refine ps_imp (ps_ret he) ?_
  rintro D σ H ⟨F, R, η, M, d, hG, A, E, h, k⟩
  exact ⟨F, R, η, M, d.rt, hG, A, E, h, k.rt⟩
theorem pxs_retN : PXS X G (.Return none pos) dRetN := by
  refine ps_imp ps_retN ?_
  rintro D σ H ⟨F, R, η, M, d, hG, A, E, h, k⟩
  exact k.rt.plain A .non h
theorem pxs_expr (he : PX X G e de) (hs : swapsWith e none pos.line X.env = pure false := by rfl) : PXS X G (.Expr e pos) (dDrop de) := by
  refine ps_imp (ps_expr he hs) ?_
  rintro D σ H ⟨F, R, η, M, d, hG, A, E, h, k⟩
  exact le_bind hG A E h fun l M1 v H1 F1 g1 s1 A1 E1 r1 h1 => k.nx η M1 σ H1 F1 s1 A1 E1 h1
theorem pxs_pass : PXS X G (.Pass pos) dNext := by
  refine ps_imp ps_pass ?_
  rintro D σ H ⟨F, R, η, M, d, hG, A, E, h, k⟩
  exact k.nx η M σ H F (Same.refl F) A E h
def dBrk : DS := fun d η M => d.bk η M
def dCnt : DS := fun d η M => d.ct η M
theorem pxs_break : PXS X G (.Break pos) dBrk := by
  refine ps_imp ps_break ?_
  rintro D σ H ⟨F, R, η, M, d, hG, A, E, h, k⟩
  exact k.bk η M σ H F (Same.refl F) A E h
theorem pxs_continue : PXS X G (.Continue pos) dCnt := by
  refine ps_imp ps_continue ?_
  rintro D σ H ⟨F, R, η, M, d, hG, A, E, h, k⟩
  exact k.ct η M σ H F (Same.refl F) A E h
theorem pxs_doc {x j pos'} : PXS X G (.Expr (.Constant (.str x) j pos) pos') dNext := by
  refine ps_imp ps_doc ?_
  rintro D σ H ⟨F, R, η, M, d, hG, A, E, h, k⟩
  exact k.nx η M σ H F (Same.refl F) A E h
theorem pxs_set (i : Nat) {x : Str} {pos' : Pos} (hN : X.N.Nodup) (he : PX X G e de) (hi : X.N[i]? = some x := by rfl) (hx : Loc X.env.scope x := by first | exact Or.inl rfl | exact Or.inr rfl) (hs : swapsWith e (some (.Name x pos')) pos.line X.env = pure false := by rfl)
    (hf : X.fn x = true ∨ X.env.scope.names.lookup x = some .local := by first | exact .inl rfl | exact .inr rfl) : PXS X G (.Assign [.Name x pos'] e pos) (dSet i de) := by
  refine ps_imp (ps_set hN hi hx he hs hf) ?_
  rintro D σ H ⟨F, R, η, M, d, hG, A, E, h, k⟩
  exact le_bind hG A E h fun l M1 v H1 F1 g1 s1 A1 E1 r1 h1 => k.nx _ M1 _ H1 F1 s1 A1 (E1.set i r1) h1
theorem pxs_if {x y : List Stmt} (ht : PXT X G c t) (ha : PXB X G x ds) (hb : PXB X G y dt) : PXS X G (.If c x y pos) (dIfS t ds dt) := by
  refine ps_imp (ps_if ht ha hb) ?_
  rintro D σ H ⟨F, R, η, M, d, hG, A, E, h, k⟩
  refine lt_bind hG A E h fun b M1 H1 F1 g1 s1 A1 E1 h1 => ?_
  cases b with
  | true => exact iteT ⟨F1, R, η, M1, d, g1, A1, E1, h1, k.mono s1⟩
  | false => exact iteF ⟨F1, R, η, M1, d, g1, A1, E1, h1, k.mono s1⟩
/-- a, b = x, y -/
def dPar (i j : Nat) (ds : DA) : DS := fun d η M => ds η M fun ls M1 => ∃ l m, ls = [l, m] ∧ d.nx ((η.set i (some l)).set j (some m)) M1
theorem pxs_par (i j : Nat) {x y : Str} {px py pt : Pos} {kt k2 pt2} {dd : DA} (hc : X.calm = true) (hN : X.N.Nodup) (ha : PXA X G [a, b] dd) (hij : i ≠ j := by decide) (hi : X.N[i]? = some x := by rfl) (hj : X.N[j]? = some y := by rfl)
    (hx : X.env.scope.names.lookup x = some .local := by rfl) (hy : X.env.scope.names.lookup y = some .local := by rfl)
    (hw : swappedStores [.Tuple [.Name x px, .Name y py] kt pt] (.Tuple [a, b] k2 pt2) X.env = pure (some [x, y]) := by rfl)
    (hs : swapsWithSole [.Tuple [.Name x px, .Name y py] kt pt] (.Tuple [a, b] k2 pt2) pos.line X.env = pure false := by rfl) :
    PXS X G (.Assign [.Tuple [.Name x px, .Name y py] kt pt] (.Tuple [a, b] k2 pt2) pos) (dPar i j dd) := by
  refine ps_imp (ps_par hc hN hi hj hij hx hy ha hw hs) ?_
  rintro D σ H ⟨F, R, η, M, d, hG, A, E, h, k⟩
  refine la_bind hG A E h fun ls M1 vs H1 F1 g1 s1 A1 E1 r1 h1 => ?_
  obtain ⟨l, m, rfl, h1⟩ := h1
  obtain ⟨v, w, rfl, r1, r2⟩ := lrs2 r1
  exact ⟨v, w, rfl, k.nx _ M1 _ H1 F1 s1 A1 ((E1.set i r1).set j r2) h1⟩

/-! ### targets -/
abbrev DG := L → Ev → Ms → (Ev → Ms → Prop) → Prop
abbrev DGs := List L → Ev → Ms → (Ev → Ms → Prop) → Prop
def LG (K : PySem.W.Frag) (G : GH) (dg : DG) : TG := fun v σ H Q => ∃ F R η M l q, SG G F R ∧ Abs K F R M H ∧ Er K F σ η ∧ LR K F v l ∧ dg l η M q ∧ ∀ η' M' σ' H' F', Same F F' → Abs K F' R M' H' → Er K F' σ' η' → q η' M' → Q σ' H'
def LGs (K : PySem.W.Frag) (G : GH) (dg : DGs) : TGs := fun v σ H Q => ∃ F R η M l q, SG G F R ∧ Abs K F R M H ∧ Er K F σ η ∧ LRs K F v l ∧ dg l η M q ∧ ∀ η' M' σ' H' F', Same F F' → Abs K F' R M' H' → Er K F' σ' η' → q η' M' → Q σ' H'
def PXG (X : Cx) (G : GH) (e : Expr) (dg : DG) : Prop := PG X e (LG X.K G dg)
def PXGs (X : Cx) (G : GH) (e : List Expr) (dg : DGs) : Prop := PGs X e (LGs X.K G dg)
theorem pg_imp {X : Cx} {e : Expr} {t t' : TG} (h : PG X e t) (i : ∀ v σ H Q, t' v σ H Q → t v σ H Q) : PG X e t' := ⟨fun pins s σ H v u Q I r q => h.run pins s σ H v u Q I r (i _ _ _ _ q)⟩
theorem pgs_imp {X : Cx} {e : List Expr} {t t' : TGs} (h : PGs X e t) (i : ∀ v σ H Q, t' v σ H Q → t v σ H Q) : PGs X e t' := ⟨fun pins s σ H v u Q I r q => h.run pins s σ H v u Q I r (i _ _ _ _ q)⟩
def gN (i : Nat) : DG := fun l η M q => q (η.set i (some l)) M
def gNl : DGs := fun ls η M q => ls = [] ∧ q η M
def gCn (g : DG) (gs : DGs) : DGs := fun ls η M q => ∃ l r, ls = l :: r ∧ g l η M fun η1 M1 => gs r η1 M1 q
def gTp (n : Nat) (gs : DGs) : DG := fun l η M q => ∃ xs, l = .d (.tuple xs) ∧ xs.length = n ∧ gs (xs.map L.d) η M q
theorem pxg_name (i : Nat) {x : Str} (hN : X.N.Nodup) (hi : X.N[i]? = some x := by rfl) (hx : Loc X.env.scope x := by first | exact Or.inl rfl | exact Or.inr rfl)
    (hf : X.fn x = true ∨ X.env.scope.names.lookup x = some .local := by first | exact .inl rfl | exact .inr rfl) : PXG X G (.Name x pos) (gN i) := by
  refine pg_imp (pg_name hN hi hx hf) ?_
  rintro v σ H Q ⟨F, R, η, M, l, q, hG, A, E, r, h, k⟩
  exact k _ M _ H F (Same.refl F) A (E.set i r) h
theorem pxg_nil : PXGs X G [] gNl := by
  refine pgs_imp pgs_nil ?_
  rintro v σ H Q ⟨F, R, η, M, l, q, hG, A, E, r, h, k⟩
  obtain ⟨rfl, h⟩ := h
  cases r
  exact ⟨rfl, k _ M _ H F (Same.refl F) A E h⟩
theorem pxg_cons {es : List Expr} {g : DG} {gs : DGs} (h1 : PXG X G e g) (h2 : PXGs X G es gs)
    (hs : (assignEach (e :: es) X.env).map (·.2) = assign e X.env :: (assignEach es X.env).map (·.2) := by rfl) : PXGs X G (e :: es) (gCn g gs) := by
  refine pgs_imp (pgs_cons h1 h2 hs) ?_
  rintro v σ H Q ⟨F, R, η, M, l, q, hG, A, E, r, h, k⟩
  obtain ⟨l1, lr, rfl, h⟩ := h
  cases r with
  | cons r rr =>
    refine ⟨_, _, rfl, F, R, η, M, l1, _, hG, A, E, r, h, fun η1 M1 σ1 H1 F1 s1 A1 E1 h1 => ?_⟩
    exact ⟨F1, R, η1, M1, lr, q, hG.trans s1, A1, E1, LRs.mono s1 rr, h1, fun η' M' σ' H' F' s => k η' M' σ' H' F' (s1.trans s)⟩
theorem pxg_tup {es : List Expr} {k : Nat} {gs : DGs} {n : Nat} (hc : X.calm = true) (h : PXGs X G es gs)
    (hn : (assignEach es X.env).length = n := by rfl) (hst : (assignEach es X.env).findIdx? (·.1) = none := by rfl) : PXG X G (.Tuple es k pos) (gTp n gs) := by
  refine pg_imp (pg_tup hc h hn hst) ?_
  rintro v σ H Q ⟨F, R, η, M, l, q, hG, A, E, r, h, k⟩
  obtain ⟨xs, rfl, hl, h⟩ := h
  cases r with
  | tup hs ha => exact ⟨_, _, rfl, sqT_same A.fz hs.sq, by rw [ha.length]; exact hl, F, R, η, M, _, q, hG, A, E, LRs.of_data ha, h, k⟩
/-- target = value -/
def dAsg (de : DE) (g : DG) : DS := fun d η M => de η M fun l M1 => g l η M1 d.nx
theorem pxs_asg {g : DG} (he : PX X G e de) (hg : PXG X G tg g) (hs : swapsWithSole [tg] e pos.line X.env = pure false := by rfl) (hw : swappedStores [tg] e X.env = pure none := by rfl)
    (h1 : (assignEach [tg] X.env).map (·.2) = [assign tg X.env] := by rfl) : PXS X G (.Assign [tg] e pos) (dAsg de g) := by
  refine ps_imp (ps_asg he hg hs hw h1) ?_
  rintro D σ H ⟨F, R, η, M, d, hG, A, E, h, k⟩
  exact le_bind hG A E h fun l M1 v H1 F1 g1 s1 A1 E1 r1 h1 => ⟨F1, R, η, M1, l, _, g1, A1, E1, r1, h1, fun η' M' σ' H' F' s => k.nx η' M' σ' H' F' (s1.trans s)⟩

/-! ### for -/
/-- what J yields, from the frozen heap F on: the data ds, one after another -/
structure JD (K : PySem.W.Frag) (F0 : Hp) (J : It) (ds : List PyData) : Prop where
  stop : ∀ F R M H, Same F0 F → Abs K F R M H → J.stop ds.length H
  go : ∀ F R M H i, Same F0 F → Abs K F R M H → i < ds.length → J.go i H
  yld : ∀ F R M H i x H' d, Same F0 F → Abs K F R M H → ds[i]? = some d → J.yld i H x H' → ∃ F', Same F F' ∧ Abs K F' R M H' ∧ Rp K F' x d
abbrev DI := Ev → Ms → (List PyData → Ms → Prop) → Prop
def LI (K : PySem.W.Frag) (G : GH) (di : DI) : TI := fun σ H Q => ∃ F R η M q, SG G F R ∧ Abs K F R M H ∧ Er K F σ η ∧ di η M q ∧ ∀ ds M' J H' F', Same F F' → Abs K F' R M' H' → JD K F' J ds → q ds M' → Q J H'
def PXI (X : Cx) (G : GH) (tg iter : Expr) (di : DI) : Prop := PI X tg iter (LI X.K G di)
theorem pi_imp {X : Cx} {tg e : Expr} {t t' : TI} (h : PI X tg e t) (i : ∀ σ H Q, t' σ H Q → t σ H Q) : PI X tg e t' := ⟨fun pins s σ H Q I q => h.run pins s σ H Q I (i _ _ _ q)⟩
theorem jd_list {K : PySem.W.Frag} {F0 : Hp} {a : Addr} {vs : List V} {ds : List PyData} (h : SqM K F0 a vs) (r : RpA K F0 vs ds) : JD K F0 (Itl K a) ds := by
  refine ⟨fun F R M H s A => ⟨vs, (sqM_same (s.trans A.fz) h).l, by rw [r.length]; exact Nat.le_refl _⟩, fun F R M H i s A hi => ?_, fun F R M H i x H' d s A hd hy => ?_⟩
  · have hv : i < vs.length := by rw [r.length]; exact hi
    exact ⟨vs, vs[i], (sqM_same (s.trans A.fz) h).l, List.getElem?_eq_getElem hv⟩
  · obtain ⟨rfl, hy⟩ := hy
    have e := hy vs ((sqM_same (s.trans A.fz) h).l)
    obtain ⟨d', hd', r'⟩ := r.getV e
    rw [hd] at hd'
    cases hd'
    exact ⟨F, Same.refl F, A, r'.mono s⟩
theorem jd_tup {K : PySem.W.Frag} {F0 : Hp} {a : Addr} {vs : List V} {ds : List PyData} (h : SqT K F0 a vs) (r : RpA K F0 vs ds) : JD K F0 (Itt K a) ds := by
  refine ⟨fun F R M H s A => ⟨vs, sqT_same (s.trans A.fz) h, by rw [r.length]; exact Nat.le_refl _⟩, fun F R M H i s A hi => ?_, fun F R M H i x H' d s A hd hy => ?_⟩
  · have hv : i < vs.length := by rw [r.length]; exact hi
    exact ⟨vs, vs[i], sqT_same (s.trans A.fz) h, List.getElem?_eq_getElem hv⟩
  · obtain ⟨rfl, hy⟩ := hy
    have e := hy vs (sqT_same (s.trans A.fz) h)
    obtain ⟨d', hd', r'⟩ := r.getV e
    rw [hd] at hd'
    cases hd'
    exact ⟨F, Same.refl F, A, r'.mono s⟩
/-- the ints from lo on -/
def rangeD (lo : Int) (n : Nat) : List PyData := (List.range n).map fun k => .int (lo + (k : Nat))
theorem rangeD_length (lo : Int) (n : Nat) : (rangeD lo n).length = n := by unfold rangeD; rw [List.length_map, List.length_range]
theorem jd_range {K : PySem.W.Frag} {F0 : Hp} (lo : Int) (n : Nat) : JD K F0 (Itr lo n) (rangeD lo n) := by
  refine ⟨fun F R M H s A => Nat.le_of_eq (rangeD_length lo n).symm, fun F R M H i s A hi => by rw [rangeD_length] at hi; exact hi, fun F R M H i x H' d s A hd hy => ?_⟩
  obtain ⟨rfl, rfl⟩ := hy
  have hi : i < n := by
    have := (List.getElem?_eq_some_iff.mp hd).1
    rw [rangeD_length] at this
    exact this
  unfold rangeD at hd
  rw [List.getElem?_map, List.getElem?_range hi] at hd
  cases hd
  exact ⟨F, Same.refl F, A, .int _⟩
/-- enumerate -/
def enumD (ds : List PyData) : List PyData := ds.zipIdx.map fun p => .tuple [.int (p.2 : Nat), p.1]
def iL (de : DE) : DI := fun η M q => de η M fun l M1 => ∃ ds, l = .d (.list ds) ∧ q ds M1
def iT (de : DE) : DI := fun η M q => de η M fun l M1 => ∃ ds, l = .d (.tuple ds) ∧ q ds M1
def iR1 (da : DA) : DI := fun η M q => da η M fun ls M1 => ∃ j : Int, ls = [.d (.int j)] ∧ -(2 ^ 62) ≤ j ∧ j < 2 ^ 62 ∧ q (rangeD 0 j.toNat) M1
def iR2 (da : DA) : DI := fun η M q => da η M fun ls M1 => ∃ i j : Int, ls = [.d (.int i), .d (.int j)] ∧ (-(2 ^ 62) ≤ i ∧ i < 2 ^ 62 ∧ -(2 ^ 62) ≤ j ∧ j < 2 ^ 62) ∧ q (rangeD i (j - i).toNat) M1
theorem pxi_list (h : PX X G iter de) : PXI X G tg iter (iL de) := by
  refine pi_imp (pi_list h) ?_
  rintro σ H Q ⟨F, R, η, M, q, hG, A, E, h, k⟩
  refine le_bind hG A E h fun l M1 v H1 F1 g1 s1 A1 E1 r1 h1 => ?_
  obtain ⟨ds, rfl, h1⟩ := h1
  cases r1 with
  | lst hs ha => exact ⟨_, rfl, ⟨_, (sqM_same A1.fz hs).l⟩, k ds M1 _ H1 F1 s1 A1 (jd_list hs ha) h1⟩
theorem pxi_tup (h : PX X G iter de) : PXI X G tg iter (iT de) := by
  refine pi_imp (pi_tup h) ?_
  rintro σ H Q ⟨F, R, η, M, q, hG, A, E, h, k⟩
  refine le_bind hG A E h fun l M1 v H1 F1 g1 s1 A1 E1 r1 h1 => ?_
  obtain ⟨ds, rfl, h1⟩ := h1
  cases r1 with
  | tup hs ha => exact ⟨_, rfl, ⟨_, sqT_same A1.fz hs.sq⟩, k ds M1 _ H1 F1 s1 A1 (jd_tup hs.sq ha) h1⟩
theorem pxi_range1 {dd : DA} (hm : X.mg "range" = none) (ha : PXA X G [e] dd) (hg : Gl X "range" := by rfl) (hs : starEach [e] X.env = [(false, eval e X.env)] := by rfl) : PXI X G tg (.Call (.Name "range" p) [e] [] pos) (iR1 dd) := by
  refine pi_imp (pi_range1 hg hm ha hs) ?_
  rintro σ H Q ⟨F, R, η, M, q, hG, A, E, h, k⟩
  refine la_bind hG A E h fun ls M1 vs H1 F1 g1 s1 A1 E1 r1 h1 => ?_
  obtain ⟨j, rfl, b1, b2, h1⟩ := h1
  obtain ⟨v, rfl, r⟩ := lrs1 r1
  cases r
  exact ⟨j, rfl, b1, b2, k _ M1 _ H1 F1 s1 A1 (jd_range 0 _) h1⟩
theorem pxi_range2 {dd : DA} (hm : X.mg "range" = none) (ha : PXA X G [a, b] dd) (hg : Gl X "range" := by rfl) (hs : starEach [a, b] X.env = [(false, eval a X.env), (false, eval b X.env)] := by rfl) (hs2 : starEach [b] X.env = [(false, eval b X.env)] := by rfl) : PXI X G tg (.Call (.Name "range" p) [a, b] [] pos) (iR2 dd) := by
  refine pi_imp (pi_range2 hg hm ha hs hs2) ?_
  rintro σ H Q ⟨F, R, η, M, q, hG, A, E, h, k⟩
  refine la_bind hG A E h fun ls M1 vs H1 F1 g1 s1 A1 E1 r1 h1 => ?_
  obtain ⟨i, j, rfl, bs, h1⟩ := h1
  obtain ⟨v, w, rfl, r, r2⟩ := lrs2 r1
  cases r
  cases r2
  exact ⟨i, j, rfl, bs, k _ M1 _ H1 F1 s1 A1 (jd_range i _) h1⟩
/-- a loop over the data ds -/
def dLoop (g : DG) (b : DS) (d : DEnds) : List PyData → Ev → Ms → Prop
  | [] => d.nx
  | x :: xs => fun η M => g (.d x) η M fun η1 M1 => b { nx := dLoop g b d xs, rt := d.rt, bk := d.nx, ct := dLoop g b d xs } η1 M1
def dFor (di : DI) (g : DG) (b : DS) : DS := fun d η M => di η M fun xs M1 => dLoop g b d xs η M1
theorem pxs_for {di : DI} {g : DG} (hc : X.calm = true) (hi : PXI X G tg iter di) (hg : PXG X G tg g) (hb : PXB X G body ds) (hp : PassesOwn (model X.prog X.w) X.A X.env X.xe)
    (hs : ∀ x, foldedSetIterable iter X.env x = pure x := by intro _; rfl) : PXS X G (.For tg iter body [] pos) (dFor di g ds) := by
  refine ps_imp (ps_for hp hc hi hg hb hs) ?_
  rintro D σ H ⟨F, R, η, M, d, hG, A, E, h, k⟩
  refine ⟨F, R, η, M, _, hG, A, E, h, fun xs M1 J H1 F1 s1 A1 jd h1 => ?_⟩
  refine ⟨fun i m σ H => m = xs.length - i ∧ i ≤ xs.length ∧ ∃ F2 η2 M2, Same F1 F2 ∧ Abs X.K F2 R M2 H ∧ Er X.K F2 σ η2 ∧ dLoop g ds d (xs.drop i) η2 M2,
    ⟨xs.length, rfl, Nat.zero_le _, F1, η, M1, Same.refl F1, A1, E.mono s1, h1⟩, ?_⟩
  rintro i m σ2 H2 ⟨rfl, hi, F2, η2, M2, s2, A2, E2, h2⟩
  by_cases hlt : i < xs.length
  · refine .inr ⟨jd.go F2 R M2 H2 i s2 A2 hlt, fun σ' H' => i + 1 ≤ xs.length ∧ ∃ F3 η3 M3, Same F1 F3 ∧ Abs X.K F3 R M3 H' ∧ Er X.K F3 σ' η3 ∧ dLoop g ds d (xs.drop (i + 1)) η3 M3, ?_, ?_⟩
    · rintro σ' H' ⟨hi', z⟩
      exact ⟨xs.length - (i + 1), by omega, rfl, hi', z⟩
    · intro x H3 hy
      obtain ⟨F3, s3, A3, r3⟩ := jd.yld F2 R M2 H2 i x H3 xs[i] s2 A2 (List.getElem?_eq_getElem hlt) hy
      have h2' : dLoop g ds d (xs[i] :: xs.drop (i + 1)) η2 M2 := by
        rw [← List.drop_eq_getElem_cons hlt]
        exact h2
      refine ⟨F3, R, η2, M2, .d xs[i], _, (hG.trans (s1.trans s2)).trans s3, A3, E2.mono s3, r3, h2', fun η4 M4 σ4 H4 F4 s4 A4 E4 h4 => ?_⟩
      have k4 := ((k.mono s1).mono (s2.trans s3)).mono s4
      refine ⟨F4, R, η4, M4, _, ((hG.trans (s1.trans s2)).trans s3).trans s4, A4, E4, h4, ?_⟩
      exact ⟨fun η' M' σ' H' F' t A' E' h' => ⟨hlt, F', η', M', ((s2.trans s3).trans s4).trans t, A', E', h'⟩, k4.rt, k4.nx,
        fun η' M' σ' H' F' t A' E' h' => ⟨hlt, F', η', M', ((s2.trans s3).trans s4).trans t, A', E', h'⟩⟩
  · have e : i = xs.length := by omega
    subst e
    rw [List.drop_length] at h2
    exact .inl ⟨jd.stop F2 R M2 H2 s2 A2, (k.mono s1).nx η2 M2 σ2 H2 F2 s2 A2 E2 h2⟩
/-- a while: n turns at most -/
def dWhN (t : DT) (b : DS) (d : DEnds) : Nat → Ev → Ms → Prop
  | 0 => fun _ _ => False
  | n + 1 => fun η M => t η M fun c M1 => if c = true then b { nx := dWhN t b d n, rt := d.rt, bk := d.nx, ct := dWhN t b d n } η M1 else d.nx η M1
def dWhile (t : DT) (b : DS) : DS := fun d η M => ∃ n, dWhN t b d n η M
theorem pxs_while (ht : PXT X G c t) (hb : PXB X G body ds) (hp : PassesOwn (model X.prog X.w) X.A X.env X.xe) : PXS X G (.While c body [] pos) (dWhile t ds) := by
  refine ps_imp (ps_while hp ht hb) ?_
  rintro D σ H ⟨F, R, η, M, d, hG, A, E, ⟨n, h⟩, k⟩
  refine ⟨fun m σ H => ∃ F2 η2 M2, Same F F2 ∧ Abs X.K F2 R M2 H ∧ Er X.K F2 σ η2 ∧ dWhN t ds d m η2 M2, ⟨n, F, η, M, Same.refl F, A, E, h⟩, ?_⟩
  rintro m σ2 H2 ⟨F2, η2, M2, s2, A2, E2, h2⟩
  cases m with
  | zero => exact h2.elim
  | succ m =>
    refine lt_bind (hG.trans s2) A2 E2 h2 fun b M3 H3 F3 g3 s3 A3 E3 h3 => ?_
    cases b with
    | true =>
      refine iteT ⟨fun σ' H' => ∃ F4 η4 M4, Same F F4 ∧ Abs X.K F4 R M4 H' ∧ Er X.K F4 σ' η4 ∧ dWhN t ds d m η4 M4, fun σ' H' z => ⟨m, Nat.lt_succ_self m, z⟩, ?_⟩
      have k3 := k.mono (s2.trans s3)
      refine ⟨F3, R, η2, M3, _, g3, A3, E3, h3, ?_⟩
      exact ⟨fun η' M' σ' H' F' u A' E' h' => ⟨F', η', M', (s2.trans s3).trans u, A', E', h'⟩, k3.rt, k3.nx, fun η' M' σ' H' F' u A' E' h' => ⟨F', η', M', (s2.trans s3).trans u, A', E', h'⟩⟩
    | false => exact iteF ((k.mono s2).nx η2 M3 σ2 H3 F3 s3 A3 E3 h3)

/-! ### comprehensions -/
def wipeD (η : Ev) : List Nat → Ev
  | [] => η
  | v :: vs => (wipeD η vs).set v none
theorem er_wipe {K : PySem.W.Frag} {F : Hp} {σ : L2.St} {η : Ev} (E : Er K F σ η) : ∀ vs : List Nat, Er K F (wipe σ vs) (wipeD η vs)
  | [] => E
  | v :: vs => (er_wipe E vs).set_none v
/-- the turns of a comprehension: acc is made so far -/
def dLcN (g : DG) (t : DT) (e : DE) (η : Ev) (k : List PyData → Ms → Prop) : List PyData → List PyData → Ms → Prop
  | [], acc => k acc
  | x :: xs, acc => fun M => g (.d x) η M fun η1 M1 => t η1 M1 fun c M2 => if c = true then e η1 M2 fun l M3 => ∃ y, l = .d y ∧ acc.length < sizeLine ∧ dLcN g t e η k xs (acc ++ [y]) M3 else dLcN g t e η k xs acc M2
def dLc (di : DI) (g : DG) (t : DT) (e : DE) (vs : List Nat) : DE := fun η M q => di η M fun xs M1 => dLcN g t e (wipeD η vs) (fun ys M2 => q (.d (.list ys)) M2) xs [] M1

theorem wipe_set {σ : L2.St} {x : Option V} {i : Nat} : ∀ {vs : List Nat}, i ∈ vs → wipe (σ.set i x) vs = wipe σ vs
  | v :: vs, h => by
    show (wipe (σ.set i x) vs).set v none = (wipe σ vs).set v none
    by_cases e : i ∈ vs
    · rw [wipe_set e]
    · have q : i = v := (List.mem_cons.mp h).resolve_right e
      subst q
      have aux : ∀ us : List Nat, i ∉ us → wipe (σ.set i x) us = (wipe σ us).set i x := by
        intro us
        induction us with
        | nil => intro _; rfl
        | cons u us ih =>
          intro hn
          have h1 : i ≠ u := fun z => hn (z ▸ List.mem_cons_self)
          have h2 : i ∉ us := fun z => hn (List.mem_cons_of_mem _ z)
          show (wipe (σ.set i x) us).set u none = ((wipe σ us).set u none).set i x
          rw [ih h2, List.set_comm _ _ h1]
      rw [aux vs e, List.set_set]
theorem wipe_wipe (σ : L2.St) (vs : List Nat) : wipe (wipe σ vs) vs = wipe σ vs := by
  have aux : ∀ us : List Nat, (∀ u ∈ us, u ∈ vs) → wipe (wipe σ us) vs = wipe σ vs := by
    intro us
    induction us with
    | nil => intro _; rfl
    | cons u us ih =>
      intro h
      show wipe ((wipe σ us).set u none) vs = wipe σ vs
      rw [wipe_set (h u List.mem_cons_self)]
      exact ih fun z hz => h z (List.mem_cons_of_mem _ hz)
  exact aux vs fun _ h => h
/-- a target that stores the names vs alone -/
def GWk (K : PySem.W.Frag) (tg : TG) (g : DG) (vs : List Nat) : Prop := ∀ F R M H σ η v l q (Q : L2.St → Hp → Prop), Abs K F R M H → Er K F σ η → LR K F v l → g l η M q →
  (∀ η' M' σ', Er K F σ' η' → wipe σ' vs = wipe σ vs → Abs K F R M' H → q η' M' → Q σ' H) → tg v σ H Q
def GWks (K : PySem.W.Frag) (tg : TGs) (g : DGs) (vs : List Nat) : Prop := ∀ F R M H σ η v l q (Q : L2.St → Hp → Prop), Abs K F R M H → Er K F σ η → LRs K F v l → g l η M q →
  (∀ η' M' σ', Er K F σ' η' → wipe σ' vs = wipe σ vs → Abs K F R M' H → q η' M' → Q σ' H) → tg v σ H Q
theorem gw_name {K : PySem.W.Frag} {vs : List Nat} (i : Nat) (h : i ∈ vs := by decide) : GWk K (gName i) (gN i) vs :=
  fun F R M H σ η v l q Q A E r hq k => k _ M _ (E.set i r) (wipe_set h) A hq
theorem gw_nil {K : PySem.W.Frag} {vs : List Nat} : GWks K gNil gNl vs := by
  rintro F R M H σ η v l q Q A E r ⟨rfl, hq⟩ k
  cases r
  exact ⟨rfl, k _ M _ E rfl A hq⟩
theorem gw_cons {K : PySem.W.Frag} {vs : List Nat} {t : TG} {u : TGs} {g : DG} {gs : DGs} (h1 : GWk K t g vs) (h2 : GWks K u gs vs) : GWks K (gCons t u) (gCn g gs) vs := by
  rintro F R M H σ η v l q Q A E r ⟨l1, lr, rfl, hq⟩ k
  cases r with
  | cons r rr =>
    refine ⟨_, _, rfl, h1 F R M H σ η _ l1 _ _ A E r hq fun η1 M1 σ1 E1 w1 A1 q1 => ?_⟩
    exact h2 F R M1 H σ1 η1 _ lr q Q A1 E1 rr q1 fun η' M' σ' E' w' A' q' => k η' M' σ' E' (w'.trans w1) A' q'
theorem gw_tup {K : PySem.W.Frag} {vs : List Nat} {n : Nat} {u : TGs} {gs : DGs} (h2 : GWks K u gs vs) : GWk K (gTup K n u) (gTp n gs) vs := by
  rintro F R M H σ η v l q Q A E r ⟨xs, rfl, hl, hq⟩ k
  cases r with
  | tup hs ha => exact ⟨_, _, rfl, sqT_same A.fz hs.sq, by rw [ha.length]; exact hl, h2 F R M H σ η _ _ q Q A E (LRs.of_data ha) hq k⟩
theorem le_lc {K : PySem.W.Frag} {di : DI} {g : DG} {tgH : TG} {de : DE} {vs : List Nat} (gw : GWk K tgH g vs) {σ : L2.St} {H : Hp} {Q : VK} (h : LE K G (dLc di g t de vs) σ H Q) : tLc (LI K G di) tgH (LT K G t) (LE K G de) vs σ H Q := by
  obtain ⟨F, R, η, M, q, hG, A, E, h, c⟩ := h
  refine ⟨F, R, η, M, _, hG, A, E, h, fun xs M1 J H1 F1 s1 A1 jd h1 D hD => ?_⟩
  have rD := A1.freeR hD
  refine ⟨fun i m H => m = xs.length - i ∧ i ≤ xs.length ∧ ∃ F2 M2 va acc, Same F1 F2 ∧ Abs K F2 (upd R D (.lst va)) M2 H ∧ RpA K F2 va acc ∧ dLcN g t de (wipeD η vs) (fun ys M2 => q (.d (.list ys)) M2) (xs.drop i) acc M2,
    ⟨xs.length, rfl, Nat.zero_le _, F1, M1, [], [], Same.refl F1, A1.aside hD, .nil, h1⟩, ?_⟩
  rintro i m H2 ⟨rfl, hi, F2, M2, va, acc, s2, A2, ra, h2⟩
  by_cases hlt : i < xs.length
  · refine .inr ⟨jd.go F2 _ M2 H2 i s2 A2 hlt, fun H' => i + 1 ≤ xs.length ∧ ∃ F3 M3 va acc, Same F1 F3 ∧ Abs K F3 (upd R D (.lst va)) M3 H' ∧ RpA K F3 va acc ∧ dLcN g t de (wipeD η vs) (fun ys M2 => q (.d (.list ys)) M2) (xs.drop (i + 1)) acc M3, ?_, ?_⟩
    · rintro H' ⟨hi', z⟩
      exact ⟨xs.length - (i + 1), by omega, rfl, hi', z⟩
    · intro x H3 hy
      obtain ⟨F3, s3, A3, r3⟩ := jd.yld F2 _ M2 H2 i x H3 xs[i] s2 A2 (List.getElem?_eq_getElem hlt) hy
      have h2' : dLcN g t de (wipeD η vs) (fun ys M2 => q (.d (.list ys)) M2) (xs[i] :: xs.drop (i + 1)) acc M2 := by
        rw [← List.drop_eq_getElem_cons hlt]
        exact h2
      refine gw F3 _ M2 H3 _ _ x (.d xs[i]) _ _ A3 (er_wipe (((E.mono s1).mono s2).mono s3) vs) r3 h2' fun η4 M4 σ4 E4 w4 A4 h4 => ?_
      refine ⟨by rw [w4, wipe_wipe], lt_bind (hG.more (vs := va) rD |>.trans ((s1.trans s2).trans s3)) A4 E4 h4 fun b M5 H5 F5 g5 s5 A5 E5 h5 => ?_⟩
      cases b with
      | false => exact iteF ⟨hlt, F5, M5, va, acc, (s2.trans s3).trans s5, A5, RpA.mono (s3.trans s5) ra, h5⟩
      | true =>
        refine iteT (le_bind g5 A5 E5 h5 fun l M6 v H6 F6 g6 s6 A6 E6 r6 h6 => ?_)
        obtain ⟨y, rfl, hz, h6⟩ := h6
        have r' := RpA.mono ((s3.trans s5).trans s6) ra
        exact ⟨va, (A6.rs D _ upd_same).2, by rw [r'.length]; exact hz, hlt, F6, M6, va ++ [v], acc ++ [y], ((s2.trans s3).trans s5).trans s6, A6.again, r'.append (.cons r6 .nil), h6⟩
  · have e : i = xs.length := by omega
    subst e
    rw [List.drop_length] at h2
    refine .inl ⟨jd.stop F2 _ M2 H2 s2 A2, ?_⟩
    have A3 := A2.keep rD
    have s3 := same_new (o := .lst va) (A2.rs D _ upd_same).1
    exact c (.d (.list acc)) M2 (.ref D) H2 _ ((s1.trans s2).trans s3) A3 (.lst (.inl (.inl upd_same)) (RpA.mono s3 ra)) h2
def dYes : DT := fun _ M q => q true M
/-- the context of a comprehension's block -/
abbrev bk (X : Cx) (scope : Scope) (s : Shared) (H : Hp) (C : Addr) (cl : List (Str × Addr)) (fp : List Addr) : Cx := X.blk s H scope (compEnvC scope cl C X.env) fp
theorem ptx_nil {X : Cx} : PTs X [] (LT X.K G dYes) := ⟨fun pins s σ H Q I h => by
  obtain ⟨F, R, η, M, q, hG, A, E, h, k⟩ := h
  exact pts_nil.run pins s σ H Q I (k true M H F (Same.refl F) A h)⟩
theorem ptx_one {X : Cx} (h : PXT X G c t) : PTs X [c] (LT X.K G t) := pts_one h
theorem px_lc {ifs : List Expr} {scope : Scope} (own : List (Str × Nat)) {di : DI} {g : DG} {tgH : TG} (gw : GWk X.K tgH g (own.map (·.2))) (hc : X.calm = true) (hN : X.N.Nodup) (hi : PXI X G tg iter di) (ok : blkC X.N X.env.scope scope own = true)
    (hg : ∀ s H C cl fp, PG (bk X scope s H C cl fp) tg tgH) (ht : ∀ s H C cl fp, PTs (bk X scope s H C cl fp) ifs (LT X.K G t))
    (he : ∀ s H C cl fp, PX (bk X scope s H C cl fp) G e de) (hs : ∀ x, foldedSetIterable iter X.env x = pure x := by intro _; rfl) :
    PX X G (.ListComp e [⟨tg, iter, ifs, 0⟩] scope pos) (dLc di g t de (own.map (·.2))) :=
  pe_imp (pe_lc (te := LE X.K G de) hc hN hi (blkOk_by ok) hg ht he hs) fun _ _ _ h => le_lc gw h
theorem pxs_setLc (i : Nat) {y : Str} {py spos : Pos} {ifs : List Expr} {scope : Scope} (own : List (Str × Nat)) {di : DI} {g : DG} {tgH : TG} (gw : GWk X.K tgH g (own.map (·.2))) (hc : X.calm = true) (hN : X.N.Nodup) (hi : PXI X G tg iter di) (ok : blkC X.N X.env.scope scope own = true)
    (hg : ∀ s H C cl fp, PG (bk X scope s H C cl fp) tg tgH) (ht : ∀ s H C cl fp, PTs (bk X scope s H C cl fp) ifs (LT X.K G t))
    (he : ∀ s H C cl fp, PX (bk X scope s H C cl fp) G e de) (hsw : swapsWith (.ListComp e [⟨tg, iter, ifs, 0⟩] scope pos) (some (.Name y py)) spos.line X.env = pure true) (hy : X.N[i]? = some y := by rfl) (hyl : X.env.scope.names.lookup y = some .local := by rfl) (hs : ∀ x, foldedSetIterable iter X.env x = pure x := by intro _; rfl) :
    PXS X G (.Assign [.Name y py] (.ListComp e [⟨tg, iter, ifs, 0⟩] scope pos) spos) (dSet i (dLc di g t de (own.map (·.2)))) := by
  refine ps_imp (ps_setLc (te := LE X.K G de) hc hN hy hyl hsw hi (blkOk_by ok) hg ht he hs) ?_
  rintro D σ H ⟨F, R, η, M, d, hG, A, E, h, k⟩
  exact le_lc gw (le_bind hG A E h fun l M1 v H1 F1 g1 s1 A1 E1 r1 h1 => k.nx _ M1 _ H1 F1 s1 A1 (E1.set i r1) h1)
end
end DL
end
section
/-! calls of defs; lists and dicts that are changed -/
namespace DL
open PySem PySem.Spec PyProof.Rows L2

/-! ### what a def promises -/
abbrev DSp := List L → Ms → DQ → Prop
/-- the promise dsp of a def of n parameters, no exception leaves it -/
def LSp (K : PySem.W.Frag) (n : Nat) (dsp : DSp) : Sp := fun vs H Q _ => ∃ F R M ls q, Abs K F R M H ∧ LRs K F vs ls ∧ ls.length = n ∧ dsp ls M q ∧ Cont K F R q Q
def startD (n : Nat) (ls : List L) : Ev := ls.map some ++ List.replicate (n - ls.length) none
/-- the promise that its own body makes -/
def bodySp (n : Nat) (b : DS) : DSp := fun ls M q => b { nx := fun _ M' => q (.d .none) M', rt := q } (startD n ls) M
theorem er_start {K : PySem.W.Frag} {F : Hp} {N : List Str} {vs : List V} {ls : List L} (r : LRs K F vs ls) : Er K F (L2.start N vs) (startD N.length ls) := by
  have hl := r.length
  refine ⟨?_, fun i l h => ?_⟩
  · unfold L2.start startD
    rw [List.length_append, List.length_append, List.length_map, List.length_map, List.length_replicate, List.length_replicate, hl]
  · unfold startD at h
    by_cases hi : i < ls.length
    · rw [List.getElem?_append_left (by simpa using hi), List.getElem?_map] at h
      cases q : ls[i]? with
      | none => rw [q] at h; cases h
      | some m =>
        rw [q] at h
        cases h
        obtain ⟨v, e, rv⟩ := r.get q
        refine ⟨v, ?_, rv⟩
        unfold L2.start
        rw [List.getElem?_append_left (by rw [List.length_map]; omega), List.getElem?_map, e]
        rfl
    · rw [List.getElem?_append_right (by simpa using hi), List.getElem?_replicate] at h
      split at h <;> cases h
section
variable {P : Program} {w : World} {K : PySem.W.Frag} {mg : Str → Option Value} {base : Heap} {k : Nat} {f : Addr} {fd : FuncData} {ps : List Str}
theorem LSp.len {vs : List V} {H : Hp} {Q : VK} {E : XK} {n : Nat} {dsp : DSp} (h : LSp K n dsp vs H Q E) : vs.length = n := by
  obtain ⟨F, R, M, ls, q, A, r, hl, _⟩ := h
  rw [r.length, hl]
/-- a def's body keeps the promise that it makes -/
theorem okD {x qual : Str} {st : Stmt} {N : List Str} {b : DS} {dsp : DSp} (Fn : Fun K x qual st f fd) (S : FnScope N ps (defScope st))
    (body : ∀ (cdv : Value) (A : Around) (outer : List Env) (s : Shared) (H : Hp) (E : XK) (G : GH), RoomG k (A.deeper (envOfC qual (defScope st) s.heap.objs.size f cdv)) →
      PXB (cxOf CX0 P w K mg base N qual (defScope st) f cdv A outer s H E).nox G (defBody st) b)
    (h : ∀ ls M q, ls.length = ps.length → dsp ls M q → bodySp N.length b ls M q) : FnG P w K mg base CX0 (k + 1) f fd ps (LSp K ps.length dsp) := by
  refine Fun.okG Fn S (fun vs H Q E h => LSp.len h) (fun cdv A outer s H vs Q E hr hs => ?_)
  obtain ⟨F, R, M, ls, q, A1, r, hl, hd, c⟩ := hs
  refine ⟨_, PSs.nox (body cdv A outer s H E (F, R) hr), F, R, startD N.length ls, M, { nx := fun _ M' => q (.d .none) M', rt := q }, SG.refl F R, A1, er_start r, h ls M q hl hd, ?_⟩
  exact ⟨fun η M' σ H' F' s' A' E' h' => (c.mono s').plain A' .non h', c, fun _ _ _ _ _ _ _ _ h' => h'.elim, fun _ _ _ _ _ _ _ _ h' => h'.elim⟩
end

section
variable {X : Cx} {G : GH} {k : Nat} {f : Addr} {fd : FuncData} {ps ks : List Str} {n : Nat} {dsp : DSp} {x : Str} {p pos : Pos} {e o a b : Expr} {es : List Expr} {kws : List Keyword} {dd : DA} {de da db : DE}
/-! ### calls -/
def dCall (n : Nat) (dsp : DSp) (dd : DA) : DE := fun η M q => dd η M fun ls M1 => ls.length = n ∧ dsp ls M1 q
theorem px_call (Fn : FnG X.prog X.w X.K X.mg X.base CX0 k f fd ps (LSp X.K n dsp)) (hr : RoomG k X.A) (hm : X.mg x = some (.ref f)) (hk : PySem.W.keepIn X.K (.ref f) = true) (hb : Binds X.K fd ps []) (ha : PXA X G (e :: es) dd)
    (hg : Gl X x := by rfl) (hdb : (x == ("__debug__" : Str)) = false := by decide)
    (he : starEach (e :: es) X.env = (false, eval e X.env) :: starEach es X.env := by rfl) (hpl : (backTo pos (starEach es X.env)).any (·.1) = false := by rfl) : PX X G (.Call (.Name x p) (e :: es) [] pos) (dCall n dsp dd) := by
  refine pe_imp (pe_callG Fn hr hg hm hk hb .nil (E := E0) pass0 ha hdb he hpl) ?_
  rintro σ H Q ⟨F, R, η, M, q, hG, A, E, h, c⟩
  refine la_bind hG A E h fun ls M1 vs H1 F1 g1 s1 A1 E1 r1 h1 => ?_
  rw [List.append_nil]
  exact ⟨F1, R, M1, ls, q, A1, r1, h1.1, h1.2, c.mono s1⟩
theorem px_call0 (Fn : FnG X.prog X.w X.K X.mg X.base CX0 k f fd ps (LSp X.K n dsp)) (hr : RoomG k X.A) (hm : X.mg x = some (.ref f)) (hk : PySem.W.keepIn X.K (.ref f) = true) (hb : Binds X.K fd ps [])
    (hg : Gl X x := by rfl) (hdb : (x == ("__debug__" : Str)) = false := by decide) : PX X G (.Call (.Name x p) [] [] pos) (dCall n dsp daNil) := by
  refine pe_imp (pe_call0G Fn hr hg hm hk hb .nil (E := E0) pass0 hdb) ?_
  rintro σ H Q ⟨F, R, η, M, q, hG, A, E, h, c⟩
  exact ⟨F, R, M, [], q, A, .nil, h.1, h.2, c⟩
/-- the keywords' values -/
def PXK (X : Cx) (G : GH) (kws : List Keyword) (dd : DA) : Prop := PK X kws (LA X.K G dd)
theorem pk_imp {X : Cx} {e : List Keyword} {t t' : TA} (h : PK X e t) (i : ∀ σ H Q, t' σ H Q → t σ H Q) : PK X e t' := ⟨fun p pins s σ H Q I q => h.run p pins s σ H Q I (i _ _ _ q)⟩
theorem pxk_nil : PXK X G [] daNil := by
  refine pk_imp pk_nil ?_
  rintro σ H Q ⟨F, R, η, M, q, hG, A, E, h, c⟩
  exact c [] M [] H F (Same.refl F) A .nil h
theorem pxk_cons {nm : Option Str} {kpos : Pos} (ha : PX X G e de) (hr : PXK X G kws dd) : PXK X G (⟨nm, e, kpos⟩ :: kws) (daCons de dd) := by
  refine pk_imp (pk_cons ha hr) ?_
  rintro σ H Q ⟨F, R, η, M, q, hG, A, E, h, c⟩
  refine le_bind hG A E h fun x M1 vx H1 F1 g1 s1 A1 E1 r1 h1 => ?_
  exact la_bind g1 A1 E1 h1 fun ls M2 vs H2 F2 g2 s2 A2 E2 r2 h2 => c _ M2 _ H2 F2 (s1.trans s2) A2 (.cons (r1.mono s2) r2) h2
/-- f(k = v, ..), the keywords' values put in the parameters' order by g -/
def dCallK (n : Nat) (dsp : DSp) (g : List L → List L) (dd : DA) : DE := fun η M q => dd η M fun ls M1 => (g ls).length = n ∧ dsp (g ls) M1 q
theorem px_callK {g : List Value → List Value → List Value} {gV : List V → List V → List V} {gL : List L → List L} (Fn : FnG X.prog X.w X.K X.mg X.base CX0 k f fd ps (LSp X.K n dsp)) (hr : RoomG k X.A) (hm : X.mg x = some (.ref f)) (hk : PySem.W.keepIn X.K (.ref f) = true)
    (hb : KBinds X.K fd ps ks g gV) (hL : ∀ F vs ls, LRs X.K F vs ls → LRs X.K F (gV [] vs) (gL ls)) (hkw : PXK X G kws dd)
    (hg : Gl X x := by rfl) (hall : (backToKw pos (keywordEach kws X.env)).all (·.1.isSome) = true := by rfl)
    (hks : (backToKw pos (keywordEach kws X.env)).filterMap (·.1) = ks := by rfl) (hdb : (x == ("__debug__" : Str)) = false := by decide)
    (hpl : ((backTo pos (starEach [] X.env)).any (·.1) || (backToKw pos (keywordEach kws X.env)).any (·.1.isNone)) = false := by rfl) : PX X G (.Call (.Name x p) [] kws pos) (dCallK n dsp gL dd) := by
  refine pe_imp (pe_callK0G Fn hr hg hm hk hb (E := E0) pass0 hkw hall hks hdb hpl) ?_
  rintro σ H Q ⟨F, R, η, M, q, hG, A, E, h, c⟩
  refine la_bind hG A E h fun ls M1 vs H1 F1 g1 s1 A1 E1 r1 h1 => ?_
  exact ⟨F1, R, M1, _, q, A1, hL F1 vs ls r1, h1.1, h1.2, c.mono s1⟩

/-! ### lists that are changed -/
def dAppend (de : DE) (dd : DE) : DE := fun η M q => de η M fun l M1 => ∃ a, l = .p a ∧ (∃ ls, M1 a = some (.lst ls)) ∧ dd η M1 fun y M2 => ∃ ls, M2 a = some (.lst ls) ∧ ls.length < sizeLine ∧ q (.d .none) (updM M2 a (.lst (ls ++ [y])))
theorem px_append {apos : Pos} (ho : PX X G o de) (ha : PX X G a da)
    (hbase : attributeBase o "append" X.env (eval o X.env) = eval o X.env := by rfl)
    (hfew : ((backTo pos (starEach [a] X.env)).all (fun x => !x.1) && (backToKw pos (keywordEach [] X.env)).all (fun x => x.1.isSome)
      && decide (([a] : List Expr).length + ([] : List Keyword).length + (if ([] : List Keyword).isEmpty then 0 else 1) < 30)) = true := by rfl)
    (hline : (apos.endLine == pos.line) = true := by rfl) (hs : starEach [a] X.env = (false, eval a X.env) :: starEach [] X.env := by rfl) (hplain : (backTo pos (starEach [] X.env)).any (·.1) = false := by rfl) :
    PX X G (.Call (.Attribute o "append" apos) [a] [] pos) (dAppend de da) := by
  refine pe_imp (pe_bm PySem.F.plainAttrs_list PySem.F.slot_list_append PySem.F.type_list_append mt_append ho (pa_cons ha pa_nil hs) hbase hfew hline hs hplain) ?_
  rintro σ H Q ⟨F, R, η, M, q, hG, A, E, h, c⟩
  refine le_bind hG A E h fun l M1 v H1 F1 g1 s1 A1 E1 r1 h1 => ?_
  obtain ⟨a, rfl, ⟨ls, hm⟩, h1⟩ := h1
  obtain rfl : v = .ref a := r1
  obtain ⟨_, _, vs, hv, rl⟩ := A1.mu a _ hm
  refine ⟨.inl ⟨rfl, vs, .inl (.inl hv)⟩, le_bind g1 A1 E1 h1 fun y M2 w H2 F2 g2 s2 A2 E2 r2 h2 => ?_⟩
  obtain ⟨ls2, hm2, hz, h2⟩ := h2
  obtain ⟨_, _, vs2, hv2, rl2⟩ := A2.mu a _ hm2
  refine ⟨a, vs2, w, rfl, rfl, hv2, by rw [rl2.length]; exact hz, ?_⟩
  exact c (.d .none) _ _ _ F2 (s1.trans s2) (A2.put (m' := .lst (ls2 ++ [y])) hm2 ⟨_, upd_same, rl2.append (.cons r2 .nil)⟩) Rp.non h2
/-- xs.pop() -/
def dPop (de : DE) : DE := fun η M q => de η M fun l M1 => ∃ a ls y, l = .p a ∧ M1 a = some (.lst ls) ∧ ls[ls.length - 1]? = some y ∧ q y (updM M1 a (.lst ls.dropLast))
theorem px_pop {apos : Pos} (ho : PX X G o de) (hbase : attributeBase o "pop" X.env (eval o X.env) = eval o X.env := by rfl) (hline : (apos.endLine == pos.line) = true := by rfl) :
    PX X G (.Call (.Attribute o "pop" apos) [] [] pos) (dPop de) := by
  refine pe_imp (pe_bm0 PySem.F.plainAttrs_list PySem.F.slot_list_pop PySem.F.type_list_pop mt_pop ho hbase hline) ?_
  rintro σ H Q ⟨F, R, η, M, q, hG, A, E, h, c⟩
  refine le_bind hG A E h fun l M1 v H1 F1 g1 s1 A1 E1 r1 h1 => ?_
  obtain ⟨a, ls, y, rfl, hm, hy, h1⟩ := h1
  obtain rfl : v = .ref a := r1
  obtain ⟨_, _, vs, hv, rl⟩ := A1.mu a _ hm
  obtain ⟨w, hw, rw_⟩ := rl.get hy
  rw [← rl.length] at hw
  refine ⟨.inl ⟨rfl, vs, .inl (.inl hv)⟩, a, vs, w, rfl, rfl, hv, hw, ?_⟩
  exact c _ _ _ _ F1 s1 (A1.put (m' := .lst ls.dropLast) hm ⟨_, upd_same, rl.dropLast⟩) rw_ h1
/-- xs.pop(i) -/
def dPopAt (de di : DE) : DE := fun η M q => de η M fun l M1 => ∃ a, l = .p a ∧ (∃ ls, M1 a = some (.lst ls)) ∧ di η M1 fun i M2 => ∃ ls j k y, M2 a = some (.lst ls) ∧ i = .d (.int j) ∧ -(2 ^ 63) ≤ j ∧ j < 2 ^ 63 ∧ seqIndex? j ls.length = some k ∧ ls[k]? = some y ∧ q y (updM M2 a (.lst (ls.eraseIdx k)))
theorem px_popAt {apos : Pos} (ho : PX X G o de) (ha : PX X G a da)
    (hbase : attributeBase o "pop" X.env (eval o X.env) = eval o X.env := by rfl)
    (hfew : ((backTo pos (starEach [a] X.env)).all (fun x => !x.1) && (backToKw pos (keywordEach [] X.env)).all (fun x => x.1.isSome)
      && decide (([a] : List Expr).length + ([] : List Keyword).length + (if ([] : List Keyword).isEmpty then 0 else 1) < 30)) = true := by rfl)
    (hline : (apos.endLine == pos.line) = true := by rfl) (hs : starEach [a] X.env = (false, eval a X.env) :: starEach [] X.env := by rfl) (hplain : (backTo pos (starEach [] X.env)).any (·.1) = false := by rfl) :
    PX X G (.Call (.Attribute o "pop" apos) [a] [] pos) (dPopAt de da) := by
  refine pe_imp (pe_bm PySem.F.plainAttrs_list PySem.F.slot_list_pop PySem.F.type_list_pop mt_popAt ho (pa_cons ha pa_nil hs) hbase hfew hline hs hplain) ?_
  rintro σ H Q ⟨F, R, η, M, q, hG, A, E, h, c⟩
  refine le_bind hG A E h fun l M1 v H1 F1 g1 s1 A1 E1 r1 h1 => ?_
  obtain ⟨a, rfl, ⟨ls0, hm0⟩, h1⟩ := h1
  obtain rfl : v = .ref a := r1
  obtain ⟨_, _, vs0, hv0, _⟩ := A1.mu a _ hm0
  refine ⟨.inl ⟨rfl, vs0, .inl (.inl hv0)⟩, le_bind g1 A1 E1 h1 fun i M2 w H2 F2 g2 s2 A2 E2 r2 h2 => ?_⟩
  obtain ⟨ls, j, k, y, hm, rfl, lo, hi, hk, hy, h2⟩ := h2
  cases r2
  obtain ⟨_, _, vs, hv, rl⟩ := A2.mu a _ hm
  obtain ⟨u, hu, ru⟩ := rl.get hy
  refine ⟨a, vs, j, k, u, rfl, rfl, hv, lo, hi, by rw [rl.length]; exact hk, hu, ?_⟩
  exact c _ _ _ _ F2 (s1.trans s2) (A2.put (m' := .lst (ls.eraseIdx k)) hm ⟨_, upd_same, rl.eraseIdx k⟩) ru h2

/-! ### dicts that are changed -/
def valL (kvs : List (L2.Key × L)) (k : L2.Key) : Option L := (kvs.find? fun kv => decide (kv.1 = k)).map (·.2)
def putL (kvs : List (L2.Key × L)) (k : L2.Key) (v : L) : List (L2.Key × L) :=
  if (kvs.any fun kv => decide (kv.1 = k)) = true then kvs.map (fun kv => if kv.1 = k then (kv.1, v) else kv) else kvs ++ [(k, v)]
theorem kr_val {K : PySem.W.Frag} {F : Hp} {k : L2.Key} {l : L} : ∀ {vs : List (L2.Key × V)} {ls : List (L2.Key × L)}, KR K F vs ls → valL ls k = some l → ∃ v, valV vs k = some v ∧ LR K F v l
  | _, _, .nil, h => by cases h
  | (k1, v) :: vs, (k2, m) :: ls, .cons ⟨e, r⟩ t, h => by
    have e : k1 = k2 := e
    subst e
    unfold valL at h
    unfold valV
    by_cases q : k1 = k
    · rw [List.find?_cons_of_pos (by simpa using q)] at h ⊢
      cases h
      exact ⟨v, rfl, r⟩
    · rw [List.find?_cons_of_neg (by simpa using q)] at h ⊢
      exact kr_val t h
theorem kr_any {K : PySem.W.Frag} {F : Hp} {k : L2.Key} : ∀ {vs : List (L2.Key × V)} {ls : List (L2.Key × L)}, KR K F vs ls → (vs.any fun kv => decide (kv.1 = k)) = (ls.any fun kv => decide (kv.1 = k))
  | _, _, .nil => rfl
  | (k1, v) :: vs, (k2, m) :: ls, .cons ⟨e, r⟩ t => by
    have e : k1 = k2 := e
    subst e
    rw [List.any_cons, List.any_cons, kr_any t]
theorem kr_put {K : PySem.W.Frag} {F : Hp} {k : L2.Key} {v : V} {l : L} {vs : List (L2.Key × V)} {ls : List (L2.Key × L)} (r : KR K F vs ls) (rv : LR K F v l) : KR K F (putK vs k v) (putL ls k l) := by
  unfold putK putL
  rw [kr_any r]
  by_cases h : (ls.any fun kv => decide (kv.1 = k)) = true
  · rw [if_pos h, if_pos h]
    clear h
    induction r with
    | nil => exact .nil
    | @cons p q ps qs hpq t ih =>
      obtain ⟨e, r⟩ := hpq
      refine .cons ?_ ih
      dsimp only
      by_cases z : p.1 = k
      · rw [if_pos z, if_pos (e ▸ z)]
        exact ⟨e, rv⟩
      · rw [if_neg z, if_neg (e ▸ z)]
        exact ⟨e, r⟩
  · rw [if_neg h, if_neg h]
    have app : ∀ {xs xs' : List (L2.Key × V)} {ys ys' : List (L2.Key × L)}, KR K F xs ys → KR K F xs' ys' → KR K F (xs ++ xs') (ys ++ ys') := by
      intro xs xs' ys ys' a b
      induction a with
      | nil => exact b
      | cons h t ih => exact .cons h ih
    exact app r (.cons ⟨rfl, rv⟩ .nil)
theorem kr_len {K : PySem.W.Frag} {F : Hp} : ∀ {vs : List (L2.Key × V)} {ls : List (L2.Key × L)}, KR K F vs ls → vs.length = ls.length
  | _, _, .nil => rfl
  | _, _, .cons _ t => congrArg (· + 1) (kr_len t)
theorem rp_kD {K : PySem.W.Frag} {F : Hp} {v : V} {k : L2.Key} (r : Rp K F v (kD k)) : v = kV k := by
  cases k with
  | inl i => cases r; rfl
  | inr s => cases r; rfl
def dGet (de dk : DE) : DE := fun η M q => de η M fun l M1 => dk η M1 fun k M2 => ∃ a kvs k' y, l = .p a ∧ M2 a = some (.dct kvs) ∧ k = .d (kD k') ∧ valL kvs k' = some y ∧ q y M2
theorem px_get (hr : RoomG 0 X.A) (ho : PX X G o de) (ha : PX X G a da) (hs : NoSl a := by exact fun _ _ => rfl) : PX X G (.Subscript o a pos) (dGet de da) := by
  refine pe_imp (pe_dget (by have := hr.rm.un; omega) ho ha hs) ?_
  rintro σ H Q ⟨F, R, η, M, q, hG, A, E, h, c⟩
  refine le_bind hG A E h fun l M1 v H1 F1 g1 s1 A1 E1 r1 h1 => le_bind g1 A1 E1 h1 fun k M2 w H2 F2 g2 s2 A2 E2 r2 h2 => ?_
  obtain ⟨a, kvs, k', y, rfl, hm, rfl, hy, h2⟩ := h2
  obtain rfl : v = .ref a := r1
  obtain ⟨_, _, vs, hv, rl⟩ := A2.mu a _ hm
  obtain rfl := rp_kD r2
  obtain ⟨u, hu, ru⟩ := kr_val rl hy
  exact ⟨a, u, rfl, hu ▸ DGet.k hv, c y M2 u H2 F2 (s1.trans s2) A2 ru h2⟩
/-- d[k] = v -/
def dPut (de dk dv : DE) : DS := fun d η M => dv η M fun y M1 => de η M1 fun l M2 => dk η M2 fun k M3 => ∃ a kvs k', l = .p a ∧ M3 a = some (.dct kvs) ∧ k = .d (kD k') ∧ kvs.length < sizeLine ∧ d.nx η (updM M3 a (.dct (putL kvs k' y)))
theorem pxs_put {v : Expr} {dv : DE} {pos' : Pos} (hr : RoomG 0 X.A) (ho : PX X G o de) (ha : PX X G a da) (hv : PX X G v dv) (hs : swapsWith v (some (.Subscript o a pos')) pos.line X.env = pure false := by rfl) :
    PXS X G (.Assign [.Subscript o a pos'] v pos) (dPut de da dv) := by
  refine ps_imp (ps_dput (by have := hr.rm.un; omega) ho ha hv hs) ?_
  rintro D σ H ⟨F, R, η, M, d, hG, A, E, h, c⟩
  refine le_bind hG A E h fun y M1 vy H1 F1 g1 s1 A1 E1 r1 h1 => le_bind g1 A1 E1 h1 fun l M2 vl H2 F2 g2 s2 A2 E2 r2 h2 => le_bind g2 A2 E2 h2 fun k M3 vk H3 F3 g3 s3 A3 E3 r3 h3 => ?_
  obtain ⟨a, kvs, k', rfl, hm, rfl, hz, h3⟩ := h3
  obtain rfl : vl = .ref a := r2
  obtain ⟨_, _, vs, hv, rl⟩ := A3.mu a _ hm
  obtain rfl := rp_kD r3
  refine ⟨a, _, rfl, DPut.k hv (by rw [kr_len rl]; exact hz), ?_⟩
  exact c.nx η _ σ _ F3 ((s1.trans s2).trans s3) (A3.put (m' := .dct (putL kvs k' y)) hm ⟨_, upd_same, kr_put rl ((r1.mono s2).mono s3)⟩) E3 h3
/-- {}: nobody will change it -/
def dDicE : DE := fun _ M q => q (.d (.dict [])) M
theorem px_dicE : PX X G (.Dict [] [] pos) dDicE := by
  refine pe_imp pe_dnewK ?_
  rintro σ H Q ⟨F, R, η, M, q, hG, A, E, h, c⟩
  intro p hp
  have s := same_new (o := .dK []) (A.freeF hp)
  exact c (.d (.dict [])) M (.ref p) _ _ s (A.frz hp) (.dct upd_same .nil) h
def dDicM : DE := fun _ M q => ∀ a, M a = none → q (.p a) (updM M a (.dct []))
theorem px_dicM : PX X G (.Dict [] [] pos) dDicM := by
  refine pe_imp pe_dnewK ?_
  rintro σ H Q ⟨F, R, η, M, q, hG, A, E, h, c⟩
  intro p hp
  exact c (.p p) _ (.ref p) _ F (Same.refl F) (A.new (m := .dct []) hp ⟨[], upd_same, .nil⟩) rfl (h p (A.freeM hp))
/-- {k: v, ..}, a dict that will be changed: its entries by the keys ks -/
def dPrs : List (L2.Key × DE) → Ev → Ms → (List (L2.Key × L) → Ms → Prop) → Prop
  | [], _, M, q => q [] M
  | (k, de) :: r, η, M, q => de η M fun l M1 => dPrs r η M1 fun kvs M2 => q ((k, l) :: kvs) M2
def mergeL (kvs more : List (L2.Key × L)) : List (L2.Key × L) := more.foldl (fun acc kv => putL acc kv.1 kv.2) kvs
def dDisp (ps : List (L2.Key × DE)) : DE := fun η M q => ∀ a, M a = none → dPrs ps η (updM M a (.dct [])) fun kvs M2 => M2 a = some (.dct []) ∧ q (.p a) (updM M2 a (.dct (mergeL [] kvs)))
theorem kr_merge {K : PySem.W.Frag} {F : Hp} : ∀ {ms : List (L2.Key × V)} {ns : List (L2.Key × L)} {vs : List (L2.Key × V)} {ls : List (L2.Key × L)}, KR K F ms ns → KR K F vs ls → KR K F (mergeK vs ms) (mergeL ls ns)
  | _, _, _, _, .nil, h => h
  | (k1, v) :: ms, (k2, l) :: ns, _, _, .cons ⟨e, r⟩ t, h => by
    have e : k1 = k2 := e
    subst e
    exact kr_merge (ms := ms) (ns := ns) t (kr_put h r)
/-- the entries' readings -/
inductive PXP (X : Cx) (G : GH) (pos : Pos) : List (Option Expr) → List Expr → List (L2.Key × DE) → Prop
  | nil : PXP X G pos [] [] []
  | cons {k v : Expr} {ks : List (Option Expr)} {vs : List Expr} {key : L2.Key} {de : DE} {r : List (L2.Key × DE)} (hk : PE X k (tC (kV key))) (hv : PX X G v de) (hr : PXP X G pos ks vs r) : PXP X G pos (some k :: ks) (v :: vs) ((key, de) :: r)
def trsOf (K : PySem.W.Frag) (G : GH) (ps : List (L2.Key × DE)) : List (TE × TE) := ps.map fun p => (tC (kV p.1), LE K G p.2)
theorem pps_of {ks : List (Option Expr)} {vs : List Expr} {ps : List (L2.Key × DE)} (h : PXP X G pos ks vs ps) : PPs X pos ks vs (trsOf X.K G ps) := by
  induction h with
  | nil => exact pps_nil
  | cons hk hv _ ih => exact pps_cons hk hv ih
theorem prs_walk {K : PySem.W.Frag} {σ : L2.St} {Q : List (V × V) → Hp → Prop} : ∀ (ps : List (L2.Key × DE)) {F R : Hp} {H : Hp} {η : Ev} {M : Ms} {q : List (L2.Key × L) → Ms → Prop}, SG G F R → Abs K F R M H → Er K F σ η → dPrs ps η M q →
    (∀ kvs M' H' F' vs, Same F F' → Abs K F' R M' H' → KR K F' vs kvs → vs.length = ps.length → q kvs M' → Q (vs.map fun kv => (kV kv.1, kv.2)) H') → tPairs (trsOf K G ps) σ H Q
  | [], F, R, H, η, M, q, hG, A, E, h, c => c [] M H F [] (Same.refl F) A .nil rfl h
  | (k, de) :: r, F, R, H, η, M, q, hG, A, E, h, c => by
    show LE K G de σ H _
    refine le_bind hG A E h fun l M1 v H1 F1 g1 s1 A1 E1 r1 h1 => ?_
    refine prs_walk r g1 A1 E1 h1 fun kvs M2 H2 F2 vs s2 A2 r2 hl h2 => ?_
    exact c _ M2 H2 F2 ((k, v) :: vs) (s1.trans s2) A2 (.cons ⟨rfl, r1.mono s2⟩ r2) (congrArg (· + 1) hl) h2
theorem px_disp {ks : List (Option Expr)} {vs : List Expr} {ps : List (L2.Key × DE)} (h : PXP X G pos ks vs ps) (h15 : ps.length ≤ 15 := by decide) (hall : ks.all (·.isSome) = true := by rfl) (hl : ks.length = vs.length := by rfl) (h0 : ks ≠ [] := by (intro z; cases z)) (hk15 : ks.length ≤ 15 := by decide) :
    PX X G (.Dict ks vs pos) (dDisp ps) := by
  refine pe_imp (pe_disp (pps_of h) hall hl h0 hk15) ?_
  rintro σ H Q ⟨F, R, η, M, q, hG, A, E, h, c⟩
  intro p hp
  have A0 := A.new (m := .dct []) hp ⟨[], upd_same, .nil⟩
  refine prs_walk ps hG A0 E (h p (A.freeM hp)) fun kvs M2 H2 F2 vs2 s2 A2 r2 hl2 h2 => ?_
  obtain ⟨hm, h2⟩ := h2
  obtain ⟨_, _, vs0, hv0, r0⟩ := A2.mu p _ hm
  cases r0
  refine ⟨hv0, vs2, rfl, ?_, ?_⟩
  · rw [hl2]
    exact h15
  · exact c (.p p) _ (.ref p) _ F2 s2 (A2.put (m' := .dct (mergeL [] kvs)) hm ⟨_, upd_same, kr_merge r2 .nil⟩) rfl h2
end
end DL
end
section
/-! what a loop walks: lists and tuples alike; enumerate of a tuple -/
namespace DL
open PySem PySem.Spec PyProof.Rows L2

/-! ### enumerate(t) -/
theorem enumT_new (t : Addr) (items : Array Value) : Meets (Builtin.«enumerate.__new__» ⟨[.type "enumerate", .ref t], []⟩)
    (fun _ R s => s.heap.IsTuple t items ∧
      R (.ok (.ret (.ref (s.heap.push { cls := .type "tuple_iterator", data := .fields #[.ref t, .int 0 0] }).objs.size)))
        { s with
          heap := (s.heap.push { cls := .type "tuple_iterator", data := .fields #[.ref t, .int 0 0] }).push
            { cls := .type "enumerate", data := .fields #[.none, .bool false, .ref s.heap.objs.size, rawInt 0, .none, .none] } }) :=
  .of_wp fun prog w A R s h => by
    obtain ⟨hp, gs, dr, tk, os⟩ := s
    obtain ⟨ht, h⟩ := h
    have hsub := sub_enumerate
    have it : ∀ {A' : Around} {E : Value → Shared → Prop} {Q : Value → Shared → Prop},
        Q (.ref hp.objs.size) ⟨hp.push { cls := .type "tuple_iterator", data := .fields #[.ref t, .int 0 0] }, gs, dr, tk, os⟩ →
        wpAny (model prog w) A' (pyIter (.ref t)) Q E ⟨hp, gs, dr, tk, os⟩ :=
      fun q => wpAny_pyIter_tuple (s := ⟨hp, gs, dr, tk, os⟩) ht q
    wp_walk using it
    refine wpAny_stack_any fun st => wpAny_pure ?_
    split
    · rename_i c _ _ _ _ _
      by_cases e : (c == Value.type "enumerate") = true
      · rw [e]
        wp_walk using it
        exact ⟨_, rfl, h⟩
      · rw [Bool.eq_false_iff.mpr e]
        wp_walk using it
        exact ⟨_, rfl, h⟩
    · wp_walk using it
      exact ⟨_, rfl, h⟩
section
variable {prog : Program} {w : World} {A : Around} {E : Value → Shared → Prop} {s : Shared}
theorem enumT_call {t : Addr} {items : Array Value} {Q : Value → Shared → Prop} (ht : s.heap.IsTuple t items)
    (h : ∀ h', IsEnum h' (s.heap.objs.size + 1) s.heap.objs.size 0 .none → h'.IsTupleIter s.heap.objs.size t 0 →
      (∀ b o, s.heap.get? b = some o → h'.get? b = some o) → Q (.ref (s.heap.objs.size + 1)) { s with heap := h' }) :
    wpAny (model prog w) A (call (.type "enumerate") [.ref t]) Q E s := by
  refine callType_new F.called_enumerate (by decide) (F.typeCall_enumerate_1 _) (F.newCall_enumerate_1 _)
    (fun obj => F.args_object_init_2 obj _) F.entry_enumerate_new (enumT_new t items) ⟨ht, ?_⟩
  generalize ho : ({ cls := .type "tuple_iterator", data := .fields #[.ref t, .int 0 0] } : Obj) = o
  have fr : o.isFreed = false := by rw [← ho]; rfl
  have hz : (s.heap.push o).objs.size = s.heap.objs.size + 1 := Heap.size_push ..
  show _ ∧ _
  rw [hz]
  generalize he : ({ cls := .type "enumerate", data := .fields #[.none, .bool false, .ref s.heap.objs.size, rawInt 0, .none, .none] } : Obj) = oe
  have fe : oe.isFreed = false := by rw [← he]; rfl
  have e1 : ((s.heap.push o).push oe).get? (s.heap.objs.size + 1) = some oe := hz ▸ Heap.get?_push_size (s.heap.push o) fe
  have e2 : ((s.heap.push o).push oe).get? s.heap.objs.size = some o := Heap.get?_push_of_some _ (Heap.get?_push_size _ fr)
  have en : IsEnum ((s.heap.push o).push oe) (s.heap.objs.size + 1) s.heap.objs.size 0 .none := by
    rw [← he] at e1 ⊢
    exact e1
  refine ⟨⟨_, en, rfl⟩, h _ en ⟨o, e2, by rw [← ho], by rw [← ho]; rfl⟩ fun b x q => ?_⟩
  exact Heap.get?_push_of_some _ (Heap.get?_push_of_some _ q)
end
/-- the tuple at a, each item in a new pair -/
def IteT (K : PySem.W.Frag) (a : Addr) : It where
  go := fun i H => ∃ (xs : List V) (x : V), SqT K H a xs ∧ xs[i]? = some x
  yld := fun i H v H' => ∃ T x o, v = .ref T ∧ PlT o ∧ H T = none ∧ H' = upd H T (.frz o (.tup [.int (i : Nat), x])) ∧ ∀ xs, SqT K H a xs → xs[i]? = some x
  stop := fun i H => ∃ xs : List V, SqT K H a xs ∧ xs.length = i
theorem enumT_turn {P : Program} {w : World} {K : PySem.W.Frag} {elts : List Expr} {kk : Nat} {tpos : Pos} (a e it : Addr) (hne : e ≠ it) (hea : e ≠ a) (hia : a ≠ it) :
    Turn P w K (.Tuple elts kk tpos) (IteT K a) [e, it] e (fun i h => (∃ old, IsEnum h e it ((i : Nat) : Int) old) ∧ h.IsTupleIter it a i) where
  mem := List.mem_cons_self
  obj := by
    rintro i h ⟨⟨old, he⟩, ⟨o, ho, hc, hd⟩⟩ b hb
    rcases List.mem_cons.mp hb with rfl | hb
    · exact ⟨_, he, fun v q => nomatch q⟩
    · obtain rfl := List.mem_singleton.mp hb
      exact ⟨o, ho, fun v q => by rw [hd] at q; cases q⟩
  keep := by
    rintro i h h' ⟨⟨old, he⟩, hi⟩ k
    exact ⟨⟨old, k e List.mem_cons_self _ he⟩, hi.at fun o q => k it (List.mem_cons_of_mem _ List.mem_cons_self) o q⟩
  item := by
    intro X hP hw hK hc i pins s σ H E I hf st hg
    subst hP hw hK
    obtain ⟨⟨old, he⟩, hit⟩ := st
    obtain ⟨xs, x, hq, hx⟩ := hg
    obtain ⟨its, rv, p, hz⟩ := I.tuple hq
    have hlt : i < its.toArray.size := by
      have h1 := (List.getElem?_eq_some_iff.mp hx).1
      have h2 := rv.length
      rw [List.size_toArray]
      omega
    have hel : e < s.heap.objs.size := Heap.lt_size he
    have hil : it < s.heap.objs.size := by obtain ⟨_, q, _⟩ := hit; exact Heap.lt_size q
    have D := Draws.tuple (prog := X.prog) (w := X.w) (A := X.A.in1) (I.ok.hd hc) it a hia its.toArray
    have out : e ∉ [it, a] := fun z => by
      rcases List.mem_cons.mp z with z | z
      · exact hne z
      · exact hea (List.mem_singleton.mp z)
    refine wpAny_pyNext_enum_itemD D he ⟨hit, p⟩ hlt hne out fun u h' tk hP ho hst' hT hsz hk => ?_
    obtain ⟨y, hy, ry⟩ : ∃ y, xs[i]? = some y ∧ RelV y u := by
      obtain ⟨u', hu', ru'⟩ := rv.get hx
      have hP' : its[i]? = some u := by simpa using hP
      rw [hu'] at hP'
      cases hP'
      exact ⟨x, hx, ru'⟩
    refine ⟨_, rfl, wpAny_letOwnedTupleGo_enum (s := { s with heap := h', toks := tk + 1 }) ho fun h'' he' sb => ?_⟩
    have hT2 : h''.get? s.heap.objs.size = some { cls := .type "tuple", data := .seq #[.int i tk, u] } :=
      (sb.2 _ (Nat.ne_of_gt hel)).trans hT
    let po : Obj := { cls := .type "tuple", data := .seq #[.int i tk, u] }
    have new : ObjOk X.prog X.w (upd H s.heap.objs.size (.frz po (.tup [.int (i : Nat), y]))) h'' s.heap.objs.size (.frz po (.tup [.int (i : Nat), y])) :=
      ⟨hT2, by show 2 ≤ sizeLine; decide, [.int i tk, u], .cons ⟨_, rfl⟩ (.cons ry .nil), ⟨_, hT2, rfl, _, rfl⟩⟩
    have nin : ∀ b, b ∉ [e, it] → b ≠ e ∧ b ≠ it := fun b hb =>
      ⟨fun z => hb (z ▸ List.mem_cons_self), fun z => hb (z ▸ List.mem_cons_of_mem _ List.mem_cons_self)⟩
    have I1 : L2.Inv X pins σ (upd H s.heap.objs.size (.frz po (.tup [.int (i : Nat), y]))) { s with heap := h'', toks := tk + 1 } :=
      I.turnedNew (ch := [e, it]) (fun b ob hb q => (sb.2 b (nin b hb).1).trans (hk b ob (nin b hb).1 (nin b hb).2 q)) hf (Nat.le_refl _) new
    refine ⟨.ref s.heap.objs.size, _, I1, rfl, ⟨_, y, po, rfl, ⟨rfl, rfl⟩, I.fresh, rfl, fun ys hys => by rw [I.tuple_inj hys hq]; exact hy⟩, ⟨⟨u, ?_⟩, ?_⟩, fun b hb => ?_⟩
    · have e1 : ((i + 1 : Nat) : Int) = (i : Int) + 1 := by omega
      rw [e1]
      exact he'
    · exact hst'.1.at fun o q => (sb.2 it (Ne.symm hne)).trans q
    · have hb' : b < s.heap.objs.size := by
        rcases List.mem_cons.mp hb with z | z
        · rw [z]; exact hel
        · rw [List.mem_singleton.mp z]; exact hil
      rw [upd_ne (Nat.ne_of_lt hb')]
      exact (hf b hb).1
  done := by
    intro X hP hw hK hc i pins s σ H E I hf st hg
    subst hP hw hK
    obtain ⟨⟨old, he⟩, hit⟩ := st
    obtain ⟨xs, hq, hx⟩ := hg
    obtain ⟨its, rv, p, hz⟩ := I.tuple hq
    obtain ⟨f0, f1, f2, f3, f4, f5⟩ := hf it (List.mem_cons_of_mem _ List.mem_cons_self)
    have hn : its.toArray.size = i := by rw [List.size_toArray, ← rv.length]; exact hx
    have D := Draws.tuple (prog := X.prog) (w := X.w) (A := X.A.in1) (I.ok.hd hc) it a hia its.toArray
    refine wpAny_pyNext_enum_endD D he ⟨by rw [hn]; exact hit, p⟩ fun h' eb => ?_
    exact ⟨rfl, I.turned (t' := s.toks) (fun b o hb e => eb b o hb e) f0 f1 f3 f4 f5⟩
  self := fun A i s Q E st h => by
    obtain ⟨⟨_, he⟩, _⟩ := st
    exact wpAny_pyIter_enum he h

/-! ### a list or a tuple -/
def itSeq (l : List PyData) : PyData → Prop := fun x => x = .list l ∨ x = .tuple l
def iSq (de : DE) : DI := fun η M q => de η M fun l M1 => match l with
  | .d (.list ds) => q ds M1
  | .d (.tuple ds) => q ds M1
  | _ => False
/-- the list at a, each item in a new pair -/
def IteL (K : PySem.W.Frag) (a : Addr) : It where
  go := fun i H => ∃ (xs : List V) (x : V), SqL K H a xs ∧ xs[i]? = some x
  yld := fun i H v H' => ∃ T x o, v = .ref T ∧ PlT o ∧ H T = none ∧ H' = upd H T (.frz o (.tup [.int (i : Nat), x])) ∧ ∀ xs, SqL K H a xs → xs[i]? = some x
  stop := fun i H => ∃ xs : List V, SqL K H a xs ∧ xs.length = i
theorem enumL_turn {P : Program} {w : World} {K : PySem.W.Frag} {elts : List Expr} {kk : Nat} {tpos : Pos} (a e it : Addr) (hne : e ≠ it) (hea : e ≠ a) (hia : a ≠ it) :
    Turn P w K (.Tuple elts kk tpos) (IteL K a) [e, it] e (fun i h => (∃ old, IsEnum h e it ((i : Nat) : Int) old) ∧ h.IsListIter it a i) where
  mem := List.mem_cons_self
  obj := by
    rintro i h ⟨⟨old, he⟩, ⟨o, ho, hc, hd⟩⟩ b hb
    rcases List.mem_cons.mp hb with rfl | hb
    · exact ⟨_, he, fun v q => nomatch q⟩
    · obtain rfl := List.mem_singleton.mp hb
      exact ⟨o, ho, fun v q => by rw [hd] at q; cases q⟩
  keep := by
    rintro i h h' ⟨⟨old, he⟩, hi⟩ k
    exact ⟨⟨old, k e List.mem_cons_self _ he⟩, hi.at fun o q => k it (List.mem_cons_of_mem _ List.mem_cons_self) o q⟩
  item := by
    intro X hP hw hK hc i pins s σ H E I hf st hg
    subst hP hw hK
    obtain ⟨⟨old, he⟩, hit⟩ := st
    obtain ⟨xs, x, hq, hx⟩ := hg
    obtain ⟨its, rv, p, hz⟩ := I.list hq
    have hlt : i < its.toArray.size := by
      have h1 := (List.getElem?_eq_some_iff.mp hx).1
      have h2 := rv.length
      rw [List.size_toArray]
      omega
    have hel : e < s.heap.objs.size := Heap.lt_size he
    have hil : it < s.heap.objs.size := by obtain ⟨_, q, _⟩ := hit; exact Heap.lt_size q
    have D := Draws.list (prog := X.prog) (w := X.w) (A := X.A.in1) (I.ok.hd hc) it a hia its.toArray
    have out : e ∉ [it, a] := fun z => by
      rcases List.mem_cons.mp z with z | z
      · exact hne z
      · exact hea (List.mem_singleton.mp z)
    refine wpAny_pyNext_enum_itemD D he ⟨hit, p.isList⟩ hlt hne out fun u h' tk hP ho hst' hT hsz hk => ?_
    obtain ⟨y, hy, ry⟩ : ∃ y, xs[i]? = some y ∧ RelV y u := by
      obtain ⟨u', hu', ru'⟩ := rv.get hx
      have hP' : its[i]? = some u := by simpa using hP
      rw [hu'] at hP'
      cases hP'
      exact ⟨x, hx, ru'⟩
    refine ⟨_, rfl, wpAny_letOwnedTupleGo_enum (s := { s with heap := h', toks := tk + 1 }) ho fun h'' he' sb => ?_⟩
    have hT2 : h''.get? s.heap.objs.size = some { cls := .type "tuple", data := .seq #[.int i tk, u] } :=
      (sb.2 _ (Nat.ne_of_gt hel)).trans hT
    let po : Obj := { cls := .type "tuple", data := .seq #[.int i tk, u] }
    have new : ObjOk X.prog X.w (upd H s.heap.objs.size (.frz po (.tup [.int (i : Nat), y]))) h'' s.heap.objs.size (.frz po (.tup [.int (i : Nat), y])) :=
      ⟨hT2, by show 2 ≤ sizeLine; decide, [.int i tk, u], .cons ⟨_, rfl⟩ (.cons ry .nil), ⟨_, hT2, rfl, _, rfl⟩⟩
    have nin : ∀ b, b ∉ [e, it] → b ≠ e ∧ b ≠ it := fun b hb =>
      ⟨fun z => hb (z ▸ List.mem_cons_self), fun z => hb (z ▸ List.mem_cons_of_mem _ List.mem_cons_self)⟩
    have I1 : L2.Inv X pins σ (upd H s.heap.objs.size (.frz po (.tup [.int (i : Nat), y]))) { s with heap := h'', toks := tk + 1 } :=
      I.turnedNew (ch := [e, it]) (fun b ob hb q => (sb.2 b (nin b hb).1).trans (hk b ob (nin b hb).1 (nin b hb).2 q)) hf (Nat.le_refl _) new
    refine ⟨.ref s.heap.objs.size, _, I1, rfl, ⟨_, y, po, rfl, ⟨rfl, rfl⟩, I.fresh, rfl, fun ys hys => by rw [I.list_inj hys hq]; exact hy⟩, ⟨⟨u, ?_⟩, ?_⟩, fun b hb => ?_⟩
    · have e1 : ((i + 1 : Nat) : Int) = (i : Int) + 1 := by omega
      rw [e1]
      exact he'
    · exact hst'.1.at fun o q => (sb.2 it (Ne.symm hne)).trans q
    · have hb' : b < s.heap.objs.size := by
        rcases List.mem_cons.mp hb with z | z
        · rw [z]; exact hel
        · rw [List.mem_singleton.mp z]; exact hil
      rw [upd_ne (Nat.ne_of_lt hb')]
      exact (hf b hb).1
  done := by
    intro X hP hw hK hc i pins s σ H E I hf st hg
    subst hP hw hK
    obtain ⟨⟨old, he⟩, hit⟩ := st
    obtain ⟨xs, hq, hx⟩ := hg
    obtain ⟨its, rv, p, hz⟩ := I.list hq
    obtain ⟨f0, f1, f2, f3, f4, f5⟩ := hf it (List.mem_cons_of_mem _ List.mem_cons_self)
    have hn : its.toArray.size = i := by rw [List.size_toArray, ← rv.length]; exact hx
    have D := Draws.list (prog := X.prog) (w := X.w) (A := X.A.in1) (I.ok.hd hc) it a hia its.toArray
    refine wpAny_pyNext_enum_endD D he ⟨by rw [hn]; exact hit, p.isList⟩ fun h' eb => ?_
    exact ⟨rfl, I.turned (t' := s.toks) (fun b o hb e => eb b o hb e) f0 f1 f3 f4 f5⟩
  self := fun A i s Q E st h => by
    obtain ⟨⟨_, he⟩, _⟩ := st
    exact wpAny_pyIter_enum he h

def iEn (dd : DA) : DI := fun η M q => dd η M fun ls M1 => match ls with
  | [.d (.list ds)] => q (enumD ds) M1
  | [.d (.tuple ds)] => q (enumD ds) M1
  | _ => False
theorem jd_enumT {K : PySem.W.Frag} {F0 : Hp} {a : Addr} {vs : List V} {ds : List PyData} (h : SqT K F0 a vs) (r : RpA K F0 vs ds) : JD K F0 (IteT K a) (enumD ds) := by
  have hlen : (enumD ds).length = ds.length := by unfold enumD; rw [List.length_map, List.length_zipIdx]
  refine ⟨fun F R M H s A => ⟨vs, sqT_same (s.trans A.fz) h, by rw [r.length, hlen]⟩, fun F R M H i s A hi => ?_, fun F R M H i x H' d s A hd hy => ?_⟩
  · have hv : i < vs.length := by rw [r.length, ← hlen]; exact hi
    exact ⟨vs, vs[i], sqT_same (s.trans A.fz) h, List.getElem?_eq_getElem hv⟩
  · obtain ⟨T, y, o, rfl, ho, hT, rfl, hy⟩ := hy
    have e := hy vs (sqT_same (s.trans A.fz) h)
    obtain ⟨d', hd', r'⟩ := r.getV e
    unfold enumD at hd
    rw [List.getElem?_map, List.getElem?_zipIdx, hd'] at hd
    simp only [Option.map_some, Option.some.injEq, Nat.zero_add] at hd
    subst hd
    have s2 := same_new (o := .frz o (.tup [.int (i : Nat), y])) (A.freeF hT)
    exact ⟨_, s2, A.frz hT, .tup ⟨o, upd_same, ho⟩ (.cons (.int _) (.cons ((r'.mono s).mono s2) .nil))⟩
theorem jd_enumL {K : PySem.W.Frag} {F0 : Hp} {a : Addr} {vs : List V} {ds : List PyData} (h : SqM K F0 a vs) (r : RpA K F0 vs ds) : JD K F0 (IteL K a) (enumD ds) := by
  have hlen : (enumD ds).length = ds.length := by unfold enumD; rw [List.length_map, List.length_zipIdx]
  refine ⟨fun F R M H s A => ⟨vs, (sqM_same (s.trans A.fz) h).l, by rw [r.length, hlen]⟩, fun F R M H i s A hi => ?_, fun F R M H i x H' d s A hd hy => ?_⟩
  · have hv : i < vs.length := by rw [r.length, ← hlen]; exact hi
    exact ⟨vs, vs[i], (sqM_same (s.trans A.fz) h).l, List.getElem?_eq_getElem hv⟩
  · obtain ⟨T, y, o, rfl, ho, hT, rfl, hy⟩ := hy
    have e := hy vs ((sqM_same (s.trans A.fz) h).l)
    obtain ⟨d', hd', r'⟩ := r.getV e
    unfold enumD at hd
    rw [List.getElem?_map, List.getElem?_zipIdx, hd'] at hd
    simp only [Option.map_some, Option.some.injEq, Nat.zero_add] at hd
    subst hd
    have s2 := same_new (o := .frz o (.tup [.int (i : Nat), y])) (A.freeF hT)
    exact ⟨_, s2, A.frz hT, .tup ⟨o, upd_same, ho⟩ (.cons (.int _) (.cons ((r'.mono s).mono s2) .nil))⟩
section
variable {X : Cx} {G : GH} {tg iter e : Expr} {p pos : Pos} {de : DE} {dd : DA}
theorem pxi_seq (h : PX X G iter de) : PXI X G tg iter (iSq de) := by
  refine ⟨fun pins s σ H R I hw => ?_⟩
  obtain ⟨F, Ra, η, M, q, hG, A, E, hw, k⟩ := hw
  have step := h.run pins s σ H (fun v H' => ∃ ds l M' F', q ds M' ∧ (l = .d (.list ds) ∨ l = .d (.tuple ds)) ∧ LR X.K F' v l ∧ Abs X.K F' Ra M' H' ∧ Same F F') I
    ⟨F, Ra, η, M, _, hG, A, E, hw, fun l M' v H' F' s' A' r' h' => by
      match l, r', h' with
      | .d (.list ds), r', h' => exact ⟨ds, _, M', F', h', .inl rfl, r', A', s'⟩
      | .d (.tuple ds), r', h' => exact ⟨ds, _, M', F', h', .inr rfl, r', A', s'⟩⟩
  refine thn step ?_
  rintro v s1 ⟨x, H1, I1, r1, ds, l, M1, F1, q1, hl, rl, A1, sm⟩
  have fp : ∀ b ∈ [s1.heap.objs.size], FpOk X pins H1 b := by
    intro b hb
    obtain rfl := List.mem_singleton.mp hb
    exact I1.fpOk (Nat.le_refl _) I1.fresh
  rcases hl with rfl | rfl
  · cases rl with
    | lst hs ha =>
      cases r1
      obtain ⟨its, rv, pl, hz⟩ := I1.list (sqM_same A1.fz hs).l
      refine wpAny_pyIter_list pl.isList ?_
      exact ⟨s1.heap.objs.size, [s1.heap.objs.size], _, _, H1, rfl, I1.kept (t' := s1.toks) (fun b o e => Heap.get?_push_of_some _ e), turn_list _ _,
        ⟨_, Heap.get?_push_size _ rfl, rfl, rfl⟩, fp, k ds M1 _ H1 F1 sm A1 (jd_list hs ha) q1⟩
  · cases rl with
    | tup hs ha =>
      cases r1
      obtain ⟨its, rv, pl, hz⟩ := I1.tuple (sqT_same A1.fz hs.sq)
      refine wpAny_pyIter_tuple pl ?_
      exact ⟨s1.heap.objs.size, [s1.heap.objs.size], _, _, H1, rfl, I1.kept (t' := s1.toks) (fun b o e => Heap.get?_push_of_some _ e), turn_tuple _ _,
        ⟨_, Heap.get?_push_size _ rfl, rfl, rfl⟩, fp, k ds M1 _ H1 F1 sm A1 (jd_tup hs.sq ha) q1⟩
theorem pxi_enumS {elts : List Expr} {kk : Nat} {tpos : Pos} (hm : X.mg "enumerate" = none) (ha : PXA X G [e] dd) (hg : Gl X "enumerate" := by rfl) (hs : starEach [e] X.env = [(false, eval e X.env)] := by rfl) :
    PXI X G (.Tuple elts kk tpos) (.Call (.Name "enumerate" p) [e] [] pos) (iEn dd) := by
  refine ⟨fun pins s σ H R I hw => ?_⟩
  obtain ⟨F, Ra, η, M, q, hG, A, E, hw, k⟩ := hw
  have step := ha.run pos pins s σ H (fun vs H' => ∃ v ds l M' F', vs = [v] ∧ q (enumD ds) M' ∧ (l = .d (.list ds) ∨ l = .d (.tuple ds)) ∧ LR X.K F' v l ∧ Abs X.K F' Ra M' H' ∧ Same F F') I
    ⟨F, Ra, η, M, _, hG, A, E, hw, fun ls M' vs H' F' s' A' r' h' => by
      match ls, r', h' with
      | [.d (.list ds)], r', h' =>
        obtain ⟨v, e, r⟩ := lrs1 r'
        exact ⟨v, ds, _, M', F', e, h', .inl rfl, r, A', s'⟩
      | [.d (.tuple ds)], r', h' =>
        obtain ⟨v, e, r⟩ := lrs1 r'
        exact ⟨v, ds, _, M', F', e, h', .inr rfl, r, A', s'⟩⟩
  refine Call_ (ld_blt I hg hm boot_enumerate (PyProof.Rows.callWith_type1 (thn step ?_) hs rfl))
  rintro us s1 ⟨vs, H1, I1, r1, v, ds, l, M1, F1, rfl, q1, hl, rl, A1, sm⟩
  obtain ⟨u, rfl, ru⟩ := Vals.one r1
  have fp : ∀ b ∈ [s1.heap.objs.size + 1, s1.heap.objs.size], FpOk X pins H1 b := by
    intro b hb
    have hle : s1.heap.objs.size ≤ b := by
      rcases List.mem_cons.mp hb with z | z
      · omega
      · have := List.mem_singleton.mp z
        omega
    exact I1.fpOk hle (I1.hok.fresh hle)
  rcases hl with rfl | rfl
  · cases rl with
    | lst hs ha =>
      cases ru
      obtain ⟨its, rv, pl, hz⟩ := I1.list (sqM_same A1.fz hs).l
      have lt : _ < s1.heap.objs.size := (show Heap.IsList _ _ _ from pl.isList).elim fun _ z => Heap.lt_size z.1
      refine call_enumerate_list pl.isList fun h' he hit hsz hk => wpAny_pyIter_enum he ?_
      exact ⟨s1.heap.objs.size + 1, _, _, _, H1, rfl, I1.kept (t' := s1.toks) hk, enumL_turn _ (s1.heap.objs.size + 1) s1.heap.objs.size (Nat.succ_ne_self _) (Nat.ne_of_lt (Nat.lt_succ_of_lt lt)).symm (Nat.ne_of_lt lt),
        ⟨⟨.none, he⟩, hit⟩, fp, k _ M1 _ H1 F1 sm A1 (jd_enumL hs ha) q1⟩
  · cases rl with
    | tup hs ha =>
      cases ru
      obtain ⟨its, rv, pl, hz⟩ := I1.tuple (sqT_same A1.fz hs.sq)
      have lt := pl.lt
      refine enumT_call pl fun h' he hit hk => wpAny_pyIter_enum he ?_
      exact ⟨s1.heap.objs.size + 1, _, _, _, H1, rfl, I1.kept (t' := s1.toks) hk,
        enumT_turn _ (s1.heap.objs.size + 1) s1.heap.objs.size (Nat.succ_ne_self _) (Nat.ne_of_lt (Nat.lt_succ_of_lt lt)).symm (Nat.ne_of_lt lt),
        ⟨⟨.none, he⟩, hit⟩, fp, k _ M1 _ H1 F1 sm A1 (jd_enumT hs.sq ha) q1⟩
end
end DL
end
section
/-! x[::-1] of lists and tuples -/
namespace DL
open PySem PySem.Spec PyProof.Rows L2

theorem rev_pick (xs : List Value) : ((List.range xs.length).filterMap fun (k : Nat) => xs.toArray[(((xs.length : Int) - 1) + (k : Int) * (-1)).toNat]?) = xs.reverse := by
  have h : ∀ n, n ≤ xs.length → ((List.range n).filterMap fun (k : Nat) => xs.toArray[(((xs.length : Int) - 1) + (k : Int) * (-1)).toNat]?) = xs.reverse.take n := by
    intro n
    induction n with
    | zero => intro _; simp
    | succ n ih =>
      intro hn
      rw [List.range_succ, List.filterMap_append, ih (by omega)]
      have hi : (((xs.length : Int) - 1) + (n : Int) * (-1)).toNat = xs.length - 1 - n := by omega
      have hlt : xs.length - 1 - n < xs.length := by omega
      have hr : n < xs.reverse.length := by rw [List.length_reverse]; omega
      rw [List.take_add_one, List.getElem?_eq_getElem hr]
      simp only [List.filterMap_cons, List.filterMap_nil]
      rw [hi]
      have : xs.toArray[xs.length - 1 - n]? = some xs[xs.length - 1 - n] := by simp [hlt]
      rw [this]
      simp only [Option.toList]
      rw [List.getElem_reverse]
  rw [h xs.length (Nat.le_refl _)]
  exact List.take_of_length_le (by rw [List.length_reverse]; exact Nat.le_refl _)
section
variable {prog : Program} {w : World} {A : Around} {E : Value → Shared → Prop} {s : Shared}
theorem rev_applied {sl : Addr} {n : Nat} {t : Tok} {Q : Int × Int × Nat → Shared → Prop} (hs : s.heap.IsSliceOf sl .none .none (.int (-1) t)) (h : Q ((n : Int) - 1, -1, n) s) :
    wpAny (model prog w) A (Builtin.Slice.sliceApplied (.ref sl) (pure (n : Int))) Q E s := by
  obtain ⟨os, hos, hcs, hds⟩ := id hs
  unfold Builtin.Slice.sliceApplied Builtin.Slice.sliceFields
  refine wpAny_bind (wpAny_bind (wpAny_field hos hds (x := .none) rfl (wpAny_bind (wpAny_field hos hds (x := .none) rfl
    (wpAny_bind (wpAny_field hos hds (x := .int (-1) t) rfl (wpAny_pure ?_)))))))
  refine wpAny_bind (HT.slicePart_ (.int (-1) t) ?_)
  show wpAny _ _ (if ((-1 : Int) == 0) = true then _ else _) _ _ s
  rw [if_neg (by decide)]
  refine wpAny_bind (HT.slicePart_ .none (wpAny_bind (HT.slicePart_ .none (wpAny_bind (wpAny_pure ?_)))))
  have e1 : Builtin.Slice.sliceAdjust none none (-1) (n : Int) = ((n : Int) - 1, -1) := rfl
  have e2 : Builtin.Slice.slicePlaces ((n : Int) - 1) (-1) (-1) = n := by
    unfold Builtin.Slice.slicePlaces
    rw [if_neg (by decide)]
    by_cases q : ((n : Int) - 1) > -1
    · rw [if_pos q]
      show (((n : Int) - 1 - (-1) - 1) / 1 + 1).toNat = n
      rw [Int.ediv_one]
      omega
    · rw [if_neg q]
      omega
  show wpAny _ _ (match Builtin.Slice.sliceAdjust none none (-1) (n : Int) with
    | (lo, hi) => pure (lo, (-1 : Int), Builtin.Slice.slicePlaces lo hi (-1))) _ _ s
  rw [e1]
  show wpAny _ _ (pure ((n : Int) - 1, (-1 : Int), Builtin.Slice.slicePlaces ((n : Int) - 1) (-1) (-1))) _ _ s
  rw [e2]
  exact wpAny_pure h
theorem rev_item {t sl : Addr} {xs : List Value} {u : Tok} {Q : Value → Shared → Prop} (ht : IsTup s.heap t xs.toArray) (hs : s.heap.IsSliceOf sl .none .none (.int (-1) u))
    (h : Q (.ref s.heap.objs.size) { s with heap := s.heap.push { cls := .type "tuple", data := .seq xs.reverse.toArray } }) (hsz : xs.length ≤ sizeLine) :
    wpAny (model prog w) A (getItem (.ref t) (.ref sl)) Q E s := by
  obtain ⟨os, hos, hcs, hds⟩ := id hs
  have hTs : s.TypeIs (.ref sl) "slice" := ⟨os, hos, hcs⟩
  unfold getItem
  try with_reducible refine wpAny_holding ?_
  first | refine wpAny_bind (wpAny_pure ?_) | skip
  refine wpAny_bind (wpAny_sequenceKey ht.typeIs (by decide) ?_)
  refine wpAny_bind (wpAny_callSpecial?_slot (name := Str.ofString "__getitem__") ht.typeIs PyProof.Rows.slot_tuple_getitem
    (wpAny_call_entry PyProof.Rows.slot_tuple_getitem ht.typeIs PyProof.Rows.entry_tuple_getitem ?_ (PyProof.Rows.args_tuple_getitem _ _)))
  show wpAny _ _ (Builtin.Tuple.tupleItemsOf (.ref t) >>= _) _ _ s
  refine wpAny_bind (PyProof.Rows.tupleItemsOf_ ht ?_)
  refine wpAny_bind (wpAny_typeOf hTs ?_)
  rw [if_pos (by decide)]
  have hn : xs.toArray.size = xs.length := List.size_toArray
  refine wpAny_bind ?_
  rw [hn]
  refine rev_applied hs ?_
  have hno : ¬ ((((xs.length : Int) - 1) == 0 && (-1 : Int) == 1 && xs.length == xs.length) = true) := by
    intro q
    rw [Bool.and_eq_true, Bool.and_eq_true] at q
    exact absurd q.1.2 (by decide)
  show wpAny _ _ (if (((xs.length : Int) - 1) == 0 && (-1 : Int) == 1 && xs.length == xs.length) = true then _ else _) _ _ s
  rw [if_neg hno, rev_pick]
  have hok : sizeOk (.seq xs.reverse.toArray) := by
    show xs.reverse.toArray.size ≤ sizeLine
    rw [List.size_toArray, List.length_reverse]
    exact hsz
  first
    | exact wpAny_bind (m := Builtin.Tuple.tupleExact _) (wpAny_newObj_type (wpAny_pure ⟨_, rfl, wpAny_pure h⟩) hok)
    | exact wpAny_bind (m := Builtin.Tuple.tupleExact _) (wpAny_newObj_type (wpAny_bind (wpAny_pure (wpAny_pure ⟨_, rfl, wpAny_pure h⟩))) hok)
    | exact wpAny_bind (wpAny_bind (m := Builtin.Tuple.tupleExact _) (wpAny_newObj_type (wpAny_pure (wpAny_pure ⟨_, rfl, wpAny_pure h⟩)) hok))
    | exact wpAny_bind (wpAny_bind (m := Builtin.Tuple.tupleExact _) (wpAny_newObj_type (wpAny_pure ⟨_, rfl, wpAny_pure h⟩) hok))
end
def revW : PyData → (PyData → Prop) → Prop
  | .list xs, q => q (.list xs.reverse)
  | .tuple xs, q => q (.tuple xs.reverse)
  | _, _ => False
def dRev (de : DE) : DE := fun η M q => de η M fun a M1 => ∃ x, rd M1 a = some x ∧ revW x fun z => q (.d z) M1
section
variable {X : Cx} {G : GH} {e : Expr} {k : Nat} {p1 p2 p3 pos : Pos} {de : DE}
/-- by values: a list or a tuple, turned about -/
def tRevS (K : PySem.W.Frag) (te : TE) : TE := fun σ H Q => te σ H fun x H1 => ∃ a xs, x = .ref a ∧
  ((SqL K H1 a xs ∧ ∀ p, H1 p = none → Q (.ref p) (upd H1 p (.lst xs.reverse))) ∨ (SqT K H1 a xs ∧ ∀ p o, PlT o → H1 p = none → Q (.ref p) (upd H1 p (.frz o (.tup xs.reverse)))))
theorem pe_revS {te : TE} (he : PE X e te) : PE X (.Subscript e (.Slice none none (some (.UnaryOp .USub (.Constant (.int 1) k p1) p2)) p3) pos) (tRevS X.K te) := by
  refine ⟨fun pins s σ H Q I h => ?_⟩
  refine Subscript_ (thn (he.run pins s σ H _ I h) ?_)
  rintro v s1 ⟨x, H1, I1, r1, a, xs, rfl, q⟩
  cases r1
  have step : PO X (some (.UnaryOp .USub (.Constant (.int 1) k p1) p2)) (tPart (tUn (rU fun i => .int (-i)) (tC (.int 1)))) := po_some (pe_un un_neg pe_int)
  refine wpAny_Slice (thn (po_none.run pins s1 σ H1 (fun o H2 => o = none ∧ H2 = H1) I1 ⟨rfl, rfl⟩) ?_)
  rintro vl s2 ⟨l, H2, I2, pl, rfl, rfl⟩
  refine thn (po_none.run pins s2 σ H2 (fun o H3 => o = none ∧ H3 = H2) I2 ⟨rfl, rfl⟩) ?_
  rintro vu s3 ⟨u, H3, I3, pu, rfl, rfl⟩
  refine thn (step.run pins s3 σ H3 (fun o H4 => o = some (-1) ∧ H4 = H3) I3 ⟨1, rfl, -1, rfl, rfl, rfl⟩) ?_
  rintro vs s4 ⟨o, H4, I4, pst, rfl, rfl⟩
  cases pl
  cases pu
  cases pst with
  | int _ t =>
  have I5 : L2.Inv X pins σ H4 { s4 with heap := s4.heap.push { cls := .type "slice", data := .fields #[.none, .none, .int (-1) t] } } :=
    I4.kept (t' := s4.toks) fun b ob q => Heap.get?_push_of_some _ q
  show wpAny (model X.prog X.w) X.A (subscriptTail e (.Slice none none (some (.UnaryOp .USub (.Constant (.int 1) k p1) p2)) p3) (.ref a) (.ref s4.heap.objs.size)) (EP X pins σ Q) X.xe
    { s4 with heap := s4.heap.push { cls := .type "slice", data := .fields #[.none, .none, .int (-1) t] } }
  rcases q with ⟨hx, q⟩ | ⟨hx, q⟩
  · obtain ⟨its, r, hl, hz⟩ := I5.list hx
    refine tail_any (ops := [.ref a, .ref s4.heap.objs.size]) hl.isList.typeIs PySem.slot_list_getitem.lookup ?_ (by with_unfolding_all rfl)
    refine wpAny_getItem_list_slice hl.isList (Heap.IsSliceOf.new _ .none .none (.int (-1) t)) .none .none (.int (-1) t) (by decide) ?_
      (by rw [List.size_toArray, ← r.length]; exact hz)
    rw [PySem.W.krv_pick]
    refine ⟨.ref _, _, I5.laid (t' := s4.toks) (o := .lst xs.reverse) (fun b ob q => Heap.get?_push_of_some _ q) (Nat.le_refl _) ?_, rfl, q _ I5.fresh⟩
    exact ⟨by rw [List.length_reverse]; exact hz, _, 0, r.reverse, Heap.get?_push_size _ rfl⟩
  · obtain ⟨its, r, hl, hz⟩ := I5.tuple hx
    refine tail_any (ops := [.ref a, .ref s4.heap.objs.size]) hl.typeIs PyProof.Rows.slot_tuple_getitem.lookup ?_ (by with_unfolding_all rfl)
    refine rev_item hl (Heap.IsSliceOf.new _ .none .none (.int (-1) t)) ?_ (by rw [← r.length]; exact hz)
    refine ⟨.ref _, _, I5.laid (t' := s4.toks) (o := .frz _ (.tup xs.reverse)) (fun b ob q => Heap.get?_push_of_some _ q) (Nat.le_refl _) ⟨Heap.get?_push_size _ rfl, ?_⟩, rfl, q _ _ ⟨rfl, rfl⟩ I5.fresh⟩
    exact ⟨by rw [List.length_reverse]; exact hz, _, r.reverse, ⟨_, Heap.get?_push_size _ rfl, rfl, _, rfl⟩⟩
theorem px_rev (he : PX X G e de) : PX X G (.Subscript e (.Slice none none (some (.UnaryOp .USub (.Constant (.int 1) k p1) p2)) p3) pos) (dRev de) := by
  refine pe_imp (pe_revS he) ?_
  rintro σ H Q ⟨F, R, η, M, q, hG, A, E, h, c⟩
  refine le_bind hG A E h fun l M1 v H1 F1 g1 s1 A1 E1 r1 h1 => ?_
  obtain ⟨x, e, h1⟩ := h1
  cases x with
  | list ds =>
    obtain ⟨p, vs, rfl, s, r⟩ := rd_list A1 r1 e
    exact ⟨p, vs, rfl, .inl ⟨s.l, fun p hp => (c.mono s1).lst A1 hp r.reverse h1⟩⟩
  | tuple ds =>
    obtain ⟨p, vs, rfl, s, r⟩ := rd_tuple A1 r1 e
    exact ⟨p, vs, rfl, .inr ⟨s, fun p o ho hp => (c.mono s1).tup A1 hp ho r.reverse h1⟩⟩
  | _ => exact h1.elim
end
end DL
end
section
/-! short words for the printed derivations -/
namespace DL
open PySem PySem.Spec PyProof.Rows L2

section
variable {P : Program} {w : World} {K : PySem.W.Frag} {mg : Str → Option Value} {base : Heap}
theorem Fun.kbinds {x qual : Str} {st : Stmt} {f : Addr} {fd : FuncData} {ps ks : List Str} {g : List Value → List Value → List Value} {gV : List V → List V → List V} (F : Fun K x qual st f fd)
    (h : ∀ (kV doc pm : Value) (an : Option Addr) (cdv ct : Value) (us ws : List Value), (g us ws).length = ps.length → bindArgs (PySem.W.fnOf x qual (defArgs st) (defBody st) (defScope st) .none kV doc pm an cdv ct) ⟨us, ks.zip ws⟩ = pure (ps.zip (g us ws)))
    (r : ∀ {vs : List V} {us : List Value} {zs : List V} {ws : List Value}, Vals vs us → Vals zs ws → Vals (gV vs zs) (g us ws)) : KBinds K fd ps ks g gV := by
  obtain ⟨oc, od, kV, doc, pm, an, cdv, ct, osl, rfl, lk, hcd⟩ := F.ex
  exact ⟨fun s us ws _ hl => .of_eq (h kV doc pm an cdv ct us ws hl), r⟩
end
/-- one keyword alone -/
def kw1 {α : Type} : List α → List α → List α
  | [], [a] => [a]
  | _, _ => []
theorem kw1_rel {vs : List V} {us : List Value} {zs : List V} {ws : List Value} (r : Vals vs us) (q : Vals zs ws) : Vals (kw1 vs zs) (kw1 us ws) := by
  cases r with
  | cons _ _ => exact .nil
  | nil =>
    cases q with
    | nil => exact .nil
    | cons a t =>
      cases t with
      | nil => exact .cons a .nil
      | cons _ _ => exact .nil
theorem kw1_data {K : PySem.W.Frag} (F : Hp) (vs : List V) (ls : List L) (r : LRs K F vs ls) : LRs K F (kw1 [] vs) (kw1 [] ls) := by
  cases r with
  | nil => exact .nil
  | cons a t =>
    cases t with
    | nil => exact .cons a .nil
    | cons _ _ => exact .nil
section
variable {X : Cx} {G : GH} {a b c e : Expr} {es : List Expr} {pos p : Pos} {da db dc : DE} {ds : DA} {k : Nat}
theorem RoomG.z {A : Around} (h : RoomG k A) : RoomG 0 A := h.mono (Nat.zero_le _)
theorem x_lt (hr : RoomG k X.A) (ha : PX X G a da) (hb : PX X G b db) : PX X G (.Compare a [.Lt] [b] pos) (dOp (dBin ltW) da db) := px_lt hr.z ha hb
theorem x_le (hr : RoomG k X.A) (ha : PX X G a da) (hb : PX X G b db) : PX X G (.Compare a [.LtE] [b] pos) (dOp (dBin leW) da db) := px_le hr.z ha hb
theorem x_eq (hr : RoomG k X.A) (ha : PX X G a da) (hb : PX X G b db) : PX X G (.Compare a [.Eq] [b] pos) (dOp (dBin eqW) da db) := px_eq hr.z ha hb
theorem x_ne (hr : RoomG k X.A) (ha : PX X G a da) (hb : PX X G b db) : PX X G (.Compare a [.NotEq] [b] pos) (dOp (dBin neW) da db) := px_ne hr.z ha hb
theorem x_in (hr : RoomG k X.A) (ha : PX X G a da) (hb : PX X G b db) (hm : behindInMarks .In b = false := by first | exact nomark _ | rfl) : PX X G (.Compare a [.In] [b] pos) (dOp (dBin (memW false)) da db) := px_in hr.z ha hb hm
theorem x_notin (hr : RoomG k X.A) (ha : PX X G a da) (hb : PX X G b db) (hm : behindInMarks .NotIn b = false := by first | exact nomark _ | rfl) : PX X G (.Compare a [.NotIn] [b] pos) (dOp (dBin (memW true)) da db) := px_notin hr.z ha hb hm
theorem t_lt (hr : RoomG k X.A) (ha : PX X G a da) (hb : PX X G b db) : PXT X G (.Compare a [.Lt] [b] pos) (dTst (dOp (dBin ltW) da db)) := pxt_cmp (opx_lt hr.rm.units0) ha hb
theorem t_le (hr : RoomG k X.A) (ha : PX X G a da) (hb : PX X G b db) : PXT X G (.Compare a [.LtE] [b] pos) (dTst (dOp (dBin leW) da db)) := pxt_cmp (opx_le hr.rm.units0) ha hb
theorem t_gt (ha : PX X G a da) (hb : PX X G b db) : PXT X G (.Compare a [.Gt] [b] pos) (dTst (dOp (dBin gtW) da db)) := pxt_cmp opx_gt ha hb
theorem t_ge (ha : PX X G a da) (hb : PX X G b db) : PXT X G (.Compare a [.GtE] [b] pos) (dTst (dOp (dBin geW) da db)) := pxt_cmp opx_ge ha hb
theorem t_eq (hr : RoomG k X.A) (ha : PX X G a da) (hb : PX X G b db) : PXT X G (.Compare a [.Eq] [b] pos) (dTst (dOp (dBin eqW) da db)) := pxt_cmp (opx_eq hr.rm.units) ha hb
theorem t_ne (hr : RoomG k X.A) (ha : PX X G a da) (hb : PX X G b db) : PXT X G (.Compare a [.NotEq] [b] pos) (dTst (dOp (dBin neW) da db)) := pxt_cmp (opx_ne hr.rm.units) ha hb
theorem t_in (hr : RoomG k X.A) (ha : PX X G a da) (hb : PX X G b db) (hm : behindInMarks .In b = false := by first | exact nomark _ | rfl) : PXT X G (.Compare a [.In] [b] pos) (dTst (dOp (dBin (memW false)) da db)) := pxt_cmp (opx_in (by have := hr.rm.un; omega)) ha hb hm
theorem t_notin (hr : RoomG k X.A) (ha : PX X G a da) (hb : PX X G b db) (hm : behindInMarks .NotIn b = false := by first | exact nomark _ | rfl) : PXT X G (.Compare a [.NotIn] [b] pos) (dTst (dOp (dBin (memW true)) da db)) := pxt_cmp (opx_notin (by have := hr.rm.un; omega)) ha hb hm
theorem t_is (ha : PX X G a da) (hb : PX X G b db) : PXT X G (.Compare a [.Is] [b] pos) (dTst (dOp (dBin (isNW false)) da db)) := pxt_cmp opx_isN ha hb
theorem t_isnot (ha : PX X G a da) (hb : PX X G b db) : PXT X G (.Compare a [.IsNot] [b] pos) (dTst (dOp (dBin (isNW true)) da db)) := pxt_cmp opx_notN ha hb
theorem x_lele (hr : RoomG k X.A) (ha : PX X G a da) (hb : PX X G b db) (hc : PX X G c dc) (hm : lastMarks [.LtE, .LtE] [b, c] = false := by with_unfolding_all rfl) : PX X G (.Compare a [.LtE, .LtE] [b, c] pos) (dChain leW leW da db dc) :=
  px_chain (opx_le hr.rm.units0) (opx_le hr.rm.units0) ha hb hc hm
theorem x_lelt (hr : RoomG k X.A) (ha : PX X G a da) (hb : PX X G b db) (hc : PX X G c dc) (hm : lastMarks [.LtE, .Lt] [b, c] = false := by with_unfolding_all rfl) : PX X G (.Compare a [.LtE, .Lt] [b, c] pos) (dChain leW ltW da db dc) :=
  px_chain (opx_le hr.rm.units0) (opx_lt hr.rm.units0) ha hb hc hm
theorem t_lele (hr : RoomG k X.A) (ha : PX X G a da) (hb : PX X G b db) (hc : PX X G c dc) (hm : lastMarks [.LtE, .LtE] [b, c] = false := by with_unfolding_all rfl) : PXT X G (.Compare a [.LtE, .LtE] [b, c] pos) (dTst (dChain leW leW da db dc)) :=
  pxt_chain (opx_le hr.rm.units0) (opx_le hr.rm.units0) ha hb hc hm
theorem t_lelt (hr : RoomG k X.A) (ha : PX X G a da) (hb : PX X G b db) (hc : PX X G c dc) (hm : lastMarks [.LtE, .Lt] [b, c] = false := by with_unfolding_all rfl) : PXT X G (.Compare a [.LtE, .Lt] [b, c] pos) (dTst (dChain leW ltW da db dc)) :=
  pxt_chain (opx_le hr.rm.units0) (opx_lt hr.rm.units0) ha hb hc hm
/-- list + list: a new list that will be changed -/
def dCatM (da db : DE) : DE := fun η M q => da η M fun a M1 => db η M1 fun b M2 => ∃ xs ys, rd M2 a = some (.list xs) ∧ rd M2 b = some (.list ys) ∧ xs.length + ys.length ≤ sizeLine ∧ ∀ p, M2 p = none → q (.p p) (updM M2 p (.lst ((xs ++ ys).map L.d)))
theorem px_catM (ha : PX X G a da) (hb : PX X G b db) : PX X G (.BinOp a .Add b pos) (dCatM da db) := by
  refine pe_imp (pe_op op_catL ha hb) ?_
  rintro σ H Q ⟨F, R, η, M, q, hG, A, E, h, c⟩
  refine le_bind hG A E h fun x M1 vx H1 F1 g1 s1 A1 E1 r1 h1 => le_bind g1 A1 E1 h1 fun y M2 vy H2 F2 g2 s2 A2 E2 r2 h2 => ?_
  obtain ⟨xs, ys, e1, e2, hz, h2⟩ := h2
  obtain ⟨p, vs, rfl, t1, u1⟩ := rd_list A2 (r1.mono s2) e1
  obtain ⟨p2, vs2, rfl, t2, u2⟩ := rd_list A2 r2 e2
  refine ⟨p, p2, vs, vs2, rfl, rfl, t1, t2, by rw [u1.length, u2.length]; exact hz, fun l hl => ?_⟩
  exact c (.p l) _ (.ref l) _ F2 (s1.trans s2) (A2.new (m := .lst ((xs ++ ys).map L.d)) hl ⟨vs ++ vs2, upd_same, LRs.of_data (u1.append u2)⟩) rfl (h2 l (A2.freeM hl))
end
end DL
end
section
/-! the less and the greater of two, the sum of a tuple -/
namespace DL
open PySem PySem.Spec PyProof.Rows L2
def max2W : List L → Ms → DQ → Prop := fun ls M q => ∃ i j : Int, ls = [.d (.int i), .d (.int j)] ∧ q (.d (.int (if j > i then j else i))) M
def min2W : List L → Ms → DQ → Prop := fun ls M q => ∃ i j : Int, ls = [.d (.int i), .d (.int j)] ∧ q (.d (.int (if j < i then j else i))) M
section
variable {X : Cx}
theorem cd_max2 : CallD X.K (fun xs H Q => ∃ i j, xs = [.int i, .int j] ∧ Q (.int (if j > i then j else i)) H) max2W := by
  rintro F R M H xs ls q Q A rr ⟨i, j, rfl, h⟩ c
  obtain ⟨v, w, rfl, r1, r2⟩ := lrs2 rr
  cases r1
  cases r2
  exact ⟨i, j, rfl, c.plain A (.int _) h⟩
theorem cd_min2 : CallD X.K (fun xs H Q => ∃ i j, xs = [.int i, .int j] ∧ Q (.int (if j < i then j else i)) H) min2W := by
  rintro F R M H xs ls q Q A rr ⟨i, j, rfl, h⟩ c
  obtain ⟨v, w, rfl, r1, r2⟩ := lrs2 rr
  cases r1
  cases r2
  exact ⟨i, j, rfl, c.plain A (.int _) h⟩
theorem sum_tup {prog : Program} {w : World} {A : Around} {E : Value → Shared → Prop} {s : Shared} {l : Addr} {its : List Value} {ns : List Int} {Q : Value → Shared → Prop}
    (hh : A.handled = none) (hl : s.heap.IsTuple l its.toArray) (hi : IntsAre its ns)
    (h : ∀ h' tk t', (∀ b o, s.heap.get? b = some o → h'.get? b = some o) → Q (.int ns.sum t') { s with heap := h', toks := tk }) : wpAny (model prog w) A (call (.builtin "sum") [.ref l]) Q E s := by
  obtain ⟨xs, e⟩ := hi.allInts.items
  have hn : numsOf (intItems xs).toList = ns := by rw [← e]; exact hi.numsOf
  rw [nums_intItems] at hn
  rw [e] at hl
  have hlt : l < s.heap.objs.size := by obtain ⟨_, e, _⟩ := hl; exact Heap.lt_size e
  refine call_sum_walkG (wpAny_pyIter_tuple hl ?_)
  refine ⟨_, _, _, _, _, _, numAt xs, rfl, Walks.tuple (A := A.in1) hh _ l (Nat.ne_of_lt hlt) (intItems xs), ⟨⟨_, Heap.get?_push_size _ rfl, rfl, rfl⟩, hl.push _⟩, fun b hb => ?_, (fun _ _ => intItems_at), fun h' tk t' hk => ?_⟩
  · show b < (s.heap.push _).objs.size
    rw [Heap.size_push]
    rcases List.mem_cons.mp hb with rfl | hb
    · exact Nat.lt_succ_self _
    · obtain rfl := List.mem_singleton.mp hb
      exact Nat.lt_succ_of_lt hlt
  · have := h h' tk t' fun b o e => hk b o (fun z => by rw [List.mem_singleton.mp z] at e; exact absurd (Heap.lt_size e) (Nat.lt_irrefl _)) (Heap.get?_push_of_some _ e)
    rw [preSum_eq, List.take_of_length_le (by simp [intItems]), hn]
    exact this
def rSumA (K : PySem.W.Frag) : List V → Hp → VK → Prop := fun vs H Q => ∃ (a : Addr) (ns : List Int), vs = [V.ref a] ∧ (SqL K H a (ns.map V.int) ∨ SqT K H a (ns.map V.int)) ∧ Q (.int ns.sum) H
theorem cr_sumA (hc : X.calm = true) : CallR X (.builtin "sum") (rSumA X.K) := by
  intro pins s σ H vs us Q I r h
  obtain ⟨a, ns, rfl, hs, q⟩ := h
  rcases hs with hs | hs
  · exact cr_sum hc pins s σ H _ us Q I r ⟨a, ns, rfl, hs, q⟩
  · obtain ⟨its, rv, hl, _⟩ := I.tuple hs
    rw [Vals.ref1 r]
    exact sum_tup (I.ok.hd hc) hl rv.ints fun h' tk t' hk => ⟨.int _, H, I.kept hk, ⟨_, rfl⟩, q⟩
def sumAW : PyData → (PyData → Prop) → Prop
  | .list xs, q => ∃ ns, intsD xs = some ns ∧ q (.int ns.sum)
  | .tuple xs, q => ∃ ns, intsD xs = some ns ∧ q (.int ns.sum)
  | _, _ => False
theorem cd_sumA : CallD X.K (rSumA X.K) (d1 sumAW) := by
  rintro F R M H xs ls q Q A rr ⟨a, x, rfl, e, h⟩ c
  obtain ⟨v, rfl, r⟩ := lrs1 rr
  cases x with
  | list ds =>
    obtain ⟨ns, e1, h⟩ := h
    obtain ⟨p, vs, rfl, s, r2⟩ := rd_list A r e
    have i1 := intsD_rep e1 r2
    subst i1
    exact ⟨p, ns, rfl, .inl s.l, c.plain A (.int _) h⟩
  | tuple ds =>
    obtain ⟨ns, e1, h⟩ := h
    obtain ⟨p, vs, rfl, s, r2⟩ := rd_tuple A r e
    have i1 := intsD_rep e1 r2
    subst i1
    exact ⟨p, ns, rfl, .inr s, c.plain A (.int _) h⟩
  | _ => exact h.elim
end
end DL
end
section
/-! what is raised, on data: its class, its fields -/
namespace DL
open PySem PySem.Spec PyProof.Rows L2

theorem Abs.less {K : PySem.W.Frag} {F R R' H : Hp} {M : Ms} (A : Abs K F R' M H) (s : Same R R') : Abs K F R M H := by
  refine ⟨A.fz, fun a o h => ?_, fun a o h => A.rs a o (s a o h)⟩
  obtain ⟨h1, h2, h3⟩ := A.mu a o h
  refine ⟨h1, ?_, h3⟩
  cases q : R a with
  | none => rfl
  | some x =>
    rw [s a x q] at h2
    cases h2
abbrev DXQ := Value → List (Str × L) → Ms → Prop
/-- the fields of what was raised -/
def XAt (K : PySem.W.Frag) (F : Hp) (d : Option Addr) (fs : List (Str × L)) : Prop :=
  (fs = [] ∧ d = none) ∨ ∃ dd vs, d = some dd ∧ F dd = some (.xd vs) ∧ Paired (fun (a : Str × V) (b : Str × L) => a.1 = b.1 ∧ LR K F a.2 b.2) vs fs
theorem paired_mono {K : PySem.W.Frag} {F F' : Hp} (s : Same F F') : ∀ {vs : List (Str × V)} {fs : List (Str × L)}, Paired (fun (a : Str × V) (b : Str × L) => a.1 = b.1 ∧ LR K F a.2 b.2) vs fs → Paired (fun (a : Str × V) (b : Str × L) => a.1 = b.1 ∧ LR K F' a.2 b.2) vs fs
  | _, _, .nil => .nil
  | _, _, .cons h t => .cons ⟨h.1, LR.mono s h.2⟩ (paired_mono s t)
theorem XAt.mono {K : PySem.W.Frag} {F F' : Hp} {d : Option Addr} {fs : List (Str × L)} (h : XAt K F d fs) (s : Same F F') : XAt K F' d fs := by
  rcases h with h | ⟨dd, vs, e, h1, h2⟩
  · exact .inl h
  · exact .inr ⟨dd, vs, e, s _ _ h1, paired_mono s h2⟩
def ContX (K : PySem.W.Frag) (F R : Hp) (e : DXQ) (E : XK) : Prop := ∀ cls d fs M H F', Same F F' → Abs K F' R M H → XAt K F' d fs → e cls fs M → E cls d H
theorem ContX.mono {K : PySem.W.Frag} {F F' R : Hp} {e : DXQ} {E : XK} (c : ContX K F R e E) (s : Same F F') : ContX K F' R e E := fun cls d fs M H G t => c cls d fs M H G (s.trans t)
abbrev DSpX := List L → Ms → DQ → DXQ → Prop
def LSpX (K : PySem.W.Frag) (n : Nat) (dsp : DSpX) : Sp := fun vs H Q E => ∃ F R M ls q e, Abs K F R M H ∧ LRs K F vs ls ∧ ls.length = n ∧ dsp ls M q e ∧ Cont K F R q Q ∧ ContX K F R e E
theorem LSpX.len {K : PySem.W.Frag} {n : Nat} {dsp : DSpX} {vs : List V} {H : Hp} {Q : VK} {E : XK} (h : LSpX K n dsp vs H Q E) : vs.length = n := by
  obtain ⟨F, R, M, ls, q, e, A, r, hl, _⟩ := h
  rw [r.length]
  exact hl
/-- what a context lets out -/
def LW (K : PySem.W.Frag) (G : GH) (wd : Ev → DXQ) : WX := fun cls d σ H => ∃ F R η M fs, SG G F R ∧ Abs K F R M H ∧ Er K F σ η ∧ XAt K F d fs ∧ wd η cls fs M
def bodySpX (n : Nat) (b : (Ev → DXQ) → DS) : DSpX := fun ls M q e => b (fun _ => e) { nx := fun _ M' => q (.d .none) M', rt := q } (startD n ls) M
section
variable {P : Program} {w : World} {K : PySem.W.Frag} {mg : Str → Option Value} {base : Heap} {k : Nat} {f : Addr} {fd : FuncData} {ps : List Str}
theorem takesX {N : List Str} {qual : Str} {sc : Scope} {cdv : Value} {A : Around} {outer : List Env} {s : Shared} {H : Hp} {E : XK} :
    Takes (cxOf (L2.CX P w) P w K mg base N qual sc f cdv A outer s H E) (fun cls d _ H' => E cls d H') := takes_of rfl rfl rfl rfl
/-- a def that may raise keeps its promise -/
theorem okDX {x qual : Str} {st : Stmt} {N : List Str} {b : (Ev → DXQ) → DS} {dsp : DSpX} (Fn : Fun K x qual st f fd) (S : FnScope N ps (defScope st))
    (body : ∀ (cdv : Value) (A : Around) (outer : List Env) (s : Shared) (H : Hp) (E : XK) (G : GH) (wd : Ev → DXQ), RoomG k (A.deeper (envOfC qual (defScope st) s.heap.objs.size f cdv)) →
      Takes (cxOf (L2.CX P w) P w K mg base N qual (defScope st) f cdv A outer s H E) (LW K G wd) →
      PXB (cxOf (L2.CX P w) P w K mg base N qual (defScope st) f cdv A outer s H E) G (defBody st) (b wd))
    (h : ∀ ls M q e, ls.length = ps.length → dsp ls M q e → bodySpX N.length b ls M q e) : FnG P w K mg base (L2.CX P w) (k + 1) f fd ps (LSpX K ps.length dsp) := by
  refine Fun.okG Fn S (fun vs H Q E h => LSpX.len h) (fun cdv A outer s H vs Q E hr hs => ?_)
  obtain ⟨F, R, M, ls, q, e, A1, r, hl, hd, c, cx⟩ := hs
  have tk : Takes (cxOf (L2.CX P w) P w K mg base N qual (defScope st) f cdv A outer s H E) (LW K (F, R) fun _ => e) :=
    takesX.imp fun cls d σ H' ⟨F', R', η, M', fs, hG, A', E', x, h'⟩ => cx cls d fs M' H' F' hG.1 (A'.less hG.2) x h'
  refine ⟨_, body cdv A outer s H E (F, R) (fun _ => e) hr tk, F, R, startD N.length ls, M, { nx := fun _ M' => q (.d .none) M', rt := q }, SG.refl F R, A1, er_start r, h ls M q e hl hd, ?_⟩
  exact ⟨fun η M' σ H' F' s' A' E' h' => (c.mono s').plain A' .non h', c, fun _ _ _ _ _ _ _ _ h' => h'.elim, fun _ _ _ _ _ _ _ _ h' => h'.elim⟩
end
section
variable {X : Cx} {G : GH} {k : Nat} {f : Addr} {fd : FuncData} {ps ks : List Str} {n : Nat} {dsp : DSpX} {x : Str} {p pos : Pos} {e o a b : Expr} {es : List Expr} {dd : DA} {wd : Ev → DXQ}
/-! ### a call of a def that may raise -/
def dCallX (n : Nat) (dsp : DSpX) (wd : Ev → DXQ) (dd : DA) : DE := fun η M q => dd η M fun ls M1 => ls.length = n ∧ dsp ls M1 q (wd η)
theorem pe_callGS {CX : CXT} {sp : Sp} {E : L2.St → XK} {t : TA} (F : FnG X.prog X.w X.K X.mg X.base CX k f fd ps sp) (hr : RoomG k X.A) (hg : Gl X x) (hm : X.mg x = some (.ref f))
    (hk : PySem.W.keepIn X.K (.ref f) = true) (hb : Binds X.K fd ps []) (hx : ∀ σ, PassesAt CX X σ (E σ)) (ha : PA X (e :: es) t)
    (hdb : (x == ("__debug__" : Str)) = false := by decide)
    (he : starEach (e :: es) X.env = (false, eval e X.env) :: starEach es X.env := by rfl)
    (hpl : (backTo pos (starEach es X.env)).any (·.1) = false := by rfl) :
    PE X (.Call (.Name x p) (e :: es) [] pos) (tCallS sp E t) := by
  refine ⟨fun pins s σ H Q I h => ?_⟩
  refine wpAny_Call_Name_kw (ld_glob I hg hm ?_ hdb)
  refine PySem.W.callWith_K (h₀ := X.base) I.ok.mod.kin hk (thn (ha.run pos pins s σ H _ I h) fun us s1 ⟨vs, H1, I1, r, q⟩ => ⟨I1.kIn, ?_⟩) he hpl
  have hl : us.length = ps.length := by rw [← r.length]; exact F.len _ _ _ _ q
  have b := hb s1 us I1.kIn (by rw [List.append_nil]; exact hl)
  rw [List.append_nil] at b
  refine wpAny_call (codeAny_mono (F.run X.A X.stack s1 H1 ⟨us, []⟩ us vs Q (E σ) hr I1.env0 b r q) fun r s' hq => ?_)
  match r, hq with
  | .error e, hq => exact hx σ pins H1 s1 e s' I1 hq
  | .ok (.ret u), hq => exact I1.after hq
theorem px_callX (Fn : FnG X.prog X.w X.K X.mg X.base (L2.CX X.prog X.w) k f fd ps (LSpX X.K n dsp)) (tk : Takes X (LW X.K G wd)) (hr : RoomG k X.A) (hm : X.mg x = some (.ref f)) (hk : PySem.W.keepIn X.K (.ref f) = true) (hb : Binds X.K fd ps []) (ha : PXA X G (e :: es) dd)
    (hg : Gl X x := by rfl) (hdb : (x == ("__debug__" : Str)) = false := by decide)
    (he : starEach (e :: es) X.env = (false, eval e X.env) :: starEach es X.env := by rfl) (hpl : (backTo pos (starEach es X.env)).any (·.1) = false := by rfl) : PX X G (.Call (.Name x p) (e :: es) [] pos) (dCallX n dsp wd dd) := by
  refine pe_imp (pe_callGS Fn hr hg hm hk hb (E := WE (LW X.K G wd)) (passAt tk) ha hdb he hpl) ?_
  rintro σ H Q ⟨F, R, η, M, q, hG, A, E, h, c⟩
  refine la_bind hG A E h fun ls M1 vs H1 F1 g1 s1 A1 E1 r1 h1 => ?_
  refine ⟨F1, R, M1, ls, q, wd η, A1, r1, h1.1, h1.2, c.mono s1, ?_⟩
  exact fun cls d fs M2 H2 F2 s2 A2 x2 h2 => ⟨F2, R, η, M2, fs, g1.trans s2, A2, E1.mono s2, x2, h2⟩
/-! ### raise -/
abbrev DMk := Ev → Ms → DXQ → Prop
def LMk (K : PySem.W.Frag) (G : GH) (mk : DMk) : L2.St → Hp → XK → Prop := fun σ H Q => ∃ F R η M e, SG G F R ∧ Abs K F R M H ∧ Er K F σ η ∧ mk η M e ∧
  ∀ cls d fs M' H' F', Same F F' → Abs K F' R M' H' → XAt K F' d fs → e cls fs M' → Q cls d H'
def PXM (X : Cx) (G : GH) (e : Expr) (mk : DMk) : Prop := PMk X e (LMk X.K G mk)
def dRaise (mk : DMk) (wd : Ev → DXQ) : DS := fun _ η M => mk η M (wd η)
theorem pxs_raise {mk : DMk} (hc : X.calm = true) (tk : Takes X (LW X.K G wd)) (he : PXM X G e mk) : PXS X G (.Raise (some e) none pos) (dRaise mk wd) := by
  refine ps_imp (ps_raise hc tk he) ?_
  rintro D σ H ⟨F, R, η, M, d, hG, A, E, h, c⟩
  exact ⟨F, R, η, M, wd η, hG, A, E, h, fun cls d fs M' H' F' s' A' x' h' => ⟨F', R, η, M', fs, hG.trans s', A', E.mono s', x', h'⟩⟩
end
end DL
end
section
/-! an own error with one field is made -/
namespace DL
open PySem PySem.Spec PyProof.Rows L2
/-- __init__(self, x): self.fld = x -/
def sp1 (C : Addr) (fld : Str) : Sp := fun vs H Q _ => ∃ a v, vs = [V.ref a, v] ∧ H a = some (exo a C none) ∧ ∀ d, H d = none → d ≠ a → Q .non (upd (upd H d (exd d [(fld, v)])) a (exo a C (some d)))
theorem sp1.len {C : Addr} {fld : Str} {vs : List V} {H : Hp} {Q : VK} {E : XK} (h : sp1 C fld vs H Q E) : vs.length = 2 := by
  obtain ⟨a, v, rfl, _⟩ := h
  rfl
theorem sp1_body {K : PySem.W.Frag} {C : Addr} {fld pn : Str} {vs : List V} {H : Hp} {Q : VK} {E : XK} (T : OexC K C) (hno : PySem.W.findIn K (.ref C) fld = some none) (h : sp1 C fld vs H Q E) :
    tOst K fld (tVar 0) (tVar 1) { nx := fun _ H' => Q .non H', rt := Q } (start ["self", pn] vs) H := by
  obtain ⟨a, v, rfl, ha, hq⟩ := h
  exact ⟨v, rfl, .ref a, rfl, a, C, rfl, T, hno, .inl ⟨ha, fun d hd hne => hq d hd hne⟩⟩
section
variable {X : Cx} {G : GH} {k : Nat} {C fI : Addr} {fd : FuncData} {ps : List Str} {x fld : Str} {p pos : Pos} {e : Expr} {de : DE}
/-- C(e) -/
def dMk1 (C : Addr) (fld : Str) (de : DE) : DMk := fun η M q => de η M fun l M1 => q (.ref C) [(fld, l)] M1
theorem pxm_one {CX : CXT} (T : OexC X.K C) (iC : PySem.W.findIn X.K (.ref C) "__init__" = some (some (.ref fI))) (tI : PySem.W.typeIn X.K (.ref fI) = some (.type "function"))
    (F1 : FnOk X.prog X.w X.K X.mg X.base CX k fI fd ps (sp1 C fld)) (hr : RoomG (k + 1) X.A) (hb : Binds X.K fd ps []) (hx : Passes CX X (fun _ _ _ => False)) (hm : X.mg x = some (.ref C)) (ha : PX X G e de)
    (hg : Gl X x := by rfl) (hdb : (x == ("__debug__" : Str)) = false := by decide) (he : starEach (e :: []) X.env = (false, eval e X.env) :: starEach [] X.env := by rfl) (hpl : (backTo pos (starEach [] X.env)).any (·.1) = false := by rfl) :
    PXM X G (.Call (.Name x p) [e] [] pos) (dMk1 C fld de) := by
  have h0 := pmk_oex (p := p) (pos := pos) (dvs := []) (ds := []) T iC tI F1 hr.rm hb .nil hx hg hm (pa_cons ha pa_nil (hs := he)) hdb he hpl
  intro pins s σ H Q I h
  refine h0 pins s σ H Q I ?_
  obtain ⟨F, R, η, M, q, hG, A, E, h, c⟩ := h
  refine le_bind (Q := fun v H1 => _) hG A E h fun l M1 v H1 F1 g1 s1 A1 E1 r1 h1 => ?_
  refine ⟨by simp, fun a ha0 => ⟨a, v, rfl, upd_same, fun d hd hne => ⟨rfl, d, [(fld, v)], upd_same, ?_, ?_, ?_⟩⟩⟩
  · rw [upd_ne hne, upd_same]
  · rw [upd_ne hne] at hd
    exact hd
  · rw [upd_ne hne] at hd
    have sH : upd (del (upd (upd (upd H1 a (exo a C none)) d (exd d [(fld, v)])) a (exo a C (some d))) a) d (.xd [(fld, v)]) = upd H1 d (.xd [(fld, v)]) := by
      funext b
      by_cases h1 : b = d
      · subst h1
        rw [upd_same, upd_same]
      · rw [upd_ne h1, upd_ne h1]
        by_cases h2 : b = a
        · subst h2
          rw [del_same, ha0]
        · rw [del_ne h2, upd_ne h2, upd_ne h1, upd_ne h2]
    rw [sH]
    have sN := same_new (o := .xd [(fld, v)]) (A1.freeF hd)
    exact c (.ref C) (some d) [(fld, l)] M1 _ _ (s1.trans sN) (A1.frz hd) (.inr ⟨d, _, rfl, upd_same, .cons ⟨rfl, r1.mono sN⟩ .nil⟩) h1
end
end DL
end
section
/-! try: .. except X as n: .. -/
namespace DL
open PySem PySem.Spec PyProof.Rows L2
/-- ex tells whether the clause takes the class -/
def dTryAs (ex : Value → Bool → Prop) (i : Nat) (b : (Ev → DXQ) → DS) (su : Addr → Value → List (Str × L) → DS) (wd : Ev → DXQ) : DS := fun d η M =>
  b (fun η' cls fs M' => ∃ m, ex cls m ∧
    (m = true → ∀ a, su a cls fs { nx := fun η2 M2 => d.nx (η2.set i none) M2, rt := d.rt, bk := fun η2 M2 => d.bk (η2.set i none) M2, ct := fun η2 M2 => d.ct (η2.set i none) M2 } (η'.set i (some (.c (.ref a)))) M') ∧
    (m = false → wd η' cls fs M')) d η M
section
variable {X : Cx} {G : GH} {x n : Str} {c : Value} {body suite : List Stmt} {b₀ : Stmt} {np pos pos' : Pos} {wd : Ev → DXQ} {ex : Value → Bool → Prop} {b : (Ev → DXQ) → DS} {su : Addr → Value → List (Str × L) → DS}
theorem pxs_tryAs (i : Nat) (hN : X.N.Nodup) (hc : Names X x c) (tk : Takes X (LW X.K G wd)) (hex : ∀ cls m, ex cls m → PySem.W.exmOne X.K cls c = some m)
    (hb : ∀ (pn : List (Addr × Obj)) (xe : Value → Shared → Prop) (G' : GH) (wd' : Ev → DXQ), PassesOwn (model X.prog X.w) X.A X.env xe → Takes (X.tr pn xe) (LW X.K G' wd') → PXB (X.tr pn xe) G' body (b wd'))
    (hsu : ∀ (a : Addr) (oe : Obj) (cls : Value) (d : Option Addr) (pn : List (Addr × Obj)) (G' : GH) (fs : List (Str × L)), Zc cls d oe → (∃ vs, oe.data = .fields vs) → XAt X.K G'.1 d fs → PXB (X.suite a ((a, oe) :: pn)) G' (b₀ :: suite) (su a cls fs))
    (hs : X.stack = X.env :: X.outer := by rfl) (hf : X.env.frame = some X.env.locals := by rfl) (hi : X.N[i]? = some n := by rfl) (hln : X.env.kindOf n = some .local := by rfl) :
    PXS X G (.Try body [.ExceptHandler (some (.Name x np)) (some n) (b₀ :: suite) pos'] [] [] pos) (dTryAs ex i b su wd) := by
  refine ps_imp (ps_try_as (tb := fun W D σ H => ∃ G' wd', (∀ cls d σ' H', LW X.K G' wd' cls d σ' H' → W cls d σ' H') ∧ LS X.K G' (b wd') D σ H)
    (ts := fun a cls d D σ H => ∃ G' fs, XAt X.K G'.1 d fs ∧ LS X.K G' (su a cls fs) D σ H) hs hf hN hi hln hc tk ?_ ?_) ?_
  · intro W pn xe tk' po
    refine ⟨fun pins s σ H D I h => ?_⟩
    obtain ⟨G', wd', imp, h⟩ := h
    exact (hb pn xe G' wd' po (tk'.imp imp)).run pins s σ H D I h
  · intro a oe cls d pn hz hv
    refine ⟨fun pins s σ H D I h => ?_⟩
    obtain ⟨G', fs, hx, h⟩ := h
    exact (hsu a oe cls d pn G' fs hz hv hx).run pins s σ H D I h
  · rintro D σ H ⟨F, R, η, M, d, hG, A, E, h, k⟩
    refine ⟨(F, R), _, fun cls dd σ' H' z => ?_, F, R, η, M, d, SG.refl F R, A, E, h, k⟩
    obtain ⟨F', R', η', M', fs, hG', A', E', x', m, hm, h1, h2⟩ := z
    have A2 := A'.less hG'.2
    have s' : Same F F' := hG'.1
    refine ⟨m, hex _ _ hm, fun e a ha => ⟨(F', R), fs, x', F', R, _, M', _, SG.refl F' R, A2, E'.set (l := .c (.ref a)) i rfl, h1 e a, ?_⟩, fun e => ⟨F', R, η', M', fs, hG.trans s', A2, E', x', h2 e⟩⟩
    have k' := k.mono s'
    exact ⟨fun η2 M2 σ2 H2 F2 t A3 E3 h3 => k'.nx _ _ _ _ _ t A3 (E3.set_none i) h3, k'.rt,
      fun η2 M2 σ2 H2 F2 t A3 E3 h3 => k'.bk _ _ _ _ _ t A3 (E3.set_none i) h3, fun η2 M2 σ2 H2 F2 t A3 E3 h3 => k'.ct _ _ _ _ _ t A3 (E3.set_none i) h3⟩
/-- a field of what the suite holds -/
def dXf (a : Addr) (cls : Value) (C : Addr) (fs : List (Str × L)) (f : Str) (de : DE) : DE := fun η M q => de η M fun l M1 => l = .c (.ref a) ∧ cls = .ref C ∧ ∃ v, fs.lookup f = some v ∧ q v M1
theorem paired_lookup {K : PySem.W.Frag} {F : Hp} {f : Str} {l : L} : ∀ {vs : List (Str × V)} {fs : List (Str × L)}, Paired (fun (a : Str × V) (b : Str × L) => a.1 = b.1 ∧ LR K F a.2 b.2) vs fs → fs.lookup f = some l → ∃ v, vs.lookup f = some v ∧ LR K F v l
  | _, _, .nil, h => by cases h
  | (a, v) :: vs, (b, u) :: fs, .cons h t, e => by
    obtain ⟨h1, h2⟩ := h
    have h1 : a = b := h1
    subst h1
    rw [List.lookup_cons] at e ⊢
    cases hq : f == a with
    | true =>
      rw [hq] at e
      cases e
      exact ⟨v, rfl, h2⟩
    | false =>
      rw [hq] at e
      exact paired_lookup t e
theorem px_xf {a C : Addr} {oe : Obj} {cls : Value} {d : Option Addr} {pn : List (Addr × Obj)} {e : Expr} {de : DE} {fs : List (Str × L)} (T : XfC X.K C) (hno : PySem.W.findIn X.K (.ref C) n = some none)
    (hz : Zc cls d oe) (hf : ∃ vs, oe.data = .fields vs) (hx : XAt X.K G.1 d fs) (he : PX (X.suite a ((a, oe) :: pn)) G e de) (hb : attributeBase e n X.env (eval e X.env) = eval e X.env := by rfl) :
    PX (X.suite a ((a, oe) :: pn)) G (.Attribute e n pos) (dXf a cls C fs n de) := by
  refine pe_imp (pe_xf T hno hz hf he hb) ?_
  rintro σ H Q ⟨F, R, η, M, q, hG, A, E, h, c⟩
  refine le_bind hG A E h fun l M1 v H1 F1 g1 s1 A1 E1 r1 h1 => ?_
  obtain ⟨rfl, hcl, w, hl, h1⟩ := h1
  rcases hx with hx | ⟨dd, vs, e1, e2, e3⟩
  · rw [hx.1] at hl
    cases hl
  · obtain ⟨u, hu, ru⟩ := paired_lookup e3 hl
    exact ⟨r1, hcl, dd, vs, u, e1, A1.fz _ _ (g1.1 _ _ e2), hu, c w M1 u H1 F1 s1 A1 (ru.mono g1.1) h1⟩
end
end DL
end
section
/-! isinstance of what a suite holds; classes as values -/
namespace DL
open PySem PySem.Spec PyProof.Rows L2
section
variable {X : Cx} {G : GH}
/-- an own class by its name -/
theorem px_cls {x : Str} {C : Addr} {pos : Pos} (hm : X.mg x = some (.ref C)) (hg : Gl X x := by rfl) (hd : (x == ("__debug__" : Str)) = false := by decide) : PX X G (.Name x pos) (fun _ M q => q (.c (.ref C)) M) := by
  refine pe_imp (pe_glob hg hm (v := .ref C) rfl hd) ?_
  rintro σ H Q ⟨F, R, η, M, q, hG, A, E, h, c⟩
  exact c (.c (.ref C)) M (.ref C) H F (Same.refl F) A rfl h
def clsV : V → Option Value
  | .ref C => some (.ref C)
  | .ty T => some (.type T)
  | _ => none
theorem clsV_rel {w : V} {cv u : Value} (h : clsV w = some cv) (r : RelV w u) : u = cv := by
  cases w <;> cases h <;> exact r
/-- isinstance(e, c), e what the suite holds: ki tells -/
def isXW (a : Addr) (ki : Value → Bool → Prop) : List L → Ms → DQ → Prop := fun ls M q => ∃ w cv b, ls = [.c (.ref a), .c w] ∧ clsV w = some cv ∧ ki cv b ∧ q (.d (.bool b)) M
def rIsED (K : PySem.W.Frag) (D a : Addr) (d : Option Addr) : List V → Hp → VK → Prop := fun xs H Q => ∃ (c : V) (cv : Value) (b : Bool), xs = [.ref a, c] ∧ (∀ u, RelV c u → u = cv) ∧ PySem.W.kitOne K (.ref D) cv = some b ∧
  (∀ dd, d = some dd → ∃ vs, H dd = some (.xd vs)) ∧ Q (.bl b) H
theorem call_isED {a D : Addr} {oe : Obj} {d : Option Addr} {pn : List (Addr × Obj)} (C : ExcC X.K D) (hz : Zc (.ref D) d oe) (hf : ∃ vs, oe.data = .fields vs) : CallR (X.suite a ((a, oe) :: pn)) (.builtin "isinstance") (rIsED X.K D a d) := by
  intro pins s σ H xs us Q I r h
  obtain ⟨c, cv, b, rfl, hcv, e, hd, q⟩ := h
  cases r with
  | cons rx rr =>
    cases rr with
    | cons rt rr =>
      cases rr
      cases rx
      have ec := hcv _ rt
      subst ec
      obtain ⟨hget, _⟩ := I.pin (a, oe) (List.mem_append.mpr (.inl List.mem_cons_self))
      obtain ⟨vs, hv⟩ := hf
      have J : ∃ od, PySem.W.InstAt s.heap a oe D od := by
        cases d with
        | none =>
          obtain ⟨oc, od, oda, osl⟩ := oe
          obtain ⟨h1, h2⟩ := hz
          dsimp only at h1 h2 hv
          subst h1 h2 hv
          exact ⟨none, hget, rfl, rfl, trivial⟩
        | some dd =>
          obtain ⟨ws, hw⟩ := hd dd rfl
          have hx : ObjOk X.prog X.w H s.heap dd (.xd ws) := I.hok dd _ hw
          obtain ⟨mA, hns, hr⟩ := hx
          obtain ⟨od, ho, hl⟩ := lookIn_ns hns
          exact ⟨some od, hget, hz.1, by unfold PySem.W.notCls; rw [hv] <;> rfl, by rw [hz.2]; exact ho⟩
      obtain ⟨od, J⟩ := J
      have hcl : (PySem.W.clsIn X.K D).isSome = true := by
        obtain ⟨cd, hc, _⟩ := PySem.W.any_some C.hd
        rw [hc]
        rfl
      exact PySem.W.kia_one (PySem.W.kitx_exc hcl C.hg C.hk C.hs C.ha C.hn C.ht C.hm) I.kIn J e (fun z => nomatch z) fun tk => ⟨.bl b, H, I.kept (t' := tk) fun _ _ z => z, rfl, q⟩
theorem call_isEC {a D : Addr} {oe : Obj} {cls : Value} {d : Option Addr} {pn : List (Addr × Obj)} (C : ExcC X.K D) (hz : Zc cls d oe) (hf : ∃ vs, oe.data = .fields vs) :
    CallR (X.suite a ((a, oe) :: pn)) (.builtin "isinstance") (fun xs H Q => cls = .ref D ∧ rIsED X.K D a d xs H Q) := by
  intro pins s σ H xs us Q I r h
  obtain ⟨rfl, h⟩ := h
  exact call_isED C hz hf pins s σ H xs us Q I r h
def dIsX (a : Addr) (cls : Value) (D : Addr) (ki : Value → Bool → Prop) (dd : DA) : DE := fun η M q => cls = .ref D ∧ dd η M fun ls M1 => isXW a ki ls M1 q
theorem px_isX {a D : Addr} {oe : Obj} {cls : Value} {d : Option Addr} {pn : List (Addr × Obj)} {fs : List (Str × L)} {e1 e2 : Expr} {dd : DA} {ki : Value → Bool → Prop} {p pos : Pos} (C : ExcC X.K D) (hz : Zc cls d oe) (hf : ∃ vs, oe.data = .fields vs) (hx : XAt X.K G.1 d fs)
    (hki : ∀ cv b, ki cv b → PySem.W.kitOne X.K (.ref D) cv = some b) (hm : X.mg "isinstance" = none) (ha : PXA (X.suite a ((a, oe) :: pn)) G [e1, e2] dd) (hg : Gl X "isinstance" := by rfl)
    (he : starEach (e1 :: [e2]) X.env = (false, eval e1 X.env) :: starEach [e2] X.env := by rfl) (hpl : (backTo pos (starEach [e2] X.env)).any (·.1) = false := by rfl) :
    PX (X.suite a ((a, oe) :: pn)) G (.Call (.Name "isinstance" p) [e1, e2] [] pos) (dIsX a cls D ki dd) := by
  refine pe_imp (pe_callB (X := X.suite a ((a, oe) :: pn)) (call_isEC C hz hf) hg hm boot_isinstance ha (by decide) (by decide) he hpl) ?_
  rintro σ H Q ⟨F, R, η, M, q, hG, A, E, ⟨hcl, h⟩, c⟩
  refine la_bind hG A E h fun ls M1 vs H1 F1 g1 s1 A1 E1 r1 h1 => ?_
  obtain ⟨w, cv, b, rfl, h2, h3, h4⟩ := h1
  obtain ⟨v1, v2, rfl, ra, rb⟩ := lrs2 r1
  obtain rfl : v1 = .ref a := ra
  obtain rfl : v2 = w := rb
  refine ⟨hcl, v2, cv, b, rfl, fun u ru => clsV_rel h2 ru, hki _ _ h3, fun dd hd => ?_, c.mono s1 |>.plain A1 (.bl b) h4⟩
  rcases hx with hx | ⟨dd', vs, e1, e2, _⟩
  · rw [hx.2] at hd
    cases hd
  · rw [hd] at e1
    cases e1
    exact ⟨vs, A1.fz _ _ (g1.1 _ _ e2)⟩
end
end DL
end
section
/-! a def that may raise, called by keywords or without arguments; nothing is let out -/
namespace DL
open PySem PySem.Spec PyProof.Rows L2
section
variable {X : Cx} {G : GH} {CX : CXT} {k : Nat} {f : Addr} {fd : FuncData} {ps ks : List Str} {sp : Sp} {n : Nat} {dsp : DSpX} {x : Str} {p pos : Pos} {e : Expr} {es : List Expr} {kws : List Keyword} {dd : DA} {wd : Ev → DXQ} {tk : TA} {E : L2.St → XK}
  {g : List Value → List Value → List Value} {gV : List V → List V → List V} {gL : List L → List L}
theorem takesF : Takes X (LW X.K G fun _ _ _ _ => False) := (takes0 (X := X)).imp fun cls d σ H ⟨_, _, _, _, _, _, _, _, _, z⟩ => z
theorem run_GS {pins : List (Addr × Obj)} {σ : L2.St} {H : Hp} {s : Shared} {Q : VK} {us : List Value} {args : Args} {vs : List V}
    (F : FnG X.prog X.w X.K X.mg X.base CX k f fd ps sp) (hr : RoomG k X.A) (hx : PassesAt CX X σ (E σ))
    (I : Inv X pins σ H s) (hb : BindsTo s fd args (ps.zip us)) (r : Vals vs us) (h : sp vs H Q (E σ)) :
    wpAny (model X.prog X.w) X.A (call (.ref f) args.pos args.kw) (EP X pins σ Q) X.xe s := by
  refine wpAny_call (codeAny_mono (F.run X.A X.stack s H args us vs Q (E σ) hr I.env0 hb r h) ?_)
  intro r s' hq
  match r, hq with
  | .error e, hq => exact hx pins H s e s' I hq
  | .ok (.ret u), hq => exact I.after hq
def tCallKS (sp : Sp) (gV : List V → List V → List V) (E : L2.St → XK) (tk : TA) : TE := fun σ H Q => tk σ H fun zs H1 => sp (gV [] zs) H1 Q (E σ)
theorem pe_callK0GS (F : FnG X.prog X.w X.K X.mg X.base CX k f fd ps sp) (hr : RoomG k X.A) (hg : Gl X x) (hm : X.mg x = some (.ref f))
    (hk : PySem.W.keepIn X.K (.ref f) = true) (hb : KBinds X.K fd ps ks g gV) (hx : ∀ σ, PassesAt CX X σ (E σ)) (hkw : PK X kws tk)
    (hall : (backToKw pos (keywordEach kws X.env)).all (·.1.isSome) = true := by rfl)
    (hks : (backToKw pos (keywordEach kws X.env)).filterMap (·.1) = ks := by rfl)
    (hdb : (x == ("__debug__" : Str)) = false := by decide)
    (hpl : ((backTo pos (starEach [] X.env)).any (·.1) || (backToKw pos (keywordEach kws X.env)).any (·.1.isNone)) = false := by rfl) :
    PE X (.Call (.Name x p) [] kws pos) (tCallKS sp gV E tk) := by
  constructor
  intro pins s σ H Q I h
  refine wpAny_Call_Name_kw (ld_glob I hg hm ?_ hdb)
  refine PySem.W.callWith_KW0 (h₀ := X.base) I.ok.mod.kin hk hall (thn (hkw.run pos pins s σ H _ I h) ?_) hpl
  rintro ws s2 ⟨zs, H2, I2, rz, q2⟩
  refine ⟨I2.kIn, ?_⟩
  rw [hks]
  have r2 := hb.rel (vs := []) (us := []) .nil rz
  exact run_GS (args := ⟨[], ks.zip ws⟩) F hr (hx σ) I2 (hb.to _ [] ws I2.kIn (r2.length.symm.trans (F.len _ _ _ _ q2))) r2 q2
def dCallKX (n : Nat) (dsp : DSpX) (wd : Ev → DXQ) (g : List L → List L) (dd : DA) : DE := fun η M q => dd η M fun ls M1 => (g ls).length = n ∧ dsp (g ls) M1 q (wd η)
theorem px_callKX (Fn : FnG X.prog X.w X.K X.mg X.base (L2.CX X.prog X.w) k f fd ps (LSpX X.K n dsp)) (tk : Takes X (LW X.K G wd)) (hr : RoomG k X.A) (hm : X.mg x = some (.ref f)) (hk : PySem.W.keepIn X.K (.ref f) = true)
    (hb : KBinds X.K fd ps ks g gV) (hL : ∀ F vs ls, LRs X.K F vs ls → LRs X.K F (gV [] vs) (gL ls)) (hkw : PXK X G kws dd)
    (hg : Gl X x := by rfl) (hall : (backToKw pos (keywordEach kws X.env)).all (·.1.isSome) = true := by rfl)
    (hks : (backToKw pos (keywordEach kws X.env)).filterMap (·.1) = ks := by rfl) (hdb : (x == ("__debug__" : Str)) = false := by decide)
    (hpl : ((backTo pos (starEach [] X.env)).any (·.1) || (backToKw pos (keywordEach kws X.env)).any (·.1.isNone)) = false := by rfl) : PX X G (.Call (.Name x p) [] kws pos) (dCallKX n dsp wd gL dd) := by
  refine pe_imp (pe_callK0GS Fn hr hg hm hk hb (E := WE (LW X.K G wd)) (passAt tk) hkw hall hks hdb hpl) ?_
  rintro σ H Q ⟨F, R, η, M, q, hG, A, E, h, c⟩
  refine la_bind hG A E h fun ls M1 vs H1 F1 g1 s1 A1 E1 r1 h1 => ?_
  refine ⟨F1, R, M1, _, q, wd η, A1, hL F1 vs ls r1, h1.1, h1.2, c.mono s1, ?_⟩
  exact fun cls d fs M2 H2 F2 s2 A2 x2 h2 => ⟨F2, R, η, M2, fs, g1.trans s2, A2, E1.mono s2, x2, h2⟩
end
end DL
end
section
/-! sorted: of ints, of tuples of as many ints -/
namespace DL
open PySem PySem.Spec PyProof.Rows L2
theorem RpA.perm {K : PySem.W.Frag} {F : Hp} {ys vs : List V} (p : ys.Perm vs) : ∀ {ds : List PyData}, RpA K F vs ds → ∃ es, es.Perm ds ∧ RpA K F ys es := by
  induction p with
  | nil => exact fun h => ⟨_, List.Perm.refl _, h⟩
  | cons x _ ih =>
    intro ds h
    cases h with
    | cons r t =>
      obtain ⟨es, e, h⟩ := ih t
      exact ⟨_, e.cons _, .cons r h⟩
  | swap x y l =>
    intro ds h
    cases h with
    | cons r t =>
      cases t with
      | cons r2 t => exact ⟨_, List.Perm.swap _ _ _, .cons r2 (.cons r t)⟩
  | trans _ _ ih1 ih2 =>
    intro ds h
    obtain ⟨es, e, h⟩ := ih2 h
    obtain ⟨es2, e2, h2⟩ := ih1 h
    exact ⟨es2, e2.trans e, h2⟩
def sortIW : PyData → (PyData → Prop) → Prop
  | .list xs, q => ∃ ns, intsD xs = some ns ∧ ns.length < 64 ∧ ∀ ns' : List Int, ns'.Perm ns → ns'.Pairwise (· ≤ ·) → q (.list (ns'.map .int))
  | _, _ => False
section
variable {X : Cx}
theorem cd_sortI : CallD X.K (rSorted X.K) (d1 sortIW) := by
  rintro F R M H xs ls q Q A rr ⟨a, x, rfl, e, h⟩ c
  obtain ⟨v, rfl, r⟩ := lrs1 rr
  cases x with
  | list ds =>
    obtain ⟨ns, e1, h64, h⟩ := h
    obtain ⟨p, vs, rfl, s, r2⟩ := rd_list A r e
    have i1 := intsD_rep e1 r2
    subst i1
    refine ⟨p, ns, rfl, s.l, h64, fun ns' p' h1 h2 hp => ?_⟩
    refine c.lst A hp (ds := ns'.map PyData.int) ?_ (h ns' h1 h2)
    clear h1 h2
    induction ns' with
    | nil => exact .nil
    | cons z zs ih => exact .cons (.int z) ih
  | _ => exact h.elim
/-- a tuple of d ints, none of them greater than B in size -/
def TupD (d : Nat) (B : Int) (x : PyData) : Prop := ∃ ns : List Int, x = .tuple (ns.map .int) ∧ ns.length = d ∧ TS.Bd B ns
def codeD (B : Int) : PyData → Int
  | .tuple xs => TS.code B ((intsD xs).getD [])
  | _ => 0
def sortTW (d : Nat) (B : Int) : PyData → (PyData → Prop) → Prop
  | .list xs, q => xs.length < 64 ∧ (∀ x ∈ xs, TupD d B x) ∧ ∀ ys : List PyData, ys.Perm xs → ys.Pairwise (fun x y => codeD B x ≤ codeD B y) → q (.list ys)
  | _, _ => False
theorem RpA.memD {K : PySem.W.Frag} {F : Hp} : ∀ {vs : List V} {ds : List PyData}, RpA K F vs ds → ∀ d ∈ ds, ∃ v ∈ vs, Rp K F v d
  | _, _, .nil, d, h => by cases h
  | _, _, .cons r t, d, h => by
    rcases List.mem_cons.mp h with rfl | h
    · exact ⟨_, List.mem_cons_self, r⟩
    · obtain ⟨v, hv, rv⟩ := RpA.memD t d h
      exact ⟨v, List.mem_cons_of_mem _ hv, rv⟩
theorem RpA.memV {K : PySem.W.Frag} {F : Hp} : ∀ {vs : List V} {ds : List PyData}, RpA K F vs ds → ∀ v ∈ vs, ∃ d ∈ ds, Rp K F v d
  | _, _, .nil, d, h => by cases h
  | _, _, .cons r t, d, h => by
    rcases List.mem_cons.mp h with rfl | h
    · exact ⟨_, List.mem_cons_self, r⟩
    · obtain ⟨v, hv, rv⟩ := RpA.memV t d h
      exact ⟨v, List.mem_cons_of_mem _ hv, rv⟩
theorem tupI_of {K : PySem.W.Frag} {F : Hp} {v : V} {ns : List Int} (r : Rp K F v (.tuple (ns.map .int))) : TupI K F v ns := by
  cases r with
  | tup hs ha =>
    have := intsD_rep (intsD_map ns) ha
    subst this
    exact ⟨_, rfl, hs.sq⟩
theorem codeD_t {B : Int} {ns : List Int} : codeD B (.tuple (ns.map .int)) = TS.code B ns := by
  show TS.code B ((intsD (ns.map .int)).getD []) = _
  rw [intsD_map]
  rfl
theorem sort_pw {K : PySem.W.Frag} {F : Hp} {d : Nat} {B : Int} : ∀ {ys : List V} {es : List PyData}, RpA K F ys es → (∀ e ∈ es, TupD d B e) → ys.Pairwise (fun x y => ∀ n m, TupI K F x n → TupI K F y m → TS.code B n ≤ TS.code B m) → es.Pairwise (fun x y => codeD B x ≤ codeD B y)
  | _, _, .nil, _, _ => .nil
  | _, _, .cons r t, ht, hp => by
    rw [List.pairwise_cons] at hp ⊢
    refine ⟨fun e he => ?_, sort_pw t (fun e he => ht e (List.mem_cons_of_mem _ he)) hp.2⟩
    obtain ⟨v, hv, rv⟩ := t.memD e he
    obtain ⟨ns, rfl, _, _⟩ := ht _ List.mem_cons_self
    obtain ⟨ms, rfl, _, _⟩ := ht e (List.mem_cons_of_mem _ he)
    have := hp.1 v hv ns ms (tupI_of r) (tupI_of rv)
    rw [codeD_t, codeD_t]
    exact this
theorem cd_sortT {d : Nat} {B : Int} : CallD X.K (rSortU X.K d B) (d1 (sortTW d B)) := by
  rintro F R M H xs ls q Q A rr ⟨a, x, rfl, e, h⟩ c
  obtain ⟨v, rfl, r⟩ := lrs1 rr
  cases x with
  | list ds =>
    obtain ⟨h64, ht, h⟩ := h
    obtain ⟨p, vs, rfl, s, r2⟩ := rd_list A r e
    refine ⟨p, vs, rfl, s.l, by rw [r2.length]; exact h64, fun x hx => ?_, fun ys p' h1 h2 hp => ?_⟩
    · obtain ⟨dx, hd, rx⟩ := r2.memV x hx
      obtain ⟨ns, rfl, hl, hb⟩ := ht dx hd
      exact ⟨ns, tupI_of (rx.mono A.fz), hl, hb⟩
    · obtain ⟨es, he, rr⟩ := r2.perm h1
      exact c.lst A hp rr (h es he (sort_pw (rr.mono A.fz) (fun e hm => ht e (he.mem_iff.mp hm)) h2))
  | _ => exact h.elim
theorem cr_sortA : CallR X (.builtin "sorted") (fun xs H Q => rSorted X.K xs H Q ∨ rSortU X.K 2 1000 xs H Q) := by
  intro pins s σ H xs us Q I r h
  rcases h with h | h
  · exact cr_sorted pins s σ H xs us Q I r h
  · exact cr_sortT (by decide) pins s σ H xs us Q I r h
/-- ints, or pairs of ints below 1000 -/
def sortAW (x : PyData) (q : PyData → Prop) : Prop := sortIW x q ∨ sortTW 2 1000 x q
theorem cd_sortA : CallD X.K (fun xs H Q => rSorted X.K xs H Q ∨ rSortU X.K 2 1000 xs H Q) (d1 sortAW) := by
  rintro F R M H xs ls q Q A rr ⟨a, x, rfl, e, h⟩ c
  rcases h with h | h
  · exact .inl (cd_sortI F R M H xs _ q Q A rr ⟨a, x, rfl, e, h⟩ c)
  · exact .inr (cd_sortT F R M H xs _ q Q A rr ⟨a, x, rfl, e, h⟩ c)
end
end DL
end
section
/-! list(range(..)) -/
namespace DL
open PySem PySem.Spec PyProof.Rows L2
section
variable {X : Cx} {G : GH} {a b e : Expr} {da db : DE} {p p0 p2 pos : Pos}
def dListR1 (da : DE) : DE := fun η M q => da η M fun l M1 => ∃ n : Nat, l = .d (.int n) ∧ n ≤ 16777216 ∧ q (.d (.list (rangeD 0 n))) M1
theorem px_listR1 (hc : X.calm = true) (hm : X.mg "list" = none) (hr : X.mg "range" = none) (ha : PX X G a da) (hg : Gl X "list" := by rfl) (hg2 : Gl X "range" := by rfl)
    (na : starEach [a] X.env = (false, eval a X.env) :: starEach [] X.env := by rfl) (na2 : starEach [.Call (.Name "range" p0) [a] [] p2] X.env = (false, eval (.Call (.Name "range" p0) [a] [] p2) X.env) :: starEach [] X.env := by rfl) :
    PX X G (.Call (.Name "list" p) [.Call (.Name "range" p0) [a] [] p2] [] pos) (dListR1 da) := by
  refine pe_imp (pe_listRg hc hg hm (prg_1 hg2 hr ha na) na2) ?_
  rintro σ H Q ⟨F, R, η, M, q, hG, A, E, h, c⟩
  refine le_bind hG A E h fun l M1 v H1 F1 g1 s1 A1 E1 r1 h1 => ?_
  obtain ⟨n, rfl, hn, h1⟩ := h1
  obtain rfl : v = .int n := by cases r1; rfl
  refine ⟨n, rfl, RgOk.of_le (Int.le_refl _) (by omega) (by omega) (by omega), fun p' hp => ?_⟩
  refine (c.mono s1).lst A1 hp (ds := rangeD 0 n) ?_ h1
  unfold rgV rangeD
  rw [show ((n : Int) - 0).toNat = n by omega]
  generalize List.range n = ks
  induction ks with
  | nil => exact .nil
  | cons z zs ih => exact .cons (.int _) ih
end
end DL
end
section
/-! [*a, *b] -/
namespace DL
open PySem PySem.Spec PyProof.Rows L2
section
variable {X : Cx} {G : GH} {e : Expr} {es : List Expr} {de : DE} {dd : DA} {p : Pos}
def daStar (de : DE) (dd : DA) : DA := fun η M q => de η M fun l M1 => ∃ ds, (rd M1 l = some (.list ds) ∨ rd M1 l = some (.tuple ds)) ∧ dd η M1 fun ls M2 => q (ds.map L.d ++ ls) M2
theorem LRs.app {K : PySem.W.Frag} {F : Hp} {vs ws : List V} {ls ms : List L} (h : LRs K F vs ls) (k : LRs K F ws ms) : LRs K F (vs ++ ws) (ls ++ ms) := by
  induction h with
  | nil => exact k
  | cons r _ ih => exact .cons r ih
theorem pxa_star (he : PX X G e de) (hr : PXA X G es dd) (hs : starEach (.Starred e p :: es) X.env = (true, eval e X.env) :: starEach es X.env := by rfl) : PXA X G (.Starred e p :: es) (daStar de dd) := by
  refine pa_imp (StX.pa_star he hr hs) ?_
  rintro σ H Q ⟨F, R, η, M, q, hG, A, E, h, c⟩
  refine le_bind hG A E h fun l M1 v H1 F1 g1 s1 A1 E1 r1 h1 => ?_
  obtain ⟨ds, hd, h1⟩ := h1
  have fin : ∀ (pp : Addr) (vs : List V), RpA X.K F1 vs ds → LA X.K G dd σ H1 fun ys H2 => Q (vs ++ ys) H2 := fun pp vs ra =>
    la_bind g1 A1 E1 h1 fun ls M2 ws H2 F2 g2 s2 A2 E2 r2 h2 => c _ M2 _ H2 F2 (s1.trans s2) A2 (LRs.app (LRs.of_data (ra.mono s2)) r2) h2
  rcases hd with hd | hd
  · obtain ⟨pp, vs, rfl, s, ra⟩ := rd_list A1 r1 hd
    exact ⟨pp, vs, rfl, .inr s.l, fin pp vs ra⟩
  · obtain ⟨pp, vs, e1, s, ra⟩ := rd_tuple A1 r1 hd
    subst e1
    exact ⟨pp, vs, rfl, .inl s, fin pp vs ra⟩
end
end DL
end
section
/-! list(x): a new list that will be changed -/
namespace DL
open PySem PySem.Spec PyProof.Rows L2
section
variable {X : Cx} {G : GH} {e : Expr} {de : DE} {p pos : Pos}
def dListM (de : DE) : DE := fun η M q => de η M fun l M1 => ∃ ds, (rd M1 l = some (.list ds) ∨ rd M1 l = some (.tuple ds)) ∧ ∀ a, M1 a = none → q (.p a) (updM M1 a (.lst (ds.map L.d)))
theorem px_listM (hm : X.mg "list" = none) (ha : PX X G e de) (hg : Gl X "list" := by rfl)
    (he : starEach (e :: []) X.env = (false, eval e X.env) :: starEach [] X.env := by rfl) (hpl : (backTo pos (starEach [] X.env)).any (·.1) = false := by rfl) : PX X G (.Call (.Name "list" p) [e] [] pos) (dListM de) := by
  refine pe_imp (pe_callTy call_list_of hg hm boot_list (pa_cons ha pa_nil (hs := he)) (by decide) (by decide) he hpl) ?_
  rintro σ H Q ⟨F, R, η, M, q, hG, A, E, h, c⟩
  refine le_bind hG A E h fun l M1 v H1 F1 g1 s1 A1 E1 r1 h1 => ?_
  obtain ⟨ds, hd, h1⟩ := h1
  rcases hd with hd | hd
  · obtain ⟨pp, vs, rfl, s, ra⟩ := rd_list A1 r1 hd
    exact ⟨pp, vs, rfl, .inl s.l, fun a hp => c (.p a) _ (.ref a) _ F1 s1 (A1.new (m := .lst (ds.map L.d)) hp ⟨vs, upd_same, LRs.of_data ra⟩) rfl (h1 a (A1.freeM hp))⟩
  · obtain ⟨pp, vs, e1, s, ra⟩ := rd_tuple A1 r1 hd
    subst e1
    exact ⟨pp, vs, rfl, .inr s, fun a hp => c (.p a) _ (.ref a) _ F1 s1 (A1.new (m := .lst (ds.map L.d)) hp ⟨vs, upd_same, LRs.of_data ra⟩) rfl (h1 a (A1.freeM hp))⟩
end
end DL
end
section
set_option maxHeartbeats 2000000
namespace CB
open PySem PySem.Spec PyProof.Rows
open Sem (wp)
def StC (it p : Addr) (acc : Array Value) (n : Nat) (i : Nat) (h : Heap) : Prop := PoolAt h p acc ∧ ((i = 0 ∧ CAt h it p 0 .none [0, 1]) ∨ (0 < i ∧ ∃ res, CAt h it p 1 res ((placesC n).getD (i - 1) [])))
theorem typeIs_cb {s : Shared} {it p : Addr} {st : Int} {res : Value} {idx : List Nat} (h : CAt s.heap it p st res idx) : s.TypeIs (.ref it) "itertools.combinations" := ⟨_, h, rfl⟩
theorem stc_type {s : Shared} {it p : Addr} {acc : Array Value} {n i : Nat} (h : StC it p acc n i s.heap) : s.TypeIs (.ref it) "itertools.combinations" := by
  rcases h.2 with ⟨_, h⟩ | ⟨_, _, h⟩ <;> exact typeIs_cb h
theorem stc_lt {h : Heap} {it p : Addr} {acc : Array Value} {n i : Nat} (st : StC it p acc n i h) : it < h.objs.size := by
  rcases st.2 with ⟨_, e⟩ | ⟨_, _, e⟩ <;> exact Heap.lt_size e
theorem src_cb {prog : Program} {w : World} {A : Around} {it p : Addr} {acc : Array Value} {n : Nat} (hh : A.handled = none) (hne : p ≠ it) (hz : acc.size = n) (hn : n < 13) (hn2 : 2 ≤ n) :
    Src prog w A "itertools.combinations" it (placesC n).length (fun i => pickV acc ((placesC n).getD i [])) [it, p] (StC it p acc n) where
  mem := by simp
  frame := fun i h h' st hk => ⟨hk p (by simp) _ st.1, st.2.imp (fun ⟨a, b⟩ => ⟨a, hk it (by simp) _ b⟩) fun ⟨a, res, b⟩ => ⟨a, res, hk it (by simp) _ b⟩⟩
  there := fun i h st b hb => by
    rcases List.mem_cons.mp hb with rfl | hb
    · exact stc_lt st
    · rw [List.mem_singleton.mp hb]
      exact Heap.lt_size st.1
  type := fun i s st => stc_type st
  notList := by decide
  notTuple := by decide
  nolen := nolen_cb
  nohint := nohint_cb
  self := fun i s B Q E st hQ => by
    have hT := stc_type st
    refine wpAny_pyIter_slot hT slot_cb_iter (wpAny_call_entry slot_cb_iter hT entry_cb_iter ?_ (args_cb_iter _))
    show wpAny _ _ (ret (.ref it)) _ _ s
    exact wpAny_pure ⟨_, rfl, "itertools.combinations", _, hT, slot_cb_next.lookup, hQ⟩
  item := fun i s Q E hi st hQ => by
    have hT := stc_type st
    unfold pyNext
    refine wpAny_bind (wpAny_attempt (wpAny_callSpecial?_slot (name := Str.ofString "__next__") hT slot_cb_next (wpAny_call_entry slot_cb_next hT entry_cb_next ?_ (args_cb_next _))))
    rcases st with ⟨sp, ⟨rfl, sc⟩ | ⟨h0, res, sc⟩⟩
    · have e0 : (placesC n).getD 0 [] = [0, 1] := by
        clear hi hT sp sc hQ hz
        revert hn2; revert hn; revert n
        decide +kernel
      refine cb_next0 sc sp hne (by decide) fun h' a b c => wpAny_pure (hQ h' ⟨c p _ hne sp, .inr ⟨by omega, .ref s.heap.objs.size, ?_⟩⟩ ?_ c)
      · rw [Nat.zero_add, Nat.sub_self, e0]; exact a
      · rw [e0]; exact b
    · have e1 : i - 1 + 1 = i := by omega
      have ha : A.in1.handled = none := hh
      refine cb_next1 (i := i - 1) sc sp hne hz hn (by omega) fun h' a b c => wpAny_pure (hQ h' ⟨c p _ hne sp, .inr ⟨by omega, .ref s.heap.objs.size, ?_⟩⟩ ?_ c)
      · rw [e1] at a; rw [Nat.add_sub_cancel]; exact a
      · rw [e1] at b; exact b
  done := fun s Q E st hQ => by
    have hT := stc_type st
    unfold pyNext
    refine wpAny_bind (wpAny_attempt (wpAny_callSpecial?_slot (name := Str.ofString "__next__") hT slot_cb_next (wpAny_call_entry slot_cb_next hT entry_cb_next ?_ (args_cb_next _))))
    have hl : 0 < (placesC n).length := by
      clear hT st hQ hz
      revert hn2; revert hn; revert n
      decide +kernel
    rcases st with ⟨sp, ⟨h0, sc⟩ | ⟨h0, res, sc⟩⟩
    · omega
    · refine cb_end (i := (placesC n).length - 1) hh sc sp hne hz hn (by omega) fun e h' he hx => ?_
      obtain ⟨a, o, vs, rfl, ho, hc, _⟩ := he
      refine wpAny_bind (wpAny_isInstance (T := "StopIteration") (b := true) ⟨o, ho, hc⟩ isSubtype_stop ?_)
      exact wpAny_pure (hQ _ hx)
end CB

namespace L2
open PySem PySem.Spec PyProof.Rows
/-- many new things at once -/
theorem inv_news {X : Cx} {pins : List (Addr × Obj)} {σ : St} {H H' : Hp} {s : Shared} {h' : Heap} {t' : Nat} (I : Inv X pins σ H s) (k : ∀ b u, s.heap.get? b = some u → h'.get? b = some u)
    (same : ∀ b, b < s.heap.objs.size → H' b = H b) (new : ∀ a o, s.heap.objs.size ≤ a → H' a = some o → ObjOk X.prog X.w H' h' a o) : Inv X pins σ H' { s with heap := h', toks := t' } := by
  have up : ∀ b u, H b = some u → H' b = some u := fun b u e => (same b (I.hok.lt e)).trans e
  refine I.un ⟨fun b o e _ _ _ => k b o e, fun b o e _ _ _ => ⟨o.slots, k b o e⟩, fun b o e n _ => (same b (Heap.lt_size e)).trans n, fun b o e _ => ⟨o, k b o e⟩, fun b xs e => up b _ e, fun b o u e => up b _ e, fun b ps e => ⟨#[], by rw [up b _ e]; simp⟩⟩ ?_
  intro b u e
  rcases Nat.lt_or_ge b s.heap.objs.size with hb | hb
  · rw [same b hb] at e
    exact (I.hok b u e).stay (fun c v _ q => k c v q) (fun c q => up c _ q) fun c xs q => up c _ q
  · exact new b u hb e
/-- new tuples -/
def updT (os : Addr → Obj) : Hp → List Addr → List (List V) → Hp
  | H, a :: as, v :: vs => updT os (upd H a (.frz (os a) (.tup v))) as vs
  | H, _, _ => H
theorem updT_other {os : Addr → Obj} : ∀ (as : List Addr) (vs : List (List V)) (H : Hp) (b : Addr), b ∉ as → updT os H as vs b = H b
  | [], [], _, _, _ => rfl
  | [], _ :: _, _, _, _ => rfl
  | _ :: _, [], _, _, _ => rfl
  | a :: as, v :: vs, H, b, h => by
    rw [List.mem_cons, not_or] at h
    show updT os (upd H a (.frz (os a) (.tup v))) as vs b = H b
    rw [updT_other as vs _ b h.2, upd_ne h.1]
theorem updT_at {os : Addr → Obj} : ∀ (as : List Addr) (vs : List (List V)) (H : Hp) (j : Nat) (a : Addr) (v : List V), as.Nodup → as[j]? = some a → vs[j]? = some v → updT os H as vs a = some (.frz (os a) (.tup v))
  | [], _, _, _, _, _, _, h, _ => by simp at h
  | _ :: _, [], _, _, _, _, _, _, h => by simp at h
  | x :: as, y :: vs, H, 0, a, v, hn, h1, h2 => by
    have e1 : x = a := by simpa using h1
    have e2 : y = v := by simpa using h2
    subst e1 e2
    show updT os (upd H x (.frz (os x) (.tup y))) as vs x = _
    rw [updT_other as vs _ x (List.nodup_cons.mp hn).1, upd_same]
  | x :: as, y :: vs, H, j + 1, a, v, hn, h1, h2 => updT_at as vs _ j a v (List.nodup_cons.mp hn).2 (by simpa using h1) (by simpa using h2)
end L2
end
section
set_option maxHeartbeats 2000000
namespace L2
open PySem PySem.Spec PyProof.Rows CB
/-- the tuples of all pairs of the ints a, a + 1, .. -/
def tupsC (a : Int) (n : Nat) : List (List V) := (placesC n).map fun idx => idx.map fun i => V.int (a + (i : Nat))
def tLstCb (te : St → Hp → (Int → Int → Hp → Prop) → Prop) : TE := fun σ H Q => te σ H fun a b H1 => ∃ n : Nat, b - a = n ∧ 2 ≤ n ∧ n < 13 ∧ -1000 ≤ a ∧ a ≤ 1000 ∧
  ∀ (as : List Addr) q (os : Addr → Obj), (∀ a, os a = { os a with cls := .type "tuple", dict := none }) → as.Nodup → as.length = (placesC n).length → (∀ x ∈ as, H1 x = none) → H1 q = none → q ∉ as → Q (.ref q) (upd (updT os H1 as (tupsC a n)) q (.lst (as.map V.ref)))
theorem pick_vals {a : Int} {n : Nat} {acc : Array Value} (h : ItemsOf (fun i v => ∃ t, v = .int (a + i * 1) t) acc n) : ∀ {idx : List Nat}, (∀ i ∈ idx, i < n) → Vals (idx.map fun i => V.int (a + (i : Nat))) (pickV acc idx)
  | [], _ => .nil
  | i :: r, hi => by
    have hlt := hi i List.mem_cons_self
    have e : acc[i]? = some acc[i]! := by
      rw [Array.getElem?_eq_getElem (by rw [h.1]; exact hlt), getElem!_pos acc i (by rw [h.1]; exact hlt)]
    obtain ⟨t, ht⟩ := h.2 i _ e
    refine .cons ?_ (pick_vals h fun j hj => hi j (List.mem_cons_of_mem _ hj))
    show RelV (V.int (a + (i : Nat))) (acc.getD i .none)
    have e2 : acc.getD i .none = acc[i]! := by
      unfold Array.getD
      rw [dif_pos (by rw [h.1]; exact hlt), getElem!_pos acc i (by rw [h.1]; exact hlt)]
      rfl
    rw [e2, ht, Int.mul_one]
    exact ⟨t, rfl⟩
theorem places_len : ∀ n, n < 13 → (placesC n).length ≤ 66 := by decide +kernel
theorem places_in : ∀ n, n < 13 → ∀ idx ∈ placesC n, ∀ i ∈ idx, i < n := by decide +kernel
theorem places_two : ∀ n, n < 13 → ∀ idx ∈ placesC n, idx.length = 2 := by decide +kernel
theorem vals_refs' : ∀ as : List Addr, Vals (as.map V.ref) (as.map Value.ref)
  | [] => .nil
  | _ :: r => .cons rfl (vals_refs' r)
theorem small_cb {a b : Int} (h1 : -1000 ≤ a) (h2 : a ≤ 1000) (h3 : b - a ≤ 13) (h4 : 0 ≤ b - a) : Builtin.Range.small a b 1 = true := small_one (by omega) (by omega) (by omega) (by omega)
section
variable {X : Cx} {e : Expr} {te : St → Hp → (Int → Int → Hp → Prop) → Prop}
theorem pe_listCb {p p1 p2 pos : Pos} {j : Nat} {pk : Pos} (hc : X.calm = true) (hg : Gl X "list") (hm : X.mg "list" = none) (hg2 : Gl X "combinations") (hm2 : X.mg "combinations" = some (.type "itertools.combinations")) (he : PRg X e te)
    (na : starEach [e, .Constant (.int 2) j pk] X.env = (false, eval e X.env) :: starEach [.Constant (.int 2) j pk] X.env := by rfl)
    (nb : starEach [.Constant (.int 2) j pk] X.env = (false, eval (.Constant (.int 2) j pk) X.env) :: starEach [] X.env := by rfl)
    (hp : (backTo p2 (starEach [.Constant (.int 2) j pk] X.env)).any (·.1) = false := by rfl)
    (nc : starEach [.Call (.Name "combinations" p1) [e, .Constant (.int 2) j pk] [] p2] X.env = (false, eval (.Call (.Name "combinations" p1) [e, .Constant (.int 2) j pk] [] p2) X.env) :: starEach [] X.env := by rfl) :
    PE X (.Call (.Name "list" p) [.Call (.Name "combinations" p1) [e, .Constant (.int 2) j pk] [] p2] [] pos) (tLstCb te) := by
  refine ⟨fun pins s σ H Q I h => ?_⟩
  refine Call_ (ld_blt I hg hm boot_list (PyProof.Rows.callWith_type1 (args_cons (Call_ (ld_glob I hg2 hm2 (PyProof.Rows.callWith_type1 (args_cons (thn (he pins s σ H _ I h) fun x s1 ⟨r, a, b, t, u, v, H1, ex, hr, I1, n, hn, h2, h13, la, ha, q⟩ => args_cons (wpAny_Constant_int (args_nil ?_)) nb) na) na hp))) nc) nc))
  subst ex
  refine callType_newIn called_cb (by decide) (typeCall_cb _ _) (newCall_cb _ _) (fun obj => F.args_object_init_3 obj _ _) entry_cb_new (S := fun A R s => wpAny (model X.prog X.w) A.in1 (Builtin.«itertools.combinations.__new__» ⟨[.type "itertools.combinations", .ref r, .int 2 s1.toks], []⟩) (fun fin s' => ∃ v, fin = .done (.ret v) ∧ R (.ok (.ret v)) s') (fun e s' => R (.error e) s') s)
    (.of_wp fun A R s h => wpAny_mono h (fun fin s' ⟨v, e, q⟩ => ?_) fun _ _ z => z) ?_
  · subst e
    exact ⟨_, rfl, q⟩
  have hsz : (-1000 : Int) ≤ a := la
  refine new_cb (n := n) (I1.ok.hd hc) hr (small_cb la ha (by omega) (by omega)) ?_ (by omega) h2 fun h' tk acc hk hacc => ?_
  · rw [rangeSize_nat a b, hn]
    rfl
  have I2 : Inv X pins σ H1 { s1 with heap := h', toks := tk } := I1.kept hk
  have e2 : (h'.push { cls := .type "tuple", data := .seq acc }).objs.size = h'.objs.size + 1 := Heap.size_push ..
  have gp : PoolAt ((h'.push { cls := .type "tuple", data := .seq acc }).push (CObj h'.objs.size 0 .none [0, 1])) h'.objs.size acc := Heap.get?_push_of_some _ (Heap.get?_push_size _ rfl)
  have gi : CAt ((h'.push { cls := .type "tuple", data := .seq acc }).push (CObj h'.objs.size 0 .none [0, 1])) (h'.objs.size + 1) h'.objs.size 0 .none [0, 1] := by
    have : ((h'.push { cls := .type "tuple", data := .seq acc }).push (CObj h'.objs.size 0 .none [0, 1])).get? (h'.push { cls := .type "tuple", data := .seq acc }).objs.size = some (CObj h'.objs.size 0 .none [0, 1]) := Heap.get?_push_size _ rfl
    rw [e2] at this
    exact this
  have hs2 : ((h'.push { cls := .type "tuple", data := .seq acc }).push (CObj h'.objs.size 0 .none [0, 1])).objs.size = h'.objs.size + 2 := by rw [Heap.size_push, e2]
  show _ ∧ _
  refine ⟨⟨_, gi, rfl⟩, args_nil ?_⟩
  refine src_call (W := src_cb (n := n) (I1.ok.hd hc) (Nat.ne_of_lt (Nat.lt_succ_self _)) hacc.1 h13 h2) ⟨gp, .inl ⟨rfl, gi⟩⟩ ?_ fun h3 tk3 acc3 c3 as hk3 hS hl hG hacc3 => ?_
  · rw [sizeLine_eq]
    have := places_len n h13
    omega
  rw [hs2] at hS hG ⊢
  have nd : as.Nodup := hG.rise.imp fun h => Nat.ne_of_lt h
  have hab : ∀ x ∈ as, h'.objs.size + 2 < x := hG.above
  have hL : h'.objs.size + 2 ∉ as := fun z => Nat.lt_irrefl _ (hab _ z)
  have plc : ∀ idx ∈ placesC n, ∀ i ∈ idx, i < n := places_in n h13
  have big : ∀ b, b < h'.objs.size → b ∉ as ∧ b ≠ h'.objs.size + 2 := fun b hb => ⟨fun z => by have := hab b z; omega, by omega⟩
  refine ⟨.ref (h'.objs.size + 2), _, inv_news (s := { s1 with heap := h', toks := tk }) I2 (h' := h3) (t' := tk3) (fun b o e => hk3 b o ?_ (Heap.get?_push_of_some _ (Heap.get?_push_of_some _ e))) (fun b hb => ?_) (fun x o hx e => ?_), rfl, q as _ (fun x => (h3.get? x).getD (tupO []) |> fun o => { o with cls := .type "tuple", dict := none }) (fun _ => rfl) nd hl (fun x hx => I2.hok.fresh ?_) (I2.hok.fresh ?_) hL⟩
  · have h5 : b < h'.objs.size := Heap.lt_size e
    exact Nat.ne_of_lt (Nat.lt_succ_of_lt h5)
  · have := big b hb
    rw [upd_ne this.2, updT_other _ _ _ _ this.1]
  · by_cases hxL : x = h'.objs.size + 2
    · subst hxL
      rw [upd_same] at e
      cases e
      refine ⟨by rw [List.length_map, hl, sizeLine_eq]; have := places_len n h13; omega, acc3.toList, c3, ?_, ?_⟩
      · rw [hacc3]; exact vals_refs' as
      · rw [Array.toArray_toList]; exact hS
    · rw [upd_ne hxL] at e
      by_cases hxa : x ∈ as
      · obtain ⟨j, hj⟩ := List.mem_iff_getElem?.mp hxa
        have hjl : j < (placesC n).length := by
          have := (List.getElem?_eq_some_iff.mp hj).1
          omega
        have hp : (placesC n)[j]? = some ((placesC n).getD j []) := by
          rw [List.getD_eq_getElem?_getD, List.getElem?_eq_getElem hjl]; rfl
        have hm : (placesC n).getD j [] ∈ placesC n := List.mem_of_getElem? hp
        have ht := updT_at (os := fun x => (h3.get? x).getD (tupO []) |> fun o => { o with cls := .type "tuple", dict := none }) as (tupsC a n) H1 j x (((placesC n).getD j []).map fun i => V.int (a + (i : Nat))) nd hj (by unfold tupsC; rw [List.getElem?_map, hp]; rfl)
        rw [ht] at e
        cases e
        have hv := pick_vals hacc (plc _ hm)
        have hx3 := hG.tups j x hj
        refine ⟨?_, by rw [List.length_map, places_two n h13 _ hm, sizeLine_eq]; omega, _, hv, ?_⟩
        · rw [hx3]; rfl
        · exact ⟨_, hx3, rfl, _, rfl⟩
      · rw [updT_other _ _ _ _ hxa, I2.hok.fresh hx] at e
        cases e
  · have := hab x hx
    show h'.objs.size ≤ x
    omega
  · show h'.objs.size ≤ h'.objs.size + 2
    omega
end
end L2
end
section
/-! list(combinations(range(n), 2)) -/
namespace DL
open PySem PySem.Spec PyProof.Rows L2 CB
def combD (n : Nat) : List PyData := (placesC n).map fun idx => .tuple (idx.map fun i => .int (i : Nat))
def dListC (da : DE) : DE := fun η M q => da η M fun l M1 => ∃ n : Nat, l = .d (.int n) ∧ 2 ≤ n ∧ n < 13 ∧ q (.d (.list (combD n))) M1
theorem abs_tups {K : PySem.W.Frag} {R : Hp} {M : Ms} {os : Addr → Obj} : ∀ (as : List Addr) (vs : List (List V)) (F H : Hp), Abs K F R M H → as.Nodup → (∀ x ∈ as, H x = none) → Abs K (updT os F as vs) R M (updT os H as vs) ∧ Same F (updT os F as vs)
  | [], [], F, H, A, _, _ => ⟨A, Same.refl F⟩
  | [], _ :: _, F, H, A, _, _ => ⟨A, Same.refl F⟩
  | _ :: _, [], F, H, A, _, _ => ⟨A, Same.refl F⟩
  | a :: as, v :: vs, F, H, A, hn, hf => by
    have ha := hf a List.mem_cons_self
    have hn' := List.nodup_cons.mp hn
    obtain ⟨A2, s2⟩ := abs_tups (os := os) as vs (upd F a (.frz (os a) (.tup v))) (upd H a (.frz (os a) (.tup v))) (A.frz ha) hn'.2 fun x hx => by
      rw [upd_ne (show x ≠ a from fun e => hn'.1 (by rw [← e]; exact hx))]
      exact hf x (List.mem_cons_of_mem _ hx)
    exact ⟨A2, (same_new (A.freeF ha)).trans s2⟩
theorem rpa_at {K : PySem.W.Frag} {F : Hp} : ∀ {vs : List V} {ds : List PyData}, vs.length = ds.length → (∀ (j : Nat) v d, vs[j]? = some v → ds[j]? = some d → Rp K F v d) → RpA K F vs ds
  | [], [], _, _ => .nil
  | [], _ :: _, h, _ => by simp at h
  | _ :: _, [], h, _ => by simp at h
  | v :: vs, d :: ds, h, f => .cons (f 0 v d rfl rfl) (rpa_at (by simpa using h) fun j x y h1 h2 => f (j + 1) x y (by simpa using h1) (by simpa using h2))
theorem rpa_ints2 {K : PySem.W.Frag} {F : Hp} : ∀ ns : List Int, RpA K F (ns.map V.int) (ns.map PyData.int)
  | [] => .nil
  | n :: ns => .cons (.int n) (rpa_ints2 ns)
section
variable {X : Cx} {G : GH} {a : Expr} {da : DE} {p p0 p1 p2 p3 pk pos : Pos} {j : Nat}
theorem px_listC (hc : X.calm = true) (hm : X.mg "list" = none) (hr : X.mg "range" = none) (hm2 : X.mg "combinations" = some (.type "itertools.combinations")) (ha : PX X G a da)
    (hg : Gl X "list" := by rfl) (hg2 : Gl X "range" := by rfl) (hg3 : Gl X "combinations" := by rfl)
    (na2 : starEach [a] X.env = (false, eval a X.env) :: starEach [] X.env := by rfl)
    (na : starEach [.Call (.Name "range" p0) [a] [] p3, .Constant (.int 2) j pk] X.env = (false, eval (.Call (.Name "range" p0) [a] [] p3) X.env) :: starEach [.Constant (.int 2) j pk] X.env := by rfl)
    (nb : starEach [.Constant (.int 2) j pk] X.env = (false, eval (.Constant (.int 2) j pk) X.env) :: starEach [] X.env := by rfl)
    (hp : (backTo p2 (starEach [.Constant (.int 2) j pk] X.env)).any (·.1) = false := by rfl)
    (nc : starEach [.Call (.Name "combinations" p1) [.Call (.Name "range" p0) [a] [] p3, .Constant (.int 2) j pk] [] p2] X.env = (false, eval (.Call (.Name "combinations" p1) [.Call (.Name "range" p0) [a] [] p3, .Constant (.int 2) j pk] [] p2) X.env) :: starEach [] X.env := by rfl) :
    PX X G (.Call (.Name "list" p) [.Call (.Name "combinations" p1) [.Call (.Name "range" p0) [a] [] p3, .Constant (.int 2) j pk] [] p2] [] pos) (dListC da) := by
  refine pe_imp (pe_listCb hc hg hm hg3 hm2 (prg_1 hg2 hr ha na2) na nb hp nc) ?_
  rintro σ H Q ⟨F, R, η, M, q, hG, A, E, h, c⟩
  refine le_bind hG A E h fun l M1 v H1 F1 g1 s1 A1 E1 r1 h1 => ?_
  obtain ⟨n, rfl, hn2, hn, h1⟩ := h1
  obtain rfl : v = .int n := by cases r1; rfl
  refine ⟨n, rfl, n, by omega, hn2, hn, by omega, by omega, fun as q0 os hos nd hl hf hq0 hqa => ?_⟩
  obtain ⟨A2, s2⟩ := abs_tups (os := os) as (tupsC 0 n) F1 H1 A1 nd hf
  refine (c.mono (s1.trans s2)).lst A2 (by rw [updT_other _ _ _ _ hqa]; exact hq0) (ds := combD n) (rpa_at ?_ fun i x d h1 h2 => ?_) h1
  · rw [List.length_map, hl]
    unfold combD
    rw [List.length_map]
  · rw [List.getElem?_map] at h1
    unfold combD at h2
    rw [List.getElem?_map] at h2
    cases ea : as[i]? with
    | none => rw [ea] at h1; cases h1
    | some y =>
      rw [ea] at h1
      cases h1
      cases ep : (placesC n)[i]? with
      | none => rw [ep] at h2; cases h2
      | some idx =>
        rw [ep] at h2
        cases h2
        have ht := updT_at (os := os) as (tupsC 0 n) F1 i y (idx.map fun i => V.int (0 + (i : Nat))) nd ea (by unfold tupsC; rw [List.getElem?_map, ep]; rfl)
        have e : (idx.map fun i => V.int (0 + (i : Nat))) = (idx.map fun (i : Nat) => (i : Int)).map V.int := by rw [List.map_map]; exact List.map_congr_left fun i _ => by simp
        have e2 : (idx.map fun i => PyData.int (i : Nat)) = (idx.map fun (i : Nat) => (i : Int)).map PyData.int := by rw [List.map_map]; rfl
        rw [e] at ht
        show Rp _ _ _ (PyData.tuple (idx.map fun i => PyData.int (i : Nat)))
        rw [e2]
        exact .tup ⟨_, ht, by rw [hos y]; exact ⟨rfl, rfl⟩⟩ (rpa_ints2 _)
end
end DL
end
section
/-! xs.index(k), xs.count(k): xs a list or a tuple of ints, k an int -/
namespace DL
open PySem PySem.Spec PyProof.Rows L2
/-- a method of lists and tuples that asks about an int among ints -/
structure SMeth (name : Str) (idT idL : String) (res : List Int → Int → Int → Prop) : Prop where
  slotT : Slot "tuple" name idT
  slotL : Slot "list" name idL
  tyT : typeOf (.builtin idT) = pure (.type "method_descriptor")
  tyL : typeOf (.builtin idL) = pure (.type "method_descriptor")
  runT : ∀ {P : Program} {w : World} {A : Around} {E : Value → Shared → Prop} {s : Shared} {l : Addr} {vs : List Value} {ns : List Int} {k z : Int} {t : Tok} {Q : Value → Shared → Prop}, IsTup s.heap l vs.toArray → IntsAre vs ns → res ns k z → Q (.int z s.toks) { s with toks := s.toks + 1 } →
    wpAny (model P w) A (call (.builtin idT) [.ref l, .int k t]) Q E s
  runL : ∀ {P : Program} {w : World} {A : Around} {E : Value → Shared → Prop} {s : Shared} {l : Addr} {vs : List Value} {ns : List Int} {k z : Int} {t : Tok} {Q : Value → Shared → Prop}, s.heap.IsList l vs.toArray → IntsAre vs ns → ns.length ≤ sizeLine → res ns k z → Q (.int z s.toks) { s with toks := s.toks + 1 } →
    wpAny (model P w) A (call (.builtin idL) [.ref l, .int k t]) Q E s
def idxR (ns : List Int) (k z : Int) : Prop := k ∈ ns ∧ z = (ns.idxOf k : Nat)
def cntR (ns : List Int) (k z : Int) : Prop := z = (ns.count k : Nat)
theorem countP_ints {k : Int} {t : Tok} : ∀ {vs : List Value} {ns : List Int}, IntsAre vs ns → vs.countP (isInt k) = ns.count k
  | _, _, .nil => rfl
  | _, _, .cons n t r => by
    rw [List.countP_cons, List.count_cons, countP_ints (t := t) r]
    rfl
theorem sm_index : SMeth "index" "tuple.index" "list.index" idxR where
  slotT := PySem.F.slot_tuple_index
  slotL := PySem.F.slot_list_index
  tyT := PySem.F.type_tuple_index
  tyL := PySem.F.type_list_index
  runT := fun ht hi hr q => by
    obtain ⟨hk, rfl⟩ := hr
    exact PySem.SeqAt.tuple_index_ints ht hi hk q
  runL := fun ht hi hz hr q => by
    obtain ⟨hk, rfl⟩ := hr
    exact PySem.SeqAt.list_index_ints ht hi hz hk q
theorem sm_count : SMeth "count" "tuple.count" "list.count" cntR where
  slotT := PySem.F.slot_tuple_count
  slotL := PySem.F.slot_list_count
  tyT := PySem.F.type_tuple_count
  tyL := PySem.F.type_list_count
  runT := fun {P w A E s l vs ns k z t Q} ht hi hr q => by
    cases (show z = (ns.count k : Nat) from hr)
    obtain ⟨⟨cls, dd, dt, sl⟩, ho, hc, n, hd⟩ := ht
    simp only at hc hd
    subst hc hd
    refine call_meets PySem.F.slot_tuple_count ⟨_, ho, rfl⟩ PySem.F.entry_tuple_count (PySem.F.args_tuple_count_2 _ _) (SeqAt.tuple_countAt l vs.toArray n dd sl (.int k t) (isInt k)) ⟨ho, fun y hy => ?_, ?_⟩
    · exact (eq_isInt k t hi y (by simpa using hy)).at _ _
    · rw [show vs.toArray.toList = vs from rfl, countP_ints (t := t) hi]
      exact q
  runL := fun {P w A E s l vs ns k z t Q} ht hi _ hr q => by
    cases (show z = (ns.count k : Nat) from hr)
    obtain ⟨⟨cls, dd, dt, sl⟩, ho, hc, n, hd⟩ := ht
    simp only at hc hd
    subst hc hd
    refine call_meets PySem.F.slot_list_count ⟨_, ho, rfl⟩ PySem.F.entry_list_count (PySem.F.args_list_count_2 _ _) (SeqAt.list_countAt l vs.toArray n dd sl (.int k t) (isInt k)) ⟨ho, fun y hy => ?_, ?_⟩
    · exact (eq_isInt k t hi y (by simpa using hy)).at _ _
    · rw [show vs.toArray.toList = vs from rfl, countP_ints (t := t) hi]
      exact q
section
variable {X : Cx} {G : GH} {o a : Expr} {de da : DE} {name : Str} {idT idL : String} {res : List Int → Int → Int → Prop} {apos pos : Pos}
def seqIs (K : PySem.W.Frag) (b : Bool) (H : Hp) (p : Addr) (vs : List V) : Prop := if b then TpP H p vs else SqM K H p vs
theorem pe_sm {to : TE} {t : TA} (S : SMeth name idT idL res) (ho : PE X o to) (ha : PA X [a] t)
    (hbase : attributeBase o name X.env (eval o X.env) = eval o X.env)
    (hfew : ((backTo pos (starEach [a] X.env)).all (fun x => !x.1) && (backToKw pos (keywordEach [] X.env)).all (fun x => x.1.isSome)
      && decide (([a] : List Expr).length + ([] : List Keyword).length + (if ([] : List Keyword).isEmpty then 0 else 1) < 30)) = true)
    (hline : (apos.endLine == pos.line) = true) (hs : starEach [a] X.env = (false, eval a X.env) :: starEach [] X.env) (hplain : (backTo pos (starEach [] X.env)).any (·.1) = false) :
    PE X (.Call (.Attribute o name apos) [a] [] pos) (fun σ H Q => to σ H fun x H1 => ∃ p vs b, x = .ref p ∧ seqIs X.K b H1 p vs ∧ t σ H1 fun ys H2 => ∃ ns k z, ys = [.int k] ∧ seqIs X.K b H2 p (ns.map V.int) ∧ res ns k z ∧ Q (.int z) H2) := by
  refine ⟨fun pins s σ H Q I h => ?_⟩
  refine wpAny_Call_method_late hbase hfew hline rfl (thn (ho.run pins s σ H _ I h) fun v s1 ⟨x, H1, I1, r1, p, vs, b, ex, hsq, q1⟩ => ?_)
  subst ex
  obtain rfl : v = .ref p := r1
  have hA := ha.run pos pins s1 σ H1 _ I1 q1
  rw [hs] at hA ⊢
  cases b with
  | true =>
    obtain ⟨ob, hF, hc, hd⟩ : TpP H1 p vs := hsq
    obtain ⟨hg, hz0, its0, rv0, pl0⟩ := I1.hok p _ hF
    refine ⟨"tuple", idT, PySem.F.plainAttrs_tuple, S.slotT, S.tyT, ⟨ob, hg, hc⟩, fun a' e => ?_, ?_⟩
    · cases e
      exact ⟨ob, hg, hd⟩
    refine Calls.callWith_builtin (by show (false || (backTo pos (starEach [] X.env)).any (·.1)) = false; rw [hplain]; rfl) (Calls.evalArgs_plain ?_)
    refine thn hA fun us s2 ⟨ws, H2, I2, r2, ns, k, z, e1, hsq2, hr, q2⟩ => ?_
    subst e1
    obtain ⟨u, rfl, t', rfl⟩ := vals1 r2
    obtain ⟨its, rv, pl, hz⟩ := I2.tuple (TpP.sq (K := X.K) hsq2)
    exact S.runT pl (intsAre_of rv) hr ⟨.int z, H2, I2.tok _, ⟨_, rfl⟩, q2⟩
  | false =>
    have hsq : SqM X.K H1 p vs := hsq
    obtain ⟨its0, rv0, ⟨ob, n0, hg, hc, hd, _⟩, hz0⟩ := I1.list hsq.l
    refine ⟨"list", idL, PySem.F.plainAttrs_list, S.slotL, S.tyL, ⟨ob, hg, hc⟩, fun a' e => ?_, ?_⟩
    · cases e
      exact ⟨ob, hg, hd⟩
    refine Calls.callWith_builtin (by show (false || (backTo pos (starEach [] X.env)).any (·.1)) = false; rw [hplain]; rfl) (Calls.evalArgs_plain ?_)
    refine thn hA fun us s2 ⟨ws, H2, I2, r2, ns, k, z, e1, hsq2, hr, q2⟩ => ?_
    subst e1
    obtain ⟨u, rfl, t', rfl⟩ := vals1 r2
    have hsq2 : SqM X.K H2 p (ns.map V.int) := hsq2
    obtain ⟨its, rv, pl, hz⟩ := I2.list hsq2.l
    refine S.runL pl.isList (intsAre_of rv) ?_ hr ⟨.int z, H2, I2.tok _, ⟨_, rfl⟩, q2⟩
    rw [List.length_map] at hz
    exact hz
def intsOf : PyData → Option (List Int)
  | .tuple xs => intsD xs
  | .list xs => intsD xs
  | _ => none
/-- o.m(a): both told as data -/
def dSM (res : List Int → Int → Int → Prop) (de da : DE) : DE := fun η M q => de η M fun l M1 => ∃ x, l = .d x ∧ (∃ ns, intsOf x = some ns ∧ da η M1 fun y M2 => ∃ k z, y = .d (.int k) ∧ res ns k z ∧ q (.d (.int z)) M2)
theorem px_sm (S : SMeth name idT idL res) (ho : PX X G o de) (ha : PX X G a da)
    (hbase : attributeBase o name X.env (eval o X.env) = eval o X.env := by rfl)
    (hfew : ((backTo pos (starEach [a] X.env)).all (fun x => !x.1) && (backToKw pos (keywordEach [] X.env)).all (fun x => x.1.isSome)
      && decide (([a] : List Expr).length + ([] : List Keyword).length + (if ([] : List Keyword).isEmpty then 0 else 1) < 30)) = true := by rfl)
    (hline : (apos.endLine == pos.line) = true := by rfl) (hs : starEach [a] X.env = (false, eval a X.env) :: starEach [] X.env := by rfl) (hplain : (backTo pos (starEach [] X.env)).any (·.1) = false := by rfl) :
    PX X G (.Call (.Attribute o name apos) [a] [] pos) (dSM res de da) := by
  refine pe_imp (pe_sm S ho (pa_cons ha pa_nil hs) hbase hfew hline hs hplain) ?_
  rintro σ H Q ⟨F, R, η, M, q, hG, A, E, h, c⟩
  refine le_bind hG A E h fun l M1 v H1 F1 g1 s1 A1 E1 r1 h1 => ?_
  obtain ⟨x, rfl, ns, hx, h1⟩ := h1
  have go : ∀ (p : Addr) (b : Bool), (∀ F2 M2 H2, Same F1 F2 → Abs X.K F2 R M2 H2 → seqIs X.K b H2 p (ns.map V.int)) → ∃ p' vs b', V.ref p = .ref p' ∧ seqIs X.K b' H1 p' vs ∧ (fun σ H Q => LE X.K G da σ H fun y H2 => Q [y] H2) σ H1 fun ys H2 => ∃ ns k z, ys = [.int k] ∧ seqIs X.K b' H2 p' (ns.map V.int) ∧ res ns k z ∧ Q (.int z) H2 := by
    intro p b hs
    refine ⟨p, _, b, rfl, hs F1 M1 H1 (Same.refl _) A1, ?_⟩
    refine le_bind g1 A1 E1 h1 fun y M2 w H2 F2 g2 s2 A2 E2 r2 h2 => ?_
    obtain ⟨k, z, rfl, hr, h2⟩ := h2
    obtain rfl : w = .int k := by cases r2; rfl
    exact ⟨ns, k, z, rfl, hs F2 M2 H2 s2 A2, hr, (c.mono (s1.trans s2)).plain A2 (.int z) h2⟩
  cases x with
  | tuple ds =>
    cases r1 with
    | tup hs ha =>
      have := intsD_rep hx ha
      subst this
      exact go _ true fun F2 M2 H2 s2 A2 => (hs.same s2).same A2.fz
  | list ds =>
    cases r1 with
    | lst hs ha =>
      have := intsD_rep hx ha
      subst this
      exact go _ false fun F2 M2 H2 s2 A2 => sqM_same A2.fz (sqM_same s2 hs)
  | _ => cases hx
end
end DL
end
section
set_option maxHeartbeats 1000000
/-! t * k, a tuple and an int; x * k, a text and an int -/
namespace DL
open PySem PySem.Spec PyProof.Rows L2
theorem mulT_same (l : Addr) (items : Array Value) (n : Nat) (dd : Option Addr) (sl : Array (Option Value)) (x : Int) (u : Tok) (c0 : (decide (x < -(2 ^ 63)) || decide (x ≥ 2 ^ 63)) = false) (c1 : (items.isEmpty || x == 1) = true) :
    Meets (Builtin.«tuple.__mul__» ⟨[.ref l, .int x u], []⟩) (fun _ R s => s.heap.get? l = some { cls := .type "tuple", dict := dd, data := .seq items n, slots := sl } ∧ R (.ok (.ret (Value.ref l))) s) :=
  .of_wp fun prog w A R s h => by
    obtain ⟨hp, g, d, tk, os⟩ := s
    obtain ⟨hl, h⟩ := h
    have f1 := AutoSeq1.idx_int
    wp_walk using wpAny_loadPart' hl
    refine wpAny_ite_false (decide_eq_false (by rw [c0]; exact Bool.false_ne_true)) ?_
    wp_walk using wpAny_loadPart' hl
    exact ⟨_, rfl, h⟩
theorem mulT_zero (l : Addr) (items : Array Value) (n : Nat) (dd : Option Addr) (sl : Array (Option Value)) (x : Int) (u : Tok) (c0 : (decide (x < -(2 ^ 63)) || decide (x ≥ 2 ^ 63)) = false) (c1 : (items.isEmpty || x == 1) = false) (c2 : (decide (x ≤ 0) || items.isEmpty) = true) :
    Meets (Builtin.«tuple.__mul__» ⟨[.ref l, .int x u], []⟩) (fun _ R s => s.heap.get? l = some { cls := .type "tuple", dict := dd, data := .seq items n, slots := sl } ∧ R (.ok (.ret (Value.ref s.heap.objs.size))) { s with heap := s.heap.push { cls := .type "tuple", data := .seq #[] } }) :=
  .of_wp fun prog w A R s h => by
    obtain ⟨hp, g, d, tk, os⟩ := s
    obtain ⟨hl, h⟩ := h
    have f1 := AutoSeq1.idx_int
    wp_walk using wpAny_loadPart' hl
    refine wpAny_ite_false (decide_eq_false (by rw [c0]; exact Bool.false_ne_true)) ?_
    wp_walk using wpAny_loadPart' hl
    exact ⟨_, rfl, h⟩
/-- a tuple, so many times -/
def rMulP (K : PySem.W.Frag) : R2 := fun x y H Q => ∃ l k xs, x = .ref l ∧ y = .int k ∧ SqT K H l xs ∧ -(2 ^ 63) ≤ k ∧ k < 2 ^ 63 ∧ xs.length * k.toNat ≤ 1000000 ∧ ((xs = [] ∨ k = 1) → Q (.ref l) H) ∧
  ∀ p o, PlT o → H p = none → Q (.ref p) (upd H p (.frz o (.tup (List.replicate k.toNat xs).flatten)))
section
variable {X : Cx}
theorem op_mulP : OpR X (binaryOp .Mult) (rMulP X.K) := by
  rintro pins s σ H x y v u Q I rx ry ⟨l, k, xs, rfl, rfl, hT, k0, k1, hz, q1, q2⟩
  cases rx
  obtain ⟨t, rfl⟩ := ry
  obtain ⟨its, r, ⟨⟨cls, dd, data, sl⟩, ho, hc, n, hd⟩, hs⟩ := I.tuple hT
  simp only at hc hd
  subst hc hd
  have hle : its.length = xs.length := r.length.symm
  have c0 : (decide (k < -(2 ^ 63)) || decide (k ≥ 2 ^ 63)) = false := by
    rw [decide_eq_false (by omega), decide_eq_false (by omega)]
    rfl
  have hsz0 : its.toArray.size = xs.length := by rw [List.size_toArray, hle]
  have fl : (List.foldl (fun x1 x2 => x1 ++ x2) #[] (List.replicate k.toNat its.toArray)) = (List.replicate k.toNat its).flatten.toArray := L2.size_rep its k.toNat
  have flen : (List.replicate k.toNat its).flatten.length ≤ 1000000 := by
    rw [PyProof.Rows.lm_len_rep_flat, hle, Nat.mul_comm]
    exact hz
  refine wpAny_binaryOp_repeat_ref (T := "tuple") (U := "int") (by decide) ⟨_, ho, rfl⟩ (fun s' => typeIs_int s' k t) noFill_tuple_mul F.fills_int_mul F.slot_int_rmul repeat_tuple F.slot_int_index.lookup
    (call_meets F.slot_int_rmul (typeIs_int s k t) F.entry_int_rmul (F.args_int_rmul_2 _ _) (int_rmul_tuple k t l its.toArray n dd sl) ⟨ho, rfl, ⟨_, ho, rfl⟩, ?_⟩)
  by_cases c1 : (its.toArray.isEmpty || k == 1) = true
  · refine call_meets F.slot_tuple_mul ⟨_, ho, rfl⟩ F.entry_tuple_mul (F.args_tuple_mul_2 _ _) (mulT_same l its.toArray n dd sl k t c0 c1) ⟨ho, ?_⟩
    refine ⟨.ref l, H, I, rfl, q1 ?_⟩
    rw [Bool.or_eq_true] at c1
    rcases c1 with c1 | c1
    · refine .inl ?_
      cases its with
      | nil => exact r.nil_iff.mp rfl
      | cons a b => cases c1
    · exact .inr (by simpa using c1)
  have c1 : (its.toArray.isEmpty || k == 1) = false := by simpa using c1
  have hne : its.toArray.isEmpty = false := (Bool.or_eq_false_iff.mp c1).1
  by_cases c2 : (decide (k ≤ 0) || its.toArray.isEmpty) = true
  · refine call_meets F.slot_tuple_mul ⟨_, ho, rfl⟩ F.entry_tuple_mul (F.args_tuple_mul_2 _ _) (mulT_zero l its.toArray n dd sl k t c0 c1 c2) ⟨ho, ?_⟩
    have hk : k ≤ 0 := by
      rw [hne, Bool.or_false] at c2
      simpa using c2
    have ek : k.toNat = 0 := by omega
    have q3 := q2 s.heap.objs.size { cls := .type "tuple", data := .seq #[] } ⟨rfl, rfl⟩ (I.hok.fresh (Nat.le_refl _))
    rw [ek] at q3
    refine ⟨.ref s.heap.objs.size, _, I.laid (t' := s.toks) (fun b ob q => Heap.get?_push_of_some _ q) (Nat.le_refl _) (o := .frz _ (.tup [])) ⟨Heap.get?_push_size _ rfl, ?_⟩, rfl, q3⟩
    exact ⟨Nat.zero_le _, [], .nil, IsTup.new _ _⟩
  have c2 : (decide (k ≤ 0) || its.toArray.isEmpty) = false := by simpa using c2
  have hk : 0 < k := by
    rw [hne, Bool.or_false] at c2
    have : ¬ k ≤ 0 := by simpa using c2
    omega
  have hm : ((its.toArray.size : Nat) : Int) * k ≤ 1000000 := by
    rw [hsz0]
    have : k = (k.toNat : Int) := by omega
    rw [this, ← Int.natCast_mul]
    omega
  have c4 : Builtin.Tuple.tupleTooMany (((its.toArray.size : Nat) : Int) * k) = false := by
    unfold Builtin.Tuple.tupleTooMany
    rw [sizeLine_eq]
    exact decide_eq_false (by omega)
  refine call_meets F.slot_tuple_mul ⟨_, ho, rfl⟩ F.entry_tuple_mul (F.args_tuple_mul_2 _ _) (tuple_mulW l its.toArray n dd sl k t c0 c1 c2 (by omega) c4 (by rw [fl, List.size_toArray, sizeLine_eq]; omega)) ⟨ho, ?_⟩
  rw [fl]
  refine ⟨.ref s.heap.objs.size, _, I.laid (t' := s.toks) (fun b ob q => Heap.get?_push_of_some _ q) (Nat.le_refl _) (o := .frz _ (.tup (List.replicate k.toNat xs).flatten)) ⟨Heap.get?_push_size _ rfl, ?_⟩, rfl, q2 _ _ ⟨rfl, rfl⟩ (I.hok.fresh (Nat.le_refl _))⟩
  exact ⟨by rw [← (r.rep k.toNat).length] at flen; rw [sizeLine_eq]; omega, _, r.rep k.toNat, IsTup.new _ _⟩
/-- a text, so many times -/
theorem op_mulS : OpR X (binaryOp .Mult) (fun x y H Q => ∃ z k, x = .str z ∧ y = .int k ∧ -(2 ^ 63) ≤ k ∧ k < 2 ^ 63 ∧ z.length * k.toNat ≤ 1000000 ∧ Q (.str (Txt.mul z k)) H) := by
  rintro pins s σ H x y v u Q I rx ry ⟨z, k, rfl, rfl, k0, k1, hz, q⟩
  obtain ⟨t, rfl⟩ := rx
  obtain ⟨t', rfl⟩ := ry
  refine SB.mul ⟨?_, fun h1 h2 => ?_, fun h1 h2 => ?_⟩ fun t2 k2 => ⟨.str _, H, I.tok _, ⟨_, rfl⟩, q⟩
  · rw [decide_eq_false (by omega), decide_eq_false (by omega)]
    rfl
  · have hk : 0 < k := by omega
    intro h3
    have e1 : k = (k.toNat : Int) := by omega
    have e2 : (z.length : Int) * k ≤ 1000000 := by
      rw [e1, ← Int.natCast_mul]
      omega
    have e3 : (2 ^ 63 - 1) / k < (z.length : Int) := h3
    have e4 := Int.lt_mul_of_ediv_lt hk e3
    omega
  · show decide (_ > _) = false
    rw [sizeLine_eq]
    exact decide_eq_false (by omega)
end
/-- lists, tuples, texts so many times; ints -/
def mulX : PyData → PyData → (PyData → Prop) → Prop
  | .tuple xs, .int k, q => -(2 ^ 63) ≤ k ∧ k < 2 ^ 63 ∧ xs.length * k.toNat ≤ 1000000 ∧ q (.tuple (List.replicate k.toNat xs).flatten)
  | .str z, .int k, q => -(2 ^ 63) ≤ k ∧ k < 2 ^ 63 ∧ z.length * k.toNat ≤ 1000000 ∧ q (.str (Txt.mul z k))
  | x, y, q => mulW x y q
section
variable {X : Cx} {G : GH} {a b : Expr} {da db : DE} {pos : Pos}
theorem opx_mulX : OpR X (binaryOp .Mult) (rW X.K mulX) := by
  rintro pins s σ H x y v u Q I rx ry ⟨F, R, M, a, b, q, A, ra, rb, ⟨da, db, ea, eb, h⟩, c⟩
  match da, db, ea, eb, h with
  | .tuple xs, .int k, ea, eb, h =>
    obtain ⟨p, vs, e1, s1, r1⟩ := rd_tuple A ra ea
    have e2 := rd_int rb eb
    obtain ⟨h1, h2, h3, h4⟩ := h
    refine op_mulP pins s σ H _ _ v u Q I rx ry ⟨p, k, vs, e1, e2, s1, h1, h2, by rw [r1.length]; exact h3, fun z => ?_, fun p o ho hp => c.tup A hp ho (rpa_flat r1 _) h4⟩
    have : (List.replicate k.toNat xs).flatten = xs := by
      rcases z with z | z
      · subst z
        cases r1
        simp
      · subst z
        simp
    rw [this] at h4
    exact c.plain A (e1 ▸ rd_tupleF ra ea) h4
  | .str z, .int k, ea, eb, h => exact op_mulS pins s σ H _ _ v u Q I rx ry ⟨z, k, rd_str ra ea, rd_int rb eb, h.1, h.2.1, h.2.2.1, c.plain A (.str _) h.2.2.2⟩
  | .int i, .int j, ea, eb, h => exact opx_mul pins s σ H x y v u Q I rx ry ⟨F, R, M, a, b, q, A, ra, rb, ⟨_, _, ea, eb, h⟩, c⟩
  | .list xs, .int k, ea, eb, h => exact opx_mul pins s σ H x y v u Q I rx ry ⟨F, R, M, a, b, q, A, ra, rb, ⟨_, _, ea, eb, h⟩, c⟩
theorem px_mulX (ha : PX X G a da) (hb : PX X G b db) : PX X G (.BinOp a .Mult b pos) (dOp (dBin mulX) da db) := px_bin opx_mulX (opD_of _) ha hb
end
end DL
end
section
/-! any, all: of a list of truths -/
namespace DL
open PySem PySem.Spec PyProof.Rows L2
theorem bools_rep {K : PySem.W.Frag} {F : Hp} : ∀ {bs : List Bool} {vs : List V}, RpA K F vs (bs.map .bool) → vs = bs.map V.bl
  | [], _, .nil => rfl
  | _ :: _, _, .cons (.bl _) t => by rw [List.map_cons, bools_rep t]
def allW : PyData → (PyData → Prop) → Prop
  | .list ds, q => ∃ bs : List Bool, ds = bs.map .bool ∧ q (.bool (bs.all id))
  | _, _ => False
def anyW : PyData → (PyData → Prop) → Prop
  | .list ds, q => ∃ bs : List Bool, ds = bs.map .bool ∧ q (.bool (bs.any id))
  | _, _ => False
section
variable {X : Cx}
theorem cd_all : CallD X.K (rAll X.K) (d1 allW) := by
  rintro F R M H xs ls q Q A rr ⟨a, x, rfl, e, h⟩ c
  obtain ⟨v, rfl, r⟩ := lrs1 rr
  cases x with
  | list ds =>
    obtain ⟨bs, rfl, h⟩ := h
    obtain ⟨p, vs, rfl, s, r2⟩ := rd_list A r e
    have := bools_rep r2
    subst this
    exact ⟨p, bs, rfl, s.l, c.plain A (.bl _) h⟩
  | _ => exact h.elim
theorem cd_any : CallD X.K (rAny X.K) (d1 anyW) := by
  rintro F R M H xs ls q Q A rr ⟨a, x, rfl, e, h⟩ c
  obtain ⟨v, rfl, r⟩ := lrs1 rr
  cases x with
  | list ds =>
    obtain ⟨bs, rfl, h⟩ := h
    obtain ⟨p, vs, rfl, s, r2⟩ := rd_list A r e
    have := bools_rep r2
    subst this
    exact ⟨p, bs, rfl, s.l, c.plain A (.bl _) h⟩
  | _ => exact h.elim
end
end DL
end
section
set_option maxHeartbeats 1000000
/-! how many unlike ints there are: len(set(x)), sorted(set(x)) -/
namespace DL
open PySem PySem.Spec PyProof.Rows L2
/-- so many unlike ones -/
def IsCnt (ns : List Int) (c : Nat) : Prop := ∃ ms : List Int, ms.Nodup ∧ (∀ k, k ∈ ms ↔ k ∈ ns) ∧ ms.length = c
theorem cnt_of {w : World} {h : Heap} {a : Addr} {ns : List Int} {c : Nat} (hS : SetR w h a (fun j => decide (j ∈ ns)) c) : IsCnt ns c := by
  obtain ⟨o, es, ep, t, _, _, _, _, nd, hm, _, _, hz, _⟩ := hS
  refine ⟨es.toList.map keyOf, nd, fun k => ?_, by rw [List.length_map, Array.length_toList]; exact hz⟩
  rw [← hm k]
  simp
theorem dedup_nodup : ∀ (xs acc : List Int), acc.Nodup → (xs.foldl step_dedup acc).Nodup
  | [], acc, h => h
  | x :: xs, acc, h => by
    refine dedup_nodup xs _ ?_
    unfold step_dedup
    split
    · exact h
    · rename_i hx
      refine List.nodup_append.mpr ⟨h, by simp, fun y hy z hz e => hx ?_⟩
      rw [List.mem_singleton] at hz
      subst hz e
      rw [List.any_eq_true]
      exact ⟨y, hy, beq_self_eq_true y⟩
theorem getD_map (ns : List Int) : (List.range ns.length).map (fun i => ns.getD i 0) = ns := by
  refine List.ext_getElem? fun i => ?_
  rw [List.getElem?_map]
  by_cases h : i < ns.length
  · rw [List.getElem?_range h, List.getElem?_eq_getElem h]
    simp [List.getElem?_eq_getElem h]
  · rw [List.getElem?_eq_none (by simpa using Nat.le_of_not_lt h), List.getElem?_eq_none (by omega)]
    rfl
theorem met_mem (ns : List Int) (k : Int) : ((firstMet (fun i => ns.getD i 0) ns.length).any fun x => x == k) = decide (k ∈ ns) := by
  rw [firstMet_any, getD_map]
  rw [Bool.eq_iff_iff]
  simp
theorem met_cnt (ns : List Int) : IsCnt ns (firstMet (fun i => ns.getD i 0) ns.length).length := by
  refine ⟨firstMet (fun i => ns.getD i 0) ns.length, dedup_nodup _ [] List.nodup_nil, fun k => ?_, rfl⟩
  have := met_mem ns k
  rw [Bool.eq_iff_iff] at this
  simpa using this
/-- a set of ints that only its length is asked of -/
def SetLO (P : Program) (w : World) (a : Addr) (n : Nat) : HO := .ext fun h => ∃ S : Int → Bool, Heap.SetOf (intKind P w) h a S n
theorem setLO_new {w : World} {P : Program} {H : Hp} {h : Heap} {a : Addr} {S : Int → Bool} {n : Nat} (hS : Heap.SetOf (intKind P w) h a S n) : ObjOk P w H h a (SetLO P w a n) := by
  show _ ∧ _ ∧ _
  refine ⟨⟨S, hS⟩, ?_, fun h1 h2 => ?_⟩
  · obtain ⟨o, _, _, _, e, _⟩ := hS
    exact ⟨o, e⟩
  · rintro ⟨S, o, es, ep, t, e, r⟩ k
    exact ⟨S, o, es, ep, t, k _ e, r⟩
theorem setLO_get {X : Cx} {pins : List (Addr × Obj)} {σ : L2.St} {H : Hp} {s : Shared} {a : Addr} {n : Nat} (I : L2.Inv X pins σ H s) (e : H a = some (SetLO X.prog X.w a n)) : ∃ S, Heap.SetOf (intKind X.prog X.w) s.heap a S n := by
  have := I.hok a _ e
  exact this.1
/-- set(x), to be counted -/
def rSetN (K : PySem.W.Frag) (P : Program) (w : World) : List V → Hp → VK → Prop := fun xs H Q => ∃ (l : Addr) (ns : List Int), xs = [V.ref l] ∧ (SqL K H l (ns.map V.int) ∨ SqT K H l (ns.map V.int)) ∧ ns.length < 1000 ∧ ∀ a c, H a = none → IsCnt ns c → Q (.ref a) (upd H a (SetLO P w a c))
/-- set(x), to be sorted -/
def rSetS (K : PySem.W.Frag) (w : World) : List V → Hp → VK → Prop := fun xs H Q => ∃ (l : Addr) (ns : List Int), xs = [V.ref l] ∧ SqT K H l (ns.map V.int) ∧ ns.length < 64 ∧ ∀ a c, H a = none → c ≤ ns.length → Q (.ref a) (upd H a (SetO w a (fun j => decide (j ∈ ns)) c))
def rLenN (P : Program) (w : World) : List V → Hp → VK → Prop := fun xs H Q => ∃ (a : Addr) (c : Nat), xs = [V.ref a] ∧ H a = some (SetLO P w a c) ∧ Q (.int c) H
section
variable {X : Cx}
theorem cr_setS (hc : X.calm = true) : CallR X (.type "set") (rSetS X.K X.w) := by
  rintro pins s σ H vs us Q I r ⟨l, ns, rfl, hs, hz, q⟩
  obtain ⟨its, rv, hl, _⟩ := I.tuple hs
  rw [Vals.ref1 r]
  have hz2 : ns.length + 1 < scanBound := by unfold scanBound; omega
  refine call_set_tupI ns (I.ok.hd hc) hl rv.ints hz2 fun h' tk c hS hcl hk => ?_
  refine ⟨.ref s.heap.objs.size, _, inv_news I hk (fun b hb => upd_ne (Nat.ne_of_lt hb)) (fun a o ha e => ?_), rfl, q _ c (I.hok.fresh (Nat.le_refl _)) hcl⟩
  by_cases ea : a = s.heap.objs.size
  · subst ea
    rw [upd_same] at e
    cases e
    exact setO_new hS
  · rw [upd_ne ea, I.hok.fresh ha] at e
    cases e
theorem cr_setN (hc : X.calm = true) : CallR X (.type "set") (rSetN X.K X.prog X.w) := by
  rintro pins s σ H vs us Q I r ⟨l, ns, rfl, hs, hz, q⟩
  have hz2 : ns.length + 1 < scanBound := by unfold scanBound; omega
  have fin : ∀ (h' : Heap) (tk c : Nat) (S : Int → Bool), Heap.SetOf (intKind X.prog X.w) h' s.heap.objs.size S c → IsCnt ns c → (∀ (b : Addr) (o : Obj), s.heap.get? b = some o → h'.get? b = some o) →
      EP X pins σ Q (.ref s.heap.objs.size) { heap := h', gens := s.gens, drawn := s.drawn, toks := tk, os := s.os } := by
    intro h' tk c S hS hc hk
    refine ⟨.ref s.heap.objs.size, _, inv_news I hk (fun b hb => upd_ne (Nat.ne_of_lt hb)) (fun a o ha e => ?_), rfl, q _ c (I.hok.fresh (Nat.le_refl _)) hc⟩
    by_cases ea : a = s.heap.objs.size
    · subst ea
      rw [upd_same] at e
      cases e
      exact setLO_new hS
    · rw [upd_ne ea, I.hok.fresh ha] at e
      cases e
  rcases hs with hs | hs
  · obtain ⟨its, rv, hl, _⟩ := I.list hs
    rw [Vals.ref1 r]
    have hi := rv.ints
    have hlen : its.length = ns.length := hi.length
    refine call_set_list (items := its.toArray) (ns := ns) (I.ok.hd hc) hl.isList (by simpa using hi) (by simpa [hlen] using hz2) fun h' tk hS hk => ?_
    have e : its.toArray.size = ns.length := by simpa using hlen
    rw [e] at hS
    exact fin h' tk _ _ hS (met_cnt ns) fun b o e => hk b o (Heap.lt_size e) e
  · obtain ⟨its, rv, hl, _⟩ := I.tuple hs
    rw [Vals.ref1 r]
    exact call_set_tupI ns (I.ok.hd hc) hl rv.ints hz2 fun h' tk c hS hcl hk => fin h' tk c _ hS.setOf (cnt_of hS) hk
theorem cr_lenN : CallR X (.builtin "len") (rLenN X.prog X.w) := by
  rintro pins s σ H vs us Q I r ⟨a, c, rfl, e, q⟩
  obtain ⟨S, o, es, ep, t, ho, hx, hd, _, _, hb, hf, hz⟩ := setLO_get I e
  rw [Vals.ref1 r]
  refine call_len_set ho hx hd hf (by unfold scanBound at hb; omega) ?_
  refine ⟨.int es.size, H, I.tok _, ⟨_, rfl⟩, ?_⟩
  rw [hz]
  exact q
end
def lenSetW : PyData → (PyData → Prop) → Prop
  | .list ds, q => ∃ ns, intsD ds = some ns ∧ ns.length < 1000 ∧ ∀ c, IsCnt ns c → q (.int (c : Nat))
  | .tuple ds, q => ∃ ns, intsD ds = some ns ∧ ns.length < 1000 ∧ ∀ c, IsCnt ns c → q (.int (c : Nat))
  | _, _ => False
def sortSetW : PyData → (PyData → Prop) → Prop
  | .tuple ds, q => ∃ ns, intsD ds = some ns ∧ ns.length < 64 ∧ ∀ ns' : List Int, ns'.Pairwise (· < ·) → (∀ k, k ∈ ns' ↔ k ∈ ns) → q (.list (ns'.map .int))
  | _, _ => False
section
variable {X : Cx} {G : GH} {e : Expr} {es : List Expr} {ds : DA} {p p2 p3 pos : Pos}
theorem px_lenSet (hc : X.calm = true) (hm : X.mg "len" = none) (hm2 : X.mg "set" = none) (ha : PXA X G (e :: es) ds) (hg : Gl X "len" := by rfl) (hg2 : Gl X "set" := by rfl)
    (he : starEach (e :: es) X.env = (false, eval e X.env) :: starEach es X.env := by rfl) (hpl : (backTo p3 (starEach es X.env)).any (·.1) = false := by rfl)
    (he2 : starEach [.Call (.Name "set" p2) (e :: es) [] p3] X.env = (false, eval (.Call (.Name "set" p2) (e :: es) [] p3) X.env) :: starEach [] X.env := by rfl) (hpl2 : (backTo pos (starEach [] X.env)).any (·.1) = false := by rfl) :
    PX X G (.Call (.Name "len" p) [.Call (.Name "set" p2) (e :: es) [] p3] [] pos) (dCB (d1 lenSetW) ds) := by
  refine pe_imp (pe_callB cr_lenN hg hm PySem.boot_len (pa_cons (pe_callTy (cr_setN hc) hg2 hm2 boot_set ha (by decide) (by decide) he hpl) pa_nil he2) (by decide) (by decide) he2 hpl2) ?_
  rintro σ H Q ⟨F, R, η, M, q, hG, A, E, h, c⟩
  refine la_bind hG A E h fun ls M1 vs H1 F1 g1 s1 A1 E1 r1 h1 => ?_
  obtain ⟨a, x, rfl, e, h⟩ := h1
  obtain ⟨v, rfl, r⟩ := lrs1 r1
  have fin : ∀ (l : Addr) (ns : List Int), v = .ref l → (SqL X.K H1 l (ns.map V.int) ∨ SqT X.K H1 l (ns.map V.int)) → ns.length < 1000 → (∀ c, IsCnt ns c → q (.d (.int (c : Nat))) M1) → rSetN X.K X.prog X.w [v] H1 fun v H2 => rLenN X.prog X.w [v] H2 Q := by
    rintro l ns rfl hs hz hq
    refine ⟨l, ns, rfl, hs, hz, fun a n ha hn => ⟨a, n, rfl, upd_same, ?_⟩⟩
    exact (c.mono (s1.trans (same_new (A1.freeF ha)))).plain (A1.frz ha) (.int n) (hq n hn)
  cases x with
  | list ds =>
    obtain ⟨ns, e1, hz, h⟩ := h
    obtain ⟨p, vs, rfl, s, r2⟩ := rd_list A1 r e
    have := intsD_rep e1 r2
    subst this
    exact fin p ns rfl (.inl s.l) hz h
  | tuple ds =>
    obtain ⟨ns, e1, hz, h⟩ := h
    obtain ⟨p, vs, rfl, s, r2⟩ := rd_tuple A1 r e
    have := intsD_rep e1 r2
    subst this
    exact fin p ns rfl (.inr s) hz h
  | _ => exact h.elim
theorem px_sortSet (hc : X.calm = true) (hm : X.mg "sorted" = none) (hm2 : X.mg "set" = none) (ha : PXA X G (e :: es) ds) (hg : Gl X "sorted" := by rfl) (hg2 : Gl X "set" := by rfl)
    (he : starEach (e :: es) X.env = (false, eval e X.env) :: starEach es X.env := by rfl) (hpl : (backTo p3 (starEach es X.env)).any (·.1) = false := by rfl)
    (he2 : starEach [.Call (.Name "set" p2) (e :: es) [] p3] X.env = (false, eval (.Call (.Name "set" p2) (e :: es) [] p3) X.env) :: starEach [] X.env := by rfl) (hpl2 : (backTo pos (starEach [] X.env)).any (·.1) = false := by rfl) :
    PX X G (.Call (.Name "sorted" p) [.Call (.Name "set" p2) (e :: es) [] p3] [] pos) (dCB (d1 sortSetW) ds) := by
  refine pe_imp (pe_callB (cr_sortedSet hc) hg hm boot_sorted (pa_cons (pe_callTy (cr_setS hc) hg2 hm2 boot_set ha (by decide) (by decide) he hpl) pa_nil he2) (by decide) (by decide) he2 hpl2) ?_
  rintro σ H Q ⟨F, R, η, M, q, hG, A, E, h, c⟩
  refine la_bind hG A E h fun ls M1 vs H1 F1 g1 s1 A1 E1 r1 h1 => ?_
  obtain ⟨a, x, rfl, e, h⟩ := h1
  obtain ⟨v, rfl, r⟩ := lrs1 r1
  cases x with
  | tuple ds =>
    obtain ⟨ns, e1, hz, h⟩ := h
    obtain ⟨p, vs, rfl, s, r2⟩ := rd_tuple A1 r e
    have := intsD_rep e1 r2
    subst this
    refine ⟨p, ns, rfl, s, hz, fun a n ha hn => ⟨a, _, n, rfl, upd_same, by omega, fun ns' b h1 h2 h3 hb => ?_⟩⟩
    refine (c.mono (s1.trans (same_new (A1.freeF ha)))).lst (A1.frz ha) hb (ds := ns'.map PyData.int) ?_ (h ns' h1 fun k => by rw [h2 k]; simp)
    clear h1 h2 h3
    induction ns' with
    | nil => exact .nil
    | cons z zs ih => exact .cons (.int z) ih
  | _ => exact h.elim
end
end DL
end
section
/-! stores into a list, lists that will be changed: made by a comprehension, by [x] * n -/
namespace DL
open PySem PySem.Spec PyProof.Rows L2
theorem Abs.keepM {K : PySem.W.Frag} {F R : Hp} {M : Ms} {H : Hp} {p : Addr} {o : HO} {m : MO} (hr : R p = none) (A : Abs K F (upd R p o) M H) (r : MR K F H p m) : M p = none ∧ Abs K F R (updM M p m) H := by
  obtain ⟨hf, hh⟩ := A.rs p o upd_same
  refine ⟨?_, A.fz, fun a n e => ?_, fun a x e => ?_⟩
  · cases q : M p with
    | none => rfl
    | some n =>
      have := (A.mu p n q).2.1
      rw [upd_same] at this
      cases this
  · by_cases q : a = p
    · subst q
      rw [updM_same] at e
      cases e
      exact ⟨hf, hr, r⟩
    · rw [updM_ne q] at e
      obtain ⟨z, z2, r⟩ := A.mu a n e
      rw [upd_ne q] at z2
      exact ⟨z, z2, r⟩
  · have q : a ≠ p := fun q => by
      subst q
      rw [hr] at e
      cases e
    exact A.rs a x (by rw [upd_ne q]; exact e)
section
variable {X : Cx} {G : GH} {o i a b e iter tg : Expr} {do' di' da db de : DE} {t : DT} {pos : Pos}
/-- o[i] = .. of a list -/
def gPutI (do' di' : DE) : DG := fun l η M q => do' η M fun o M1 => di' η M1 fun i M2 => ∃ a xs k j, o = .p a ∧ M2 a = some (.lst xs) ∧ i = .d (.int k) ∧ ixN xs.length k = some j ∧ q η (updM M2 a (.lst (xs.set j l)))
theorem lrs_len {K : PySem.W.Frag} {F : Hp} : ∀ {vs : List V} {ls : List L}, LRs K F vs ls → vs.length = ls.length
  | _, _, .nil => rfl
  | _, _, .cons _ t => congrArg (· + 1) (lrs_len t)
theorem lrs_set {K : PySem.W.Frag} {F : Hp} {v : V} {l : L} : ∀ {vs : List V} {ls : List L} (j : Nat), LRs K F vs ls → LR K F v l → LRs K F (vs.set j v) (ls.set j l)
  | _, _, _, .nil, _ => .nil
  | _, _, 0, .cons _ t, r => .cons r t
  | _, _, j + 1, .cons h t, r => .cons h (lrs_set j t r)
theorem pxg_sub (ho : PX X G o do') (hi : PX X G i di') (hq : ∀ (v : Value),
              assign (o.Subscript i pos) X.env v = (do
                let ov ← holding [v] (eval o X.env)
                let iv ← holding [v, ov] (eval i X.env)
                standAt pos
                holding [v, ov, iv] (setItem ov iv v)
                PySem.release [v, ov, iv] []) := by intro _; rfl) : PXG X G (.Subscript o i pos) (gPutI do' di') := by
  refine pg_imp (pg_sub ho hi set_list hq) ?_
  rintro v σ H Q ⟨F, R, η, M, l, q, hG, A, E, r, h, k⟩
  refine le_bind hG A E h fun o M1 vo H1 F1 g1 s1 A1 E1 r1 h1 => le_bind g1 A1 E1 h1 fun i M2 vi H2 F2 g2 s2 A2 E2 r2 h2 => ?_
  obtain ⟨a, xs, kk, j, rfl, hm, rfl, hj, h2⟩ := h2
  obtain rfl : vo = .ref a := r1
  obtain rfl : vi = .int kk := by cases r2; rfl
  obtain ⟨_, _, vs, hv, rl⟩ := A2.mu a _ hm
  refine ⟨a, vs, kk, j, rfl, rfl, hv, by rw [lrs_len rl]; exact hj, ?_⟩
  exact k η _ σ _ F2 (s1.trans s2) (A2.put (m' := .lst (xs.set j l)) hm ⟨_, upd_same, lrs_set j rl (r.mono (s1.trans s2))⟩) E2 h2
/-- a list made by a comprehension, that will be changed -/
def dLcM (di : DI) (g : DG) (t : DT) (e : DE) (vs : List Nat) : DE := fun η M q => di η M fun xs M1 => dLcN g t e (wipeD η vs) (fun ys M2 => ∀ a, M2 a = none → q (.p a) (updM M2 a (.lst (ys.map L.d)))) xs [] M1
theorem le_lcM {K : PySem.W.Frag} {di : DI} {g : DG} {tgH : TG} {de : DE} {vs : List Nat} (gw : GWk K tgH g vs) {σ : L2.St} {H : Hp} {Q : VK} (h : LE K G (dLcM di g t de vs) σ H Q) : tLc (LI K G di) tgH (LT K G t) (LE K G de) vs σ H Q := by
  obtain ⟨F, R, η, M, q, hG, A, E, h, c⟩ := h
  refine ⟨F, R, η, M, _, hG, A, E, h, fun xs M1 J H1 F1 s1 A1 jd h1 D hD => ?_⟩
  have rD := A1.freeR hD
  refine ⟨fun i m H => m = xs.length - i ∧ i ≤ xs.length ∧ ∃ F2 M2 va acc, Same F1 F2 ∧ Abs K F2 (upd R D (.lst va)) M2 H ∧ RpA K F2 va acc ∧ dLcN g t de (wipeD η vs) (fun ys M2 => ∀ a, M2 a = none → q (.p a) (updM M2 a (.lst (ys.map L.d)))) (xs.drop i) acc M2,
    ⟨xs.length, rfl, Nat.zero_le _, F1, M1, [], [], Same.refl F1, A1.aside hD, .nil, h1⟩, ?_⟩
  rintro i m H2 ⟨rfl, hi, F2, M2, va, acc, s2, A2, ra, h2⟩
  by_cases hlt : i < xs.length
  · refine .inr ⟨jd.go F2 _ M2 H2 i s2 A2 hlt, fun H' => i + 1 ≤ xs.length ∧ ∃ F3 M3 va acc, Same F1 F3 ∧ Abs K F3 (upd R D (.lst va)) M3 H' ∧ RpA K F3 va acc ∧ dLcN g t de (wipeD η vs) (fun ys M2 => ∀ a, M2 a = none → q (.p a) (updM M2 a (.lst (ys.map L.d)))) (xs.drop (i + 1)) acc M3, ?_, ?_⟩
    · rintro H' ⟨hi', z⟩
      exact ⟨xs.length - (i + 1), by omega, rfl, hi', z⟩
    · intro x H3 hy
      obtain ⟨F3, s3, A3, r3⟩ := jd.yld F2 _ M2 H2 i x H3 xs[i] s2 A2 (List.getElem?_eq_getElem hlt) hy
      have h2' : dLcN g t de (wipeD η vs) (fun ys M2 => ∀ a, M2 a = none → q (.p a) (updM M2 a (.lst (ys.map L.d)))) (xs[i] :: xs.drop (i + 1)) acc M2 := by
        rw [← List.drop_eq_getElem_cons hlt]
        exact h2
      refine gw F3 _ M2 H3 _ _ x (.d xs[i]) _ _ A3 (er_wipe (((E.mono s1).mono s2).mono s3) vs) r3 h2' fun η4 M4 σ4 E4 w4 A4 h4 => ?_
      refine ⟨by rw [w4, wipe_wipe], lt_bind (hG.more (vs := va) rD |>.trans ((s1.trans s2).trans s3)) A4 E4 h4 fun b M5 H5 F5 g5 s5 A5 E5 h5 => ?_⟩
      cases b with
      | false => exact iteF ⟨hlt, F5, M5, va, acc, (s2.trans s3).trans s5, A5, RpA.mono (s3.trans s5) ra, h5⟩
      | true =>
        refine iteT (le_bind g5 A5 E5 h5 fun l M6 v H6 F6 g6 s6 A6 E6 r6 h6 => ?_)
        obtain ⟨y, rfl, hz, h6⟩ := h6
        have r' := RpA.mono ((s3.trans s5).trans s6) ra
        exact ⟨va, (A6.rs D _ upd_same).2, by rw [r'.length]; exact hz, hlt, F6, M6, va ++ [v], acc ++ [y], ((s2.trans s3).trans s5).trans s6, A6.again, r'.append (.cons r6 .nil), h6⟩
  · have e : i = xs.length := by omega
    subst e
    rw [List.drop_length] at h2
    refine .inl ⟨jd.stop F2 _ M2 H2 s2 A2, ?_⟩
    obtain ⟨m0, A3⟩ := A2.keepM (m := .lst (acc.map L.d)) rD ⟨va, (A2.rs D _ upd_same).2, LRs.of_data ra⟩
    exact c (.p D) _ (.ref D) H2 _ (s1.trans s2) A3 rfl (h2 D m0)
theorem px_lcM {ifs : List Expr} {scope : Scope} (own : List (Str × Nat)) {di : DI} {g : DG} {tgH : TG} (gw : GWk X.K tgH g (own.map (·.2))) (hc : X.calm = true) (hN : X.N.Nodup) (hi : PXI X G tg iter di) (ok : blkC X.N X.env.scope scope own = true)
    (hg : ∀ s H C cl fp, PG (bk X scope s H C cl fp) tg tgH) (ht : ∀ s H C cl fp, PTs (bk X scope s H C cl fp) ifs (LT X.K G t))
    (he : ∀ s H C cl fp, PX (bk X scope s H C cl fp) G e de) (hs : ∀ x, foldedSetIterable iter X.env x = pure x := by intro _; rfl) :
    PX X G (.ListComp e [⟨tg, iter, ifs, 0⟩] scope pos) (dLcM di g t de (own.map (·.2))) :=
  pe_imp (pe_lc (te := LE X.K G de) hc hN hi (blkOk_by ok) hg ht he hs) fun _ _ _ h => le_lcM gw h
theorem pxs_setLcM (i : Nat) {y : Str} {py spos : Pos} {ifs : List Expr} {scope : Scope} (own : List (Str × Nat)) {di : DI} {g : DG} {tgH : TG} (gw : GWk X.K tgH g (own.map (·.2))) (hc : X.calm = true) (hN : X.N.Nodup) (hi : PXI X G tg iter di) (ok : blkC X.N X.env.scope scope own = true)
    (hg : ∀ s H C cl fp, PG (bk X scope s H C cl fp) tg tgH) (ht : ∀ s H C cl fp, PTs (bk X scope s H C cl fp) ifs (LT X.K G t))
    (he : ∀ s H C cl fp, PX (bk X scope s H C cl fp) G e de) (hsw : swapsWith (.ListComp e [⟨tg, iter, ifs, 0⟩] scope pos) (some (.Name y py)) spos.line X.env = pure true) (hy : X.N[i]? = some y := by rfl) (hyl : X.env.scope.names.lookup y = some .local := by rfl) (hs : ∀ x, foldedSetIterable iter X.env x = pure x := by intro _; rfl) :
    PXS X G (.Assign [.Name y py] (.ListComp e [⟨tg, iter, ifs, 0⟩] scope pos) spos) (dSet i (dLcM di g t de (own.map (·.2)))) := by
  refine ps_imp (ps_setLc (te := LE X.K G de) hc hN hy hyl hsw hi (blkOk_by ok) hg ht he hs) ?_
  rintro D σ H ⟨F, R, η, M, d, hG, A, E, h, k⟩
  exact le_lcM gw (le_bind hG A E h fun l M1 v H1 F1 g1 s1 A1 E1 r1 h1 => k.nx _ M1 _ H1 F1 s1 A1 (E1.set i r1) h1)
/-- [..] * n: a list that will be changed -/
def dMulM (da db : DE) : DE := fun η M q => da η M fun a M1 => db η M1 fun b M2 => ∃ xs k, rd M2 a = some (.list xs) ∧ b = .d (.int k) ∧ -(2 ^ 63) ≤ k ∧ k < 2 ^ 63 ∧ xs.length * k.toNat ≤ sizeLine ∧ ∀ p, M2 p = none → q (.p p) (updM M2 p (.lst ((List.replicate k.toNat xs).flatten.map L.d)))
theorem px_mulM (ha : PX X G a da) (hb : PX X G b db) : PX X G (.BinOp a .Mult b pos) (dMulM da db) := by
  refine pe_imp (pe_op op_repL ha hb) ?_
  rintro σ H Q ⟨F, R, η, M, q, hG, A, E, h, c⟩
  refine le_bind hG A E h fun x M1 vx H1 F1 g1 s1 A1 E1 r1 h1 => le_bind g1 A1 E1 h1 fun y M2 vy H2 F2 g2 s2 A2 E2 r2 h2 => ?_
  obtain ⟨xs, k, e1, rfl, k0, k1, hz, h2⟩ := h2
  obtain ⟨p, vs, rfl, t1, u1⟩ := rd_list A2 (r1.mono s2) e1
  obtain rfl : vy = .int k := by cases r2; rfl
  refine ⟨p, k, vs, rfl, rfl, t1, k0, k1, by rw [u1.length]; exact hz, fun l hl => ?_⟩
  exact c (.p l) _ (.ref l) _ F2 (s1.trans s2) (A2.new (m := .lst ((List.replicate k.toNat xs).flatten.map L.d)) hl ⟨_, upd_same, LRs.of_data (rpa_flat u1 _)⟩) rfl (h2 l (A2.freeM hl))
end
end DL
end
section
/-! x, *rest = a tuple -/
namespace DL
open PySem PySem.Spec PyProof.Rows L2
theorem star_items {prog : Program} {w : World} {A : Around} {E : Value → Shared → Prop} {s : Shared} {l : Addr} {items : Array Value} {i : Nat} {Q : List Value → Shared → Prop}
    (hh : A.handled = none) (ht : IsTup s.heap l items) (hi : i ≤ items.size) (hz : items.size ≤ 16384)
    (h : ∀ (D : Addr) (h' : Heap) (tk : Nat), s.heap.get? D = none → (∀ b o, s.heap.get? b = some o → h'.get? b = some o) → h'.get? D = some (W.listOf (items.toList.drop i).toArray 0) →
      Q (items.toList.take i ++ [.ref D]) { s with heap := h', toks := tk }) :
    wpAny (model prog w) A (unpackItems (.ref l) (i + 1) (some i)) Q E s := by
  have hlt : l < s.heap.objs.size := by obtain ⟨o, e, _⟩ := ht; exact Heap.lt_size e
  have hne : l ≠ s.heap.objs.size := Nat.ne_of_lt hlt
  unfold unpackItems notIterableAtAll
  refine wpAny_bind (wpAny_bind (wpAny_specialOf ht.typeIs slot_tuple_iter.lookup ?_))
  refine wpAny_ite_true rfl (wpAny_pure ?_)
  refine wpAny_ite_false (by decide) ?_
  refine wpAny_bind (wpAny_holding (iter_tuple ht ?_))
  dsimp only
  have g0 : (s.heap.push { cls := .type "tuple_iterator", data := .fields #[Value.ref l, Value.int 0 0] }).get? s.heap.objs.size = some { cls := .type "tuple_iterator", data := .fields #[Value.ref l, Value.int 0 0] } := Heap.get?_push_size _ rfl
  refine wpAny_bind (wpAny_holding (draw_tuple hne i 0 _ _ ⟨_, g0, rfl, rfl⟩ (ht.push _) (by omega) fun h1 hI hS => ?_))
  rw [Nat.zero_add] at hI
  rw [List.drop_zero]
  have hl1 : (items.toList.take i).length = i := by rw [List.length_take, Array.length_toList]; omega
  refine wpAny_ite_false (by rw [hl1]; simp) ?_
  have k1 : ∀ b o, s.heap.get? b = some o → h1.get? b = some o := fun b o e => by
    rw [hS.2 b (Nat.ne_of_lt (Heap.lt_size e))]
    exact Heap.get?_push_of_some _ e
  have hz1 : h1.objs.size = s.heap.objs.size + 1 := by
    rw [hS.1]
    exact Heap.size_push ..
  have a1 : s.heap.objs.size < h1.objs.size := by omega
  have a2 : l < h1.objs.size := Nat.lt_trans hlt a1
  refine wpAny_bind (wpAny_holding (W.kun_collect (T := "tuple_iterator") (.inr (.inr (.inr rfl))) (Walks.tuple (A := A.in1) hh s.heap.objs.size l hne items) (fun j u st => st.1.typeIs) (k := i) hi ⟨hI, ?_⟩ a1 a2 (fun h2 tk k2 => ?_) (by rw [sizeLine_eq]; omega)))
  · obtain ⟨o, e, c, m, d⟩ := ht
    exact ⟨o, k1 _ _ e, c, m, d⟩
  refine wpAny_ite_false (by simp) ?_
  have e0 : (items.toList.drop i).length - (i + 1 - 1 - i) = (items.toList.drop i).length := by omega
  rw [e0, List.take_length, List.drop_length]
  have k3 : ∀ b o, s.heap.get? b = some o → h2.get? b = some o := fun b o e => k2 b o (Nat.ne_of_lt (Heap.lt_size e)) (k1 b o e)
  refine wpAny_bind (wpAny_newList ?_ (by rw [List.length_drop, Array.length_toList, sizeLine_eq]; omega))
  refine wpAny_pure ?_
  rw [List.append_nil]
  refine h h2.objs.size _ tk ?_ (fun b o e => Heap.get?_push_of_some _ (k3 b o e)) (Heap.get?_push_size _ rfl)
  cases e : s.heap.get? h2.objs.size with
  | none => rfl
  | some o => exact absurd (Heap.lt_size (k3 _ _ e)) (Nat.lt_irrefl _)
section
variable {X : Cx}
theorem objOk_some {P : Program} {w : World} {H : Hp} {h : Heap} {a : Addr} {x : HO} (hx : ObjOk P w H h a x) : ∃ o, h.get? a = some o := by
  cases x
  all_goals simp only [ObjOk] at hx
  · obtain ⟨_, _, _, _, e⟩ := hx; exact ⟨_, e⟩
  · obtain ⟨_, _, _, o, e, _⟩ := hx; exact ⟨_, e⟩
  · obtain ⟨_, _, _, _, o, _, _, e, _⟩ := hx; exact ⟨_, e⟩
  · obtain ⟨_, _, _, _, o, _, _, e, _⟩ := hx; exact ⟨_, e⟩
  · obtain ⟨o, _, _, _, e, _⟩ := hx; exact ⟨_, e⟩
  · exact ⟨_, hx.2.2.2.1⟩
  · exact hx
  · obtain ⟨_, h, _⟩ := hx
    obtain ⟨o, _, _, e, _⟩ := h
    exact ⟨_, e⟩
  · exact ⟨_, hx⟩
  · obtain ⟨_, _, _, e⟩ := hx; exact ⟨_, e⟩
  · exact ⟨_, hx.1⟩
  · exact ⟨_, hx⟩
  · exact hx.2.1
theorem inv_new1 {pins : List (Addr × Obj)} {σ : L2.St} {H : Hp} {s : Shared} {h' : Heap} {t' : Nat} {D : Addr} {x : HO} (I : L2.Inv X pins σ H s) (k : ∀ b u, s.heap.get? b = some u → h'.get? b = some u)
    (hD : s.heap.get? D = none) (ho : ObjOk X.prog X.w (upd H D x) h' D x) : H D = none ∧ L2.Inv X pins σ (upd H D x) { s with heap := h', toks := t' } := by
  have hn : H D = none := by
    cases e : H D with
    | none => rfl
    | some u =>
      obtain ⟨o, e2⟩ := objOk_some (I.hok D u e)
      rw [hD] at e2
      cases e2
  have up : ∀ b u, H b = some u → upd H D x b = some u := fun b u e => by
    rw [upd_ne (show b ≠ D from fun z => by rw [z, hn] at e; cases e)]
    exact e
  refine ⟨hn, I.un ⟨fun b o e _ _ _ => k b o e, fun b o e _ _ _ => ⟨o.slots, k b o e⟩, fun b o e n _ => ?_, fun b o e _ => ⟨o, k b o e⟩, fun b xs e => up b _ e, fun b o u e => up b _ e, fun b ps e => ⟨#[], by rw [up b _ e]; simp⟩⟩ ?_⟩
  · rw [upd_ne (show b ≠ D from fun z => by rw [z, hD] at e; cases e)]
    exact n
  · intro b u e
    by_cases z : b = D
    · subst z
      rw [upd_same] at e
      cases e
      exact ho
    · rw [upd_ne z] at e
      exact (I.hok b u e).stay (fun c v _ q => k c v q) (fun c q => up c _ q) fun c xs q => up c _ q
/-- x, *rest = a tuple: the first i items, a new list of the rest -/
def gStarK (K : PySem.W.Frag) (i : Nat) (t : TGs) : TG := fun v σ H Q => ∃ a xs, v = .ref a ∧ SqT K H a xs ∧ i ≤ xs.length ∧ xs.length ≤ 16384 ∧ ∀ p, H p = none → t (xs.take i ++ [.ref p]) σ (upd H p (.lst (xs.drop i))) Q
theorem vals_take : ∀ {xs : List V} {us : List Value} (i : Nat), Vals xs us → Vals (xs.take i) (us.take i)
  | _, _, 0, _ => .nil
  | _, _, _ + 1, .nil => .nil
  | _, _, i + 1, .cons r t => .cons r (vals_take i t)
theorem vals_drop : ∀ {xs : List V} {us : List Value} (i : Nat), Vals xs us → Vals (xs.drop i) (us.drop i)
  | _, _, 0, r => r
  | _, _, _ + 1, .nil => .nil
  | _, _, i + 1, .cons _ t => vals_drop i t
theorem vals_app : ∀ {xs : List V} {us : List Value} {ys : List V} {vs : List Value}, Vals xs us → Vals ys vs → Vals (xs ++ ys) (us ++ vs)
  | _, _, _, _, .nil, r => r
  | _, _, _, _, .cons r t, r2 => .cons r (vals_app t r2)
theorem pg_star {es es' : List Expr} {k i : Nat} {t : TGs} {pos : Pos} (hc : X.calm = true) (h : PGs X es' t)
    (hn : (assignEach es X.env).length = i + 1) (hst : (assignEach es X.env).findIdx? (·.1) = some i) (hs : (assignEach es X.env).map (·.2) = (assignEach es' X.env).map (·.2)) : PG X (.Tuple es k pos) (gStarK X.K i t) := by
  refine ⟨fun pins s σ H v u Q I r h1 => ?_⟩
  obtain ⟨a, xs, rfl, hT, hi, hz, q⟩ := h1
  obtain ⟨its, rv, hl, _⟩ := I.tuple hT
  obtain rfl : u = .ref a := r
  have hlen : its.length = xs.length := rv.length.symm
  rw [arm_assign_Tuple]
  refine wpAny_bind (wpAny_standAt ?_)
  unfold unpack
  rw [hn, hst]
  refine wpAny_bind (wpAny_holding (star_items (items := its.toArray) (i := i) (I.ok.hd hc) hl (by simpa [hlen] using hi) (by simpa [hlen] using hz) fun D h' tk hD hk hL => ?_))
  have oD : ObjOk X.prog X.w (upd H D (.lst (xs.drop i))) h' D (.lst (xs.drop i)) := by
    refine ⟨?_, its.drop i, 0, vals_drop i rv, by simpa using hL⟩
    rw [List.length_drop, sizeLine_eq]
    omega
  obtain ⟨hn, I2⟩ := inv_new1 (t' := tk) I hk hD oD
  rw [hs]
  exact h.run pins _ σ _ _ _ Q I2 (vals_app (by simpa using vals_take i rv) (.cons (show L2.RelV (.ref D) (.ref D) from rfl) .nil)) (q D hn)
/-- the same, of data -/
def gStar (i : Nat) (gs : DGs) : DG := fun l η M q => ∃ xs, l = .d (.tuple xs) ∧ i ≤ xs.length ∧ xs.length ≤ 16384 ∧ gs ((xs.take i).map L.d ++ [.d (.list (xs.drop i))]) η M q
theorem rpa_take {K : PySem.W.Frag} {F : Hp} : ∀ {vs : List V} {ds : List PyData} (i : Nat), RpA K F vs ds → RpA K F (vs.take i) (ds.take i)
  | _, _, 0, _ => .nil
  | _, _, _ + 1, .nil => .nil
  | _, _, i + 1, .cons r t => .cons r (rpa_take i t)
theorem rpa_drop {K : PySem.W.Frag} {F : Hp} : ∀ {vs : List V} {ds : List PyData} (i : Nat), RpA K F vs ds → RpA K F (vs.drop i) (ds.drop i)
  | _, _, 0, r => r
  | _, _, _ + 1, .nil => .nil
  | _, _, i + 1, .cons _ t => rpa_drop i t
theorem lrs_app {K : PySem.W.Frag} {F : Hp} : ∀ {vs : List V} {ls : List L} {ws : List V} {ms : List L}, LRs K F vs ls → LRs K F ws ms → LRs K F (vs ++ ws) (ls ++ ms)
  | _, _, _, _, .nil, r => r
  | _, _, _, _, .cons r t, r2 => .cons r (lrs_app t r2)
theorem pxg_star {G : GH} {es es' : List Expr} {k i : Nat} {gs : DGs} {pos : Pos} (hc : X.calm = true) (h : PXGs X G es' gs)
    (hn : (assignEach es X.env).length = i + 1 := by rfl) (hst : (assignEach es X.env).findIdx? (·.1) = some i := by rfl) (hs : (assignEach es X.env).map (·.2) = (assignEach es' X.env).map (·.2) := by rfl) : PXG X G (.Tuple es k pos) (gStar i gs) := by
  refine pg_imp (pg_star hc h hn hst hs) ?_
  rintro v σ H Q ⟨F, R, η, M, l, q, hG, A, E, r, ⟨xs, rfl, hi, hz, h⟩, c⟩
  obtain ⟨a, vs, rfl, hT, ra⟩ := rd_tuple A r rfl
  refine ⟨a, vs, rfl, hT, by rw [ra.length]; exact hi, by rw [ra.length]; exact hz, fun p hp => ?_⟩
  have s := same_new (o := .lst (vs.drop i)) (A.freeF hp)
  refine ⟨_, R, η, M, _, q, hG.trans s, A.frz hp, E.mono s, lrs_app (LRs.of_data (RpA.mono s (rpa_take i ra))) (.cons (show LR _ _ (.ref p) (.d (.list (xs.drop i))) from Rp.lst (.inl (.inl upd_same)) (RpA.mono s (rpa_drop i ra))) .nil), h, fun η' M' σ' H' F' s' => c η' M' σ' H' F' (s.trans s')⟩
end
end DL
end
section
set_option maxHeartbeats 1000000
/-! a dict == a text -/
namespace DL
open PySem PySem.Spec PyProof.Rows L2
theorem sub_str_dict : isSubtype (.type "str") (.type "dict") = pure false := by rfl
theorem dict_eq_str (l : Addr) (o : Obj) (b : Str) (u : Tok) :
    Meets (Builtin.«dict.__eq__» { pos := [Value.ref l, Value.str b u] }) fun x R s => s.heap.get? l = some o ∧ R (Except.ok (Flow.ret Value.notImplemented)) s :=
  .of_wp fun prog w A R s h => by
    obtain ⟨hp, g, d, tk, os⟩ := s
    obtain ⟨hl, h⟩ := h
    wp_walk using wpAny_loadPart' hl
    rw [sub_str_dict]
    refine wpAny_pure ?_
    refine wpAny_ite_true rfl ?_
    wp_walk using wpAny_loadPart' hl
    exact ⟨_, rfl, h⟩
theorem str_eq_dict (l : Addr) (o : Obj) (es : Array DictEntry) (ep : Nat) (b : Str) (u : Tok) (hd : o.data = .dict es ep) :
    Meets (Builtin.«str.__eq__» { pos := [Value.str b u, Value.ref l] }) fun x R s => s.heap.get? l = some o ∧ R (Except.ok (Flow.ret Value.notImplemented)) s :=
  .of_wp fun prog w A R s h => by
    obtain ⟨hp, g, d, tk, os⟩ := s
    obtain ⟨hl, h⟩ := h
    wp_walk using wpAny_loadPart' hl
    rw [hd]
    refine wpAny_pure ?_
    wp_walk using wpAny_loadPart' hl
    exact ⟨_, rfl, h⟩
theorem same_ref_str {M : Model} {A : Around} {E : Value → Shared → Prop} {s : Shared} {l : Addr} {b : Str} {u : Tok} {R : Bool → Shared → Prop} (h : R false s) : wpAny M A (isSame (.ref l) (.str b u)) R E s := by
  unfold isSame
  exact wpAny_pure h
theorem rc_dict_str {prog : Program} {w : World} {A : Around} {E Q : Value → Shared → Prop} {s : Shared} {l : Addr} {o : Obj} {b : Str} {u : Tok} {es : Array DictEntry} {ep : Nat} (ho : s.heap.get? l = some o) (hc : o.cls = .type "dict") (hd : o.data = .dict es ep) (hu : A.units < cLine) (h : Q (.bool false) s) :
    wpAny (model prog w) A (compareOp .Eq (.ref l) (.str b u)) Q E s := by
  have tl : s.TypeIs (.ref l) "dict" := ⟨o, ho, hc⟩
  have ts : s.TypeIs (.str b u) "str" := rfl
  exact SeqAt.rc_eq_decline_or (k := false) tl ts (by decide) sub_str_dict F.slot_dict_eq F.slot_str_eq_refl
    (fun Q' hq => call_meets F.slot_dict_eq tl F.entry_dict_eq (F.args_dict_eq_2 _ _) (dict_eq_str l o b u) ⟨ho, hq⟩)
    (fun Q' hq => call_meets F.slot_str_eq_refl ts F.entry_str_eq (F.args_str_eq_2 _ _) (str_eq_dict l o es ep b u hd) ⟨ho, hq⟩)
    (fun Q' hq => same_ref_str hq) (.inr hu) h
/-- ==, a dict beside a text among it -/
def eqX (x y : PyData) (q : PyData → Prop) : Prop := eqW x y q ∨ ∃ kvs z, x = .dict kvs ∧ y = .str z ∧ q (.bool false)
section
variable {X : Cx} {G : GH} {a b : Expr} {da db : DE} {pos : Pos}
theorem opx_eqX (hu : X.A.units + 64 < cLine) : OpR X (compareOp .Eq) (rW X.K eqX) := by
  rintro pins s σ H x y v u Q I rx ry ⟨F, R, M, a, b, q, A, ra, rb, ⟨da, db, ea, eb, h⟩, c⟩
  rcases h with h | ⟨kvs, z, rfl, rfl, h⟩
  · exact opx_eq hu pins s σ H x y v u Q I rx ry ⟨F, R, M, a, b, q, A, ra, rb, ⟨da, db, ea, eb, h⟩, c⟩
  · have r1 := rd_rep A ra ea
    have r2 := rd_rep A rb eb
    cases r2
    obtain ⟨t, rfl⟩ := ry
    cases r1 with
    | dct e1 _ =>
      obtain rfl : v = _ := rx
      obtain ⟨_, _, vs, _, o, es, ep, ho, hx, hd, _⟩ := I.hok _ _ e1
      exact rc_dict_str ho hx.1 hd (by omega) ⟨.bl _, H, I, rfl, c.plain A (.bl _) h⟩
theorem x_eqX {k : Nat} (hr : RoomG k X.A) (ha : PX X G a da) (hb : PX X G b db) : PX X G (.Compare a [.Eq] [b] pos) (dOp (dBin eqX) da db) := px_cmp (opx_eqX hr.rm.units) (opD_of _) ha hb
theorem t_eqX {k : Nat} (hr : RoomG k X.A) (ha : PX X G a da) (hb : PX X G b db) : PXT X G (.Compare a [.Eq] [b] pos) (dTst (dOp (dBin eqX) da db)) := pxt_cmp (opx_eqX hr.rm.units) ha hb
end
end DL
end
section
set_option maxHeartbeats 1000000
/-! sorted: of data of one kind -/
namespace DL
open PySem PySem.Spec PyProof.Rows L2
def rSortD (K : PySem.W.Frag) : List V → Hp → VK → Prop := fun vs H Q => ∃ (a : Addr) (xs : List V) (ds : List PyData) (F : Hp), vs = [V.ref a] ∧ SqL K H a xs ∧ Same F H ∧ RpA K F xs ds ∧ W.AllAlike ds ∧ W.Sortable ds ∧ ds.length ≤ sizeLine ∧ (∀ d ∈ ds, d.depth ≤ 40) ∧
  ∀ (ys : List V) (p : Addr), H p = none → RpA K F ys (ds.mergeSort (W.dataLe false id)) → Q (.ref p) (upd H p (.lst ys))
theorem each_zip {α β γ : Type} {R : α → β × γ → Prop} : ∀ {us : List α} {ds : List β} {xs : List γ}, us.length = xs.length → ds.length = xs.length → (∀ (j : Nat) u d x, us[j]? = some u → ds[j]? = some d → xs[j]? = some x → R u (d, x)) → W.EachIs R us (ds.zip xs)
  | [], [], [], _, _, _ => .nil
  | [], _ :: _, [], _, h, _ => by simp at h
  | _ :: _, [], [], h, _, _ => by simp at h
  | [], _, _ :: _, h, _, _ => by simp at h
  | _, [], _ :: _, _, h, _ => by simp at h
  | _ :: _, _ :: _, [], h, _, _ => by simp at h
  | u :: us, d :: ds, x :: xs, h1, h2, h => .cons (h 0 u d x rfl rfl rfl) (each_zip (by simpa using h1) (by simpa using h2) fun j u d x e1 e2 e3 => h (j + 1) u d x (by simpa using e1) (by simpa using e2) (by simpa using e3))
theorem rpa_get {K : PySem.W.Frag} {F : Hp} : ∀ {vs : List V} {ds : List PyData} {j : Nat} {v : V} {d : PyData}, RpA K F vs ds → vs[j]? = some v → ds[j]? = some d → Rp K F v d
  | _, _, 0, _, _, .cons r _, h1, h2 => by cases h1; cases h2; exact r
  | _, _, j + 1, _, _, .cons _ t, h1, h2 => rpa_get t (by simpa using h1) (by simpa using h2)
theorem vals_get : ∀ {xs : List V} {us : List Value} {j : Nat} {x : V} {u : Value}, Vals xs us → xs[j]? = some x → us[j]? = some u → L2.RelV x u
  | _, _, 0, _, _, .cons r _, h1, h2 => by cases h1; cases h2; exact r
  | _, _, j + 1, _, _, .cons _ t, h1, h2 => vals_get t (by simpa using h1) (by simpa using h2)
theorem each_vals {K : PySem.W.Frag} {H : Hp} : ∀ {us : List Value} {bs : List (PyData × V)}, W.EachIs (fun u b => L2.RelV b.2 u ∧ Rp K H b.2 b.1) us bs → Vals (bs.map (·.2)) us ∧ RpA K H (bs.map (·.2)) (bs.map (·.1))
  | [], [], .nil => ⟨.nil, .nil⟩
  | _ :: _, _ :: _, .cons h t => ⟨.cons h.1 (each_vals t).1, .cons h.2 (each_vals t).2⟩
section
variable {X : Cx}
theorem cr_sortD (hu : X.A.units + 64 < cLine) : CallR X (.builtin "sorted") (rSortD X.K) := by
  rintro pins s σ H vs us Q I r ⟨a, xs, ds, F, rfl, hs, sF, ha, hal, hso, hz, hd, q⟩
  obtain ⟨its, rv, hl, _⟩ := I.list hs
  rw [Vals.ref1 r]
  have l1 : its.length = xs.length := rv.length.symm
  have l2 : ds.length = xs.length := ha.length.symm
  have em : (ds.zip xs).map Prod.fst = ds := by rw [List.map_fst_zip]; omega
  refine W.sorted_data (vs := its) (bs := ds.zip xs) (enc := Prod.fst) (R := fun u b => L2.RelV b.2 u ∧ Rp X.K F b.2 b.1) hl.isList
    (each_zip l1 l2 fun j u d x e1 e2 e3 => ⟨vals_get rv e3 e1, rpa_get ha e3 e2⟩)
    (each_zip l1 l2 fun j u d x e1 e2 e3 => by
      obtain ⟨as, h, _⟩ := Rp.reads I ((rpa_get ha e3 e2).mono sF) (vals_get rv e3 e1)
      exact ⟨as, h⟩) (by rw [em]; exact hal) (by rw [em]; exact hso) (by rw [List.length_zip]; omega) (fun b hb => ?_) fun out ho he => ?_
  · have := hd b.1 (List.of_mem_zip hb).1
    omega
  · have ek : ((ds.zip xs).mergeSort (W.dataLe false Prod.fst)).map (·.1) = ds.mergeSort (W.dataLe false id) := by
      have := List.map_mergeSort (r := W.dataLe false (Prod.fst : PyData × V → PyData)) (s := W.dataLe false id) (f := Prod.fst) (l := ds.zip xs) (fun _ _ _ _ => rfl)
      rw [em] at this
      exact this
    obtain ⟨v1, v2⟩ := each_vals he
    rw [ek] at v2
    obtain ⟨c, hg⟩ := sortedAll_at s.heap its out.toArray
    have oD : ObjOk X.prog X.w (upd H (s.heap.objs.size + 1) (.lst (((ds.zip xs).mergeSort (W.dataLe false Prod.fst)).map (·.2)))) (sortedAll s.heap its out.toArray) (s.heap.objs.size + 1) (.lst (((ds.zip xs).mergeSort (W.dataLe false Prod.fst)).map (·.2))) := by
      refine ⟨?_, out, c, v1, hg⟩
      rw [List.length_map, List.length_mergeSort, List.length_zip]
      omega
    have hD : s.heap.get? (s.heap.objs.size + 1) = none := by
      cases e : s.heap.get? (s.heap.objs.size + 1) with
      | none => rfl
      | some o => exact absurd (Heap.lt_size e) (Nat.not_lt.mpr (Nat.le_succ _))
    obtain ⟨hn, I2⟩ := inv_new1 (t' := s.toks) I (fun b u e => sortedAll_old e) hD oD
    exact ⟨.ref (s.heap.objs.size + 1), _, I2, rfl, q _ _ hn v2⟩
end
/-- sorted: of data of one kind -/
def sortDW : PyData → (PyData → Prop) → Prop
  | .list ds, q => W.AllAlike ds ∧ W.Sortable ds ∧ ds.length ≤ sizeLine ∧ (∀ d ∈ ds, d.depth ≤ 40) ∧ q (.list (ds.mergeSort (W.dataLe false id)))
  | _, _ => False
section
variable {X : Cx}
theorem cd_sortD : CallD X.K (rSortD X.K) (d1 sortDW) := by
  rintro F R M H xs ls q Q A rr ⟨a, x, rfl, e, h⟩ c
  obtain ⟨v, rfl, r⟩ := lrs1 rr
  cases x with
  | list ds =>
    obtain ⟨h1, h2, h3, h4, h⟩ := h
    obtain ⟨p, vs, rfl, s, r2⟩ := rd_list A r e
    exact ⟨p, vs, ds, F, rfl, s.l, A.fz, r2, h1, h2, h3, h4, fun ys b hb rs => c.lst A hb rs h⟩
  | _ => exact h.elim
end
end DL
end
section
set_option maxHeartbeats 1000000
/-! repr([..]): dicts may be in it -/
namespace DL
open PySem PySem.Spec PyProof.Rows L2
def reprOkL (xs : List PyData) : Prop := (PyData.list xs).showable = true ∧ (PyData.list xs).shown.length ≤ sizeLine ∧ (PyData.list xs).depth ≤ 60 ∧ ((PyData.list xs).hasDict = true → hasListA xs = false)
def tReprL (X : Cx) (t : TA) : TE := fun σ H Q => t σ H fun xs H1 => ∃ ds, RpA X.K H1 xs ds ∧ ds.length ≤ sizeLine ∧ reprOkL ds ∧ ∀ p, H1 p = none → Q (.str (PyData.list ds).shown) (upd H1 p (.lst xs))
section
variable {X : Cx} {G : GH} {es : List Expr} {ds : DA} {t : TA} {p p2 pos : Pos}
theorem pe_reprL (hr : RoomG 0 X.A) (hm : X.mg "repr" = none) (hg : Gl X "repr") (h : PA X es t)
    (na : starEach [.List es p2] X.env = (false, eval (.List es p2) X.env) :: starEach [] X.env := by rfl) (hp : (backTo pos (starEach [] X.env)).any (·.1) = false := by rfl) :
    PE X (.Call (.Name "repr" p) [.List es p2] [] pos) (tReprL X t) := by
  refine ⟨fun pins s σ H Q I hq => ?_⟩
  refine Call_ (ld_blt I hg hm boot_repr (PyProof.Rows.callWith_builtin1 (args_cons (wpAny_List_spliced (thn (h.run p2 pins s σ H _ I hq) ?_)) na) na hp))
  rintro us s1 ⟨xs, H1, I1, r, ds, ra, hz, ⟨o1, o2, o3, o4⟩, q⟩
  have hz1 : us.length ≤ sizeLine := by rw [← r.length, ra.length]; exact hz
  refine ⟨hz1, args_nil ?_⟩
  have g0 : (s1.heap.push { cls := .type "list", data := .seq us.toArray }).get? s1.heap.objs.size = some { cls := .type "list", data := .seq us.toArray } := Heap.get?_push_size _ rfl
  have I2 : L2.Inv X pins σ (upd H1 s1.heap.objs.size (.lst xs)) { s1 with heap := s1.heap.push { cls := .type "list", data := .seq us.toArray }, toks := s1.toks } :=
    I1.laid (t' := s1.toks) (fun b u e => Heap.get?_push_of_some _ e) (Nat.le_refl _) (o := .lst xs) ⟨by rw [r.length]; exact hz1, us, 0, r, g0⟩
  have fr := I1.hok.fresh (Nat.le_refl s1.heap.objs.size)
  have big : sysModules < s1.heap.objs.size := I1.big
  obtain ⟨as, rd, no⟩ := RpA.reads I2 (RpA.mono (same_new fr) ra) r
  have rd2 : Reads (s1.heap.push { cls := .type "list", data := .seq us.toArray }) (.ref s1.heap.objs.size) (.list ds) (s1.heap.objs.size :: as) := Reads.list g0 rfl rfl rd
  have hu : X.A.units + 200 < cLine := by have := hr.rm.un; omega
  refine repr_of_reads' rd2 o1 (fun z hm => ?_) hr.gd (by omega) (fun _ _ e => e) (fun h' u tk k => ⟨.str _, _, I2.kept (h' := h') (t' := tk) k, ⟨_, rfl⟩, q _ fr⟩) o2
  rcases List.mem_cons.mp hm with e | e
  · rw [e] at big
    exact Nat.lt_irrefl _ big
  · exact no (o4 z) e
def dReprL (ds : DA) : DE := fun η M q => ds η M fun ls M1 => ∃ xs, ls = xs.map L.d ∧ xs.length ≤ sizeLine ∧ reprOkL xs ∧ q (.d (.str (PyData.list xs).shown)) M1
theorem px_reprL (hr : RoomG 0 X.A) (hm : X.mg "repr" = none) (h : PXA X G es ds) (hg : Gl X "repr" := by rfl)
    (na : starEach [.List es p2] X.env = (false, eval (.List es p2) X.env) :: starEach [] X.env := by rfl) (hp : (backTo pos (starEach [] X.env)).any (·.1) = false := by rfl) :
    PX X G (.Call (.Name "repr" p) [.List es p2] [] pos) (dReprL ds) := by
  refine pe_imp (pe_reprL hr hm hg h na hp) ?_
  rintro σ H Q ⟨F, R, η, M, q, hG, A, E, h, c⟩
  refine la_bind hG A E h fun ls M1 vs H1 F1 g1 s1 A1 E1 r1 h1 => ?_
  obtain ⟨xs, rfl, hz, ho, h1⟩ := h1
  have r1 := r1.data
  refine ⟨xs, RpA.mono A1.fz r1, hz, ho, fun p hp => ?_⟩
  exact (c.mono (s1.trans (same_new (A1.freeF hp)))).plain (A1.frz hp) (.str _) h1
end
end DL
end
section
set_option maxHeartbeats 1000000
/-! == and in, dicts on one side at most -/
namespace DL
open PySem PySem.Spec PyProof.Rows L2 SeqAt
def DicO (s : Shared) (l : Addr) : Prop := ∃ o, s.heap.get? l = some o ∧ o.cls = .type "dict" ∧ ∃ es ep, o.data = .dict es ep
theorem dq_none (l : Addr) : Meets (Builtin.«dict.__eq__» { pos := [Value.ref l, .none] }) fun _ R s => DicO s l ∧ R (.ok (.ret .notImplemented)) s :=
  .of_wp fun prog w A R s h => by
    obtain ⟨hp, g, d, tk, os⟩ := s
    obtain ⟨⟨o, hl, _⟩, h⟩ := h
    have f1 : isSubtype (.type "NoneType") (.type "dict") = pure false := rfl
    wp_walk using wpAny_loadPart' hl
    exact ⟨_, rfl, h⟩
theorem dq_bool (l : Addr) (b : Bool) : Meets (Builtin.«dict.__eq__» { pos := [Value.ref l, .bool b] }) fun _ R s => DicO s l ∧ R (.ok (.ret .notImplemented)) s :=
  .of_wp fun prog w A R s h => by
    obtain ⟨hp, g, d, tk, os⟩ := s
    obtain ⟨⟨o, hl, _⟩, h⟩ := h
    have f1 : isSubtype (.type "bool") (.type "dict") = pure false := rfl
    wp_walk using wpAny_loadPart' hl
    exact ⟨_, rfl, h⟩
theorem dq_int (l : Addr) (b : Int) (t : Tok) : Meets (Builtin.«dict.__eq__» { pos := [Value.ref l, .int b t] }) fun _ R s => DicO s l ∧ R (.ok (.ret .notImplemented)) s :=
  .of_wp fun prog w A R s h => by
    obtain ⟨hp, g, d, tk, os⟩ := s
    obtain ⟨⟨o, hl, _⟩, h⟩ := h
    have f1 : isSubtype (.type "int") (.type "dict") = pure false := rfl
    wp_walk using wpAny_loadPart' hl
    exact ⟨_, rfl, h⟩
theorem dq_seq (l b : Addr) (T : String) (hT : isSubtype (.type T) (.type "dict") = pure false) : Meets (Builtin.«dict.__eq__» { pos := [Value.ref l, .ref b] }) fun _ R s => DicO s l ∧ (∃ o, s.heap.get? b = some o ∧ o.cls = .type T) ∧ R (.ok (.ret .notImplemented)) s :=
  .of_wp fun prog w A R s h => by
    obtain ⟨hp, g, d, tk, os⟩ := s
    obtain ⟨⟨o, hl, _⟩, ⟨⟨cls, dd, data, sl⟩, hb, hc⟩, h⟩ := h
    simp only at hc
    subst hc
    have f1 := hT
    wp_walk using wpAny_loadPart' hl, wpAny_loadPart' hb
    exact ⟨_, rfl, h⟩
theorem iq_bool (l : Addr) (b : Bool) : Meets (Builtin.«int.__eq__» { pos := [Value.bool b, .ref l] }) fun _ R s => DicO s l ∧ R (.ok (.ret .notImplemented)) s :=
  .of_wp fun prog w A R s h => by
    obtain ⟨hp, g, d, tk, os⟩ := s
    obtain ⟨⟨⟨cls, dd, data, sl⟩, hl, hc, es, ep, hd⟩, h⟩ := h
    simp only at hc hd
    subst hc hd
    wp_walk using wpAny_loadPart' hl, wpAny_load hl
    exact ⟨_, rfl, h⟩
theorem iq_int (l : Addr) (b : Int) (t : Tok) : Meets (Builtin.«int.__eq__» { pos := [Value.int b t, .ref l] }) fun _ R s => DicO s l ∧ R (.ok (.ret .notImplemented)) s :=
  .of_wp fun prog w A R s h => by
    obtain ⟨hp, g, d, tk, os⟩ := s
    obtain ⟨⟨⟨cls, dd, data, sl⟩, hl, hc, es, ep, hd⟩, h⟩ := h
    simp only at hc hd
    subst hc hd
    wp_walk using wpAny_loadPart' hl, wpAny_load hl
    exact ⟨_, rfl, h⟩
theorem lq_dict (l b : Addr) : Meets (Builtin.«list.__eq__» { pos := [Value.ref l, .ref b] }) fun _ R s => DicO s b ∧ (∃ o its n, s.heap.get? l = some o ∧ o.cls = .type "list" ∧ o.data = .seq its n) ∧ R (.ok (.ret .notImplemented)) s :=
  .of_wp fun prog w A R s h => by
    obtain ⟨hp, g, d, tk, os⟩ := s
    obtain ⟨⟨⟨cls, dd, data, sl⟩, hl, hc, es, ep, hd⟩, ⟨⟨cls2, dd2, data2, sl2⟩, its, n, hl2, hc2, hd2⟩, h⟩ := h
    simp only at hc hd hc2 hd2
    subst hc hd hc2 hd2
    have f1 : isSubtype (.type "dict") (.type "list") = pure false := rfl
    wp_walk using wpAny_loadPart' hl, wpAny_loadPart' hl2
    exact ⟨_, rfl, h⟩
theorem tq_dict (l b : Addr) : Meets (Builtin.«tuple.__eq__» { pos := [Value.ref l, .ref b] }) fun _ R s => DicO s b ∧ (∃ o its n, s.heap.get? l = some o ∧ o.cls = .type "tuple" ∧ o.data = .seq its n) ∧ R (.ok (.ret .notImplemented)) s :=
  .of_wp fun prog w A R s h => by
    obtain ⟨hp, g, d, tk, os⟩ := s
    obtain ⟨⟨⟨cls, dd, data, sl⟩, hl, hc, es, ep, hd⟩, ⟨⟨cls2, dd2, data2, sl2⟩, its, n, hl2, hc2, hd2⟩, h⟩ := h
    simp only at hc hd hc2 hd2
    subst hc hd hc2 hd2
    have f1 : isSubtype (.type "dict") (.type "tuple") = pure false := rfl
    wp_walk using wpAny_loadPart' hl, wpAny_loadPart' hl2
    exact ⟨_, rfl, h⟩

section
variable {A : Around} {s : Shared}
theorem dic_type {l : Addr} (h : DicO s l) : s.TypeIs (.ref l) "dict" := let ⟨o, h1, h2, _⟩ := h; ⟨o, h1, h2⟩
theorem notsame (a b : Value) (h : isSame a b = pure false) {prog : Program} {w : World} {E : Value → Shared → Prop} (Q : Bool → Shared → Prop) (hq : Q false s) : wpAny (model prog w) A (isSame a b) Q E s := by
  rw [h]
  exact wpAny_pure hq
theorem rc_d_none {l : Addr} (h : DicO s l) (hu : A.units < cLine) : SeqAt.RcAt A s (.ref l) (.none) false := fun prog w E Q q =>
  SeqAt.rc_eq_decline_or (k := false) (dic_type h) rfl (by decide) (rfl : isSubtype (.type "NoneType") (.type "dict") = pure false) F.slot_dict_eq F.slot_NoneType_eq_refl
    (fun _ hq => call_meets F.slot_dict_eq (dic_type h) F.entry_dict_eq (F.args_dict_eq_2 _ _) (dq_none l) ⟨h, hq⟩) (fun _ hq => call_gives F.slot_NoneType_eq_refl rfl F.entry_NoneType_eq (F.args_NoneType_eq_2 _ _) (SeqAt.NoneType___eq___none_ref_0 l) hq) (fun Q' hq => notsame _ _ rfl Q' hq) (.inr hu) q
theorem rc_none_d {l : Addr} (h : DicO s l) (hu : A.units < cLine) : SeqAt.RcAt A s (.none) (.ref l) false := fun prog w E Q q =>
  SeqAt.rc_eq_decline_or (k := false) rfl (dic_type h) (by decide) (rfl : isSubtype (.type "dict") (.type "NoneType") = pure false) F.slot_NoneType_eq F.slot_dict_eq_refl
    (fun _ hq => call_gives F.slot_NoneType_eq rfl F.entry_NoneType_eq (F.args_NoneType_eq_2 _ _) (SeqAt.NoneType___eq___none_ref_0 l) hq) (fun _ hq => call_meets F.slot_dict_eq_refl (dic_type h) F.entry_dict_eq (F.args_dict_eq_2 _ _) (dq_none l) ⟨h, hq⟩) (fun Q' hq => notsame _ _ rfl Q' hq) (.inr hu) q
theorem rc_d_bool {l : Addr} (b : Bool) (h : DicO s l) (hu : A.units < cLine) : SeqAt.RcAt A s (.ref l) (.bool b) false := fun prog w E Q q =>
  SeqAt.rc_eq_decline_or (k := false) (dic_type h) rfl (by decide) (rfl : isSubtype (.type "bool") (.type "dict") = pure false) F.slot_dict_eq F.slot_bool_eq_refl
    (fun _ hq => call_meets F.slot_dict_eq (dic_type h) F.entry_dict_eq (F.args_dict_eq_2 _ _) (dq_bool l b) ⟨h, hq⟩) (fun _ hq => call_meets F.slot_bool_eq_refl rfl F.entry_int_eq (F.args_int_eq_2 _ _) (iq_bool l b) ⟨h, hq⟩) (fun Q' hq => notsame _ _ rfl Q' hq) (.inr hu) q
theorem rc_bool_d {l : Addr} (b : Bool) (h : DicO s l) (hu : A.units < cLine) : SeqAt.RcAt A s (.bool b) (.ref l) false := fun prog w E Q q =>
  SeqAt.rc_eq_decline_or (k := false) rfl (dic_type h) (by decide) (rfl : isSubtype (.type "dict") (.type "bool") = pure false) F.slot_bool_eq F.slot_dict_eq_refl
    (fun _ hq => call_meets F.slot_bool_eq rfl F.entry_int_eq (F.args_int_eq_2 _ _) (iq_bool l b) ⟨h, hq⟩) (fun _ hq => call_meets F.slot_dict_eq_refl (dic_type h) F.entry_dict_eq (F.args_dict_eq_2 _ _) (dq_bool l b) ⟨h, hq⟩) (fun Q' hq => notsame _ _ rfl Q' hq) (.inr hu) q
theorem rc_d_int {l : Addr} (b : Int) (t : Tok) (h : DicO s l) (hu : A.units < cLine) : SeqAt.RcAt A s (.ref l) (.int b t) false := fun prog w E Q q =>
  SeqAt.rc_eq_decline_or (k := false) (dic_type h) (typeIs_int s b t) (by decide) (rfl : isSubtype (.type "int") (.type "dict") = pure false) F.slot_dict_eq F.slot_int_eq_refl
    (fun _ hq => call_meets F.slot_dict_eq (dic_type h) F.entry_dict_eq (F.args_dict_eq_2 _ _) (dq_int l b t) ⟨h, hq⟩) (fun _ hq => call_meets F.slot_int_eq_refl (typeIs_int s b t) F.entry_int_eq (F.args_int_eq_2 _ _) (iq_int l b t) ⟨h, hq⟩) (fun Q' hq => notsame _ _ rfl Q' hq) (.inr hu) q
theorem rc_int_d {l : Addr} (b : Int) (t : Tok) (h : DicO s l) (hu : A.units < cLine) : SeqAt.RcAt A s (.int b t) (.ref l) false := fun prog w E Q q =>
  SeqAt.rc_eq_decline_or (k := false) (typeIs_int s b t) (dic_type h) (by decide) (rfl : isSubtype (.type "dict") (.type "int") = pure false) F.slot_int_eq F.slot_dict_eq_refl
    (fun _ hq => call_meets F.slot_int_eq (typeIs_int s b t) F.entry_int_eq (F.args_int_eq_2 _ _) (iq_int l b t) ⟨h, hq⟩) (fun _ hq => call_meets F.slot_dict_eq_refl (dic_type h) F.entry_dict_eq (F.args_dict_eq_2 _ _) (dq_int l b t) ⟨h, hq⟩) (fun Q' hq => notsame _ _ rfl Q' hq) (.inr hu) q
theorem rc_d_str {l : Addr} (b : Str) (t : Tok) (h : DicO s l) (hu : A.units < cLine) : SeqAt.RcAt A s (.ref l) (.str b t) false := fun prog w E Q q =>
  SeqAt.rc_eq_decline_or (k := false) (dic_type h) (typeIs_str s b t) (by decide) (rfl : isSubtype (.type "str") (.type "dict") = pure false) F.slot_dict_eq F.slot_str_eq_refl
    (fun _ hq => (let ⟨o, ho, hc, es, ep, hd⟩ := h; call_meets F.slot_dict_eq (dic_type ⟨o, ho, hc, es, ep, hd⟩) F.entry_dict_eq (F.args_dict_eq_2 _ _) (dict_eq_str l o b t) ⟨ho, hq⟩)) (fun _ hq => (let ⟨o, ho, hc, es, ep, hd⟩ := h; call_meets F.slot_str_eq_refl (typeIs_str s b t) F.entry_str_eq (F.args_str_eq_2 _ _) (str_eq_dict l o es ep b t hd) ⟨ho, hq⟩)) (fun Q' hq => notsame _ _ rfl Q' hq) (.inr hu) q
theorem rc_str_d {l : Addr} (b : Str) (t : Tok) (h : DicO s l) (hu : A.units < cLine) : SeqAt.RcAt A s (.str b t) (.ref l) false := fun prog w E Q q =>
  SeqAt.rc_eq_decline_or (k := false) (typeIs_str s b t) (dic_type h) (by decide) (rfl : isSubtype (.type "dict") (.type "str") = pure false) F.slot_str_eq F.slot_dict_eq_refl
    (fun _ hq => (let ⟨o, ho, hc, es, ep, hd⟩ := h; call_meets F.slot_str_eq (typeIs_str s b t) F.entry_str_eq (F.args_str_eq_2 _ _) (str_eq_dict l o es ep b t hd) ⟨ho, hq⟩)) (fun _ hq => (let ⟨o, ho, hc, es, ep, hd⟩ := h; call_meets F.slot_dict_eq_refl (dic_type ⟨o, ho, hc, es, ep, hd⟩) F.entry_dict_eq (F.args_dict_eq_2 _ _) (dict_eq_str l o b t) ⟨ho, hq⟩)) (fun Q' hq => notsame _ _ rfl Q' hq) (.inr hu) q
theorem rc_d_list {l b : Addr} {items : Array Value} (h : DicO s l) (hl : s.heap.IsList b items) (ne : l ≠ b) (hu : A.units < cLine) : SeqAt.RcAt A s (.ref l) (.ref b) false := fun prog w E Q q => by
  obtain ⟨o, ho, hc, n, hd⟩ := id hl
  obtain ⟨o2, ho2, hc2, _⟩ := id h
  exact SeqAt.rc_eq_decline_or (k := false) (dic_type h) ⟨o, ho, hc⟩ (by decide) (rfl : isSubtype (.type "list") (.type "dict") = pure false) F.slot_dict_eq F.slot_list_eq_refl
    (fun _ hq => call_meets F.slot_dict_eq (dic_type h) F.entry_dict_eq (F.args_dict_eq_2 _ _) (dq_seq l b "list" rfl) ⟨h, ⟨o, ho, hc⟩, hq⟩) (fun _ hq => call_meets F.slot_list_eq_refl ⟨o, ho, hc⟩ F.entry_list_eq (F.args_list_eq_2 _ _) (lq_dict b l) ⟨h, ⟨o, items, n, ho, hc, hd⟩, hq⟩) (fun Q' hq => wpAny_isSame_ref_other ne ho2 ho (by rw [hc2]; simp) hq) (.inr hu) q
theorem rc_list_d {l b : Addr} {items : Array Value} (h : DicO s l) (hl : s.heap.IsList b items) (ne : b ≠ l) (hu : A.units < cLine) : SeqAt.RcAt A s (.ref b) (.ref l) false := fun prog w E Q q => by
  obtain ⟨o, ho, hc, n, hd⟩ := id hl
  obtain ⟨o2, ho2, hc2, _⟩ := id h
  exact SeqAt.rc_eq_decline_or (k := false) ⟨o, ho, hc⟩ (dic_type h) (by decide) (rfl : isSubtype (.type "dict") (.type "list") = pure false) F.slot_list_eq F.slot_dict_eq_refl
    (fun _ hq => call_meets F.slot_list_eq ⟨o, ho, hc⟩ F.entry_list_eq (F.args_list_eq_2 _ _) (lq_dict b l) ⟨h, ⟨o, items, n, ho, hc, hd⟩, hq⟩) (fun _ hq => call_meets F.slot_dict_eq_refl (dic_type h) F.entry_dict_eq (F.args_dict_eq_2 _ _) (dq_seq l b "list" rfl) ⟨h, ⟨o, ho, hc⟩, hq⟩) (fun Q' hq => wpAny_isSame_ref_other' ne ho ho2 (by rw [hc2]; simp) hq) (.inr hu) q
theorem rc_d_tuple {l b : Addr} {items : Array Value} (h : DicO s l) (hl : s.heap.IsTuple b items) (ne : l ≠ b) (hu : A.units < cLine) : SeqAt.RcAt A s (.ref l) (.ref b) false := fun prog w E Q q => by
  obtain ⟨o, ho, hc, n, hd⟩ := id hl
  obtain ⟨o2, ho2, hc2, _⟩ := id h
  exact SeqAt.rc_eq_decline_or (k := false) (dic_type h) ⟨o, ho, hc⟩ (by decide) (rfl : isSubtype (.type "tuple") (.type "dict") = pure false) F.slot_dict_eq F.slot_tuple_eq_refl
    (fun _ hq => call_meets F.slot_dict_eq (dic_type h) F.entry_dict_eq (F.args_dict_eq_2 _ _) (dq_seq l b "tuple" rfl) ⟨h, ⟨o, ho, hc⟩, hq⟩) (fun _ hq => call_meets F.slot_tuple_eq_refl ⟨o, ho, hc⟩ F.entry_tuple_eq (F.args_tuple_eq_2 _ _) (tq_dict b l) ⟨h, ⟨o, items, n, ho, hc, hd⟩, hq⟩) (fun Q' hq => wpAny_isSame_ref_other ne ho2 ho (by rw [hc2]; simp) hq) (.inr hu) q
theorem rc_tuple_d {l b : Addr} {items : Array Value} (h : DicO s l) (hl : s.heap.IsTuple b items) (ne : b ≠ l) (hu : A.units < cLine) : SeqAt.RcAt A s (.ref b) (.ref l) false := fun prog w E Q q => by
  obtain ⟨o, ho, hc, n, hd⟩ := id hl
  obtain ⟨o2, ho2, hc2, _⟩ := id h
  exact SeqAt.rc_eq_decline_or (k := false) ⟨o, ho, hc⟩ (dic_type h) (by decide) (rfl : isSubtype (.type "dict") (.type "tuple") = pure false) F.slot_tuple_eq F.slot_dict_eq_refl
    (fun _ hq => call_meets F.slot_tuple_eq ⟨o, ho, hc⟩ F.entry_tuple_eq (F.args_tuple_eq_2 _ _) (tq_dict b l) ⟨h, ⟨o, items, n, ho, hc, hd⟩, hq⟩) (fun _ hq => call_meets F.slot_dict_eq_refl (dic_type h) F.entry_dict_eq (F.args_dict_eq_2 _ _) (dq_seq l b "tuple" rfl) ⟨h, ⟨o, ho, hc⟩, hq⟩) (fun Q' hq => wpAny_isSame_ref_other' ne ho ho2 (by rw [hc2]; simp) hq) (.inr hu) q
theorem eq_of_rc_none {b : Value} (ne : .none ≠ b) (h : RcAt A s .none b false) : EqAt A s .none b false := fun prog w E Q q => by
  unfold eqBool
  refine wpAny_holding (wpAny_ite_split (fun z => absurd (eq_of_beq z) ne) fun _ => ?_)
  exact wpAny_bind (h prog w E _ (wpAny_truthy_bool q))
theorem eq_of_rc_bool {x : Bool} {b : Value} (ne : (.bool x) ≠ b) (h : RcAt A s (.bool x) b false) : EqAt A s (.bool x) b false := fun prog w E Q q => by
  unfold eqBool
  refine wpAny_holding (wpAny_ite_split (fun z => absurd (eq_of_beq z) ne) fun _ => ?_)
  exact wpAny_bind (h prog w E _ (wpAny_truthy_bool q))
theorem eq_of_rc_int {x : Int} {t : Tok} {b : Value} (ne : (.int x t) ≠ b) (h : RcAt A s (.int x t) b false) : EqAt A s (.int x t) b false := fun prog w E Q q => by
  unfold eqBool
  refine wpAny_holding (wpAny_ite_split (fun z => absurd (eq_of_beq z) ne) fun _ => ?_)
  exact wpAny_bind (h prog w E _ (wpAny_truthy_bool q))
theorem eq_of_rc_str {x : Str} {t : Tok} {b : Value} (ne : (.str x t) ≠ b) (h : RcAt A s (.str x t) b false) : EqAt A s (.str x t) b false := fun prog w E Q q => by
  unfold eqBool
  refine wpAny_holding (wpAny_ite_split (fun z => absurd (eq_of_beq z) ne) fun _ => ?_)
  exact wpAny_bind (h prog w E _ (wpAny_truthy_bool q))
theorem eq_of_rc_ref {x : Addr} {b : Value} (ne : (.ref x) ≠ b) (h : RcAt A s (.ref x) b false) : EqAt A s (.ref x) b false := fun prog w E Q q => by
  unfold eqBool
  refine wpAny_holding (wpAny_ite_split (fun z => absurd (eq_of_beq z) ne) fun _ => ?_)
  exact wpAny_bind (h prog w E _ (wpAny_truthy_bool q))
theorem ur {A : Around} {n : Nat} (h : A.units + n < cLine) : A.units < cLine := by omega
end
theorem lay_sc {x y : PyData} (h : x.canLay0 = true ∨ y.canLay0 = true) (z : y.canLay0 = false) : x.canLay0 = true := h.elim id fun q => by rw [z] at q; cases q
mutual
theorem eqM : ∀ (da db : PyData) (A : Around) (s : Shared) (a b : Value) (as bs : List Addr), Reads s.heap a da as → Reads s.heap b db bs → (da.canLay0 = true ∨ db.canLay0 = true) → A.units + min da.depth db.depth < cLine → EqAt A s a b (PyData.eqv da db)
  | .none, db, A, s, _, _, _, _, ra, rb, hab, hu => by
    cases ra
    cases rb with
    | list k1 k2 k3 k4 => exact EqAt.none_list ⟨_, k1, k2, _, k3⟩ (ur hu)
    | tuple k1 k2 k3 k4 => exact EqAt.none_tuple ⟨_, k1, k2, _, k3⟩ (ur hu)
    | dict k1 k2 k3 k4 k5 => exact eq_of_rc_none nofun (rc_none_d ⟨_, k1, k2, _, _, k3⟩ (ur hu))
    | none => exact EqAt.same _
    | bool y => exact EqAt.none_bool y
    | int y u => exact EqAt.none_int y u
    | str y u => exact EqAt.none_str y u
  | .bool x, db, A, s, _, _, _, _, ra, rb, hab, hu => by
    cases ra
    cases rb with
    | list k1 k2 k3 k4 => exact EqAt.bool_list x ⟨_, k1, k2, _, k3⟩ (ur hu)
    | tuple k1 k2 k3 k4 => exact EqAt.bool_tuple x ⟨_, k1, k2, _, k3⟩ (ur hu)
    | dict k1 k2 k3 k4 k5 => exact eq_of_rc_bool nofun (rc_bool_d _ ⟨_, k1, k2, _, _, k3⟩ (ur hu))
    | none => exact EqAt.bool_none x
    | bool y => exact EqAt.bool_bool x y
    | int y u => exact EqAt.bool_int x y u
    | str y u => exact EqAt.bool_str x y u
  | .int x, db, A, s, _, _, _, _, ra, rb, hab, hu => by
    cases ra with
    | int _ t =>
        cases rb with
        | list k1 k2 k3 k4 => exact EqAt.int_list x t ⟨_, k1, k2, _, k3⟩ (ur hu)
        | tuple k1 k2 k3 k4 => exact EqAt.int_tuple x t ⟨_, k1, k2, _, k3⟩ (ur hu)
        | dict k1 k2 k3 k4 k5 => exact eq_of_rc_int nofun (rc_int_d _ _ ⟨_, k1, k2, _, _, k3⟩ (ur hu))
        | none => exact EqAt.int_none x t
        | bool y => exact EqAt.int_bool x t y
        | int y u => exact EqAt.int_int x t y u
        | str y u => exact EqAt.int_str x t y u
  | .str x, db, A, s, _, _, _, _, ra, rb, hab, hu => by
    cases ra with
    | str _ t =>
        cases rb with
        | list k1 k2 k3 k4 => exact EqAt.str_list x t ⟨_, k1, k2, _, k3⟩ (ur hu)
        | tuple k1 k2 k3 k4 => exact EqAt.str_tuple x t ⟨_, k1, k2, _, k3⟩ (ur hu)
        | dict k1 k2 k3 k4 k5 => exact eq_of_rc_str nofun (rc_str_d _ _ ⟨_, k1, k2, _, _, k3⟩ (ur hu))
        | none => exact EqAt.str_none x t
        | bool y => exact EqAt.str_bool x t y
        | int y u => exact EqAt.str_int x t y u
        | str y u => exact EqAt.str_str x t y u
  | .list xs, db, A, s, _, _, _, _, ra, rb, hab, hu => by
    cases ra with
    | @list l o vs n _ as1 h1 h2 h3 h4 =>
      have hl : s.heap.IsList l vs := ⟨_, h1, h2, _, h3⟩
      cases rb with
      | none => exact EqAt.list_none hl (ur hu)
      | bool y => exact EqAt.list_bool y hl (ur hu)
      | int y u => exact EqAt.list_int y u hl (ur hu)
      | str y u => exact EqAt.list_str y u hl (ur hu)
      | tuple k1 k2 k3 k4 => exact EqAt.list_tuple hl ⟨_, k1, k2, _, k3⟩ (ur hu)
      | @dict l2 o2 es ep kvs as2 bs2 k1 k2 k3 k4 k5 =>
        have ne : l ≠ l2 := fun e => by
          subst e
          rw [h1] at k1
          cases k1
          rw [h2] at k2
          exact absurd k2 (by simp)
        exact EqAt.of_refs ne (rc_list_d ⟨_, k1, k2, _, _, k3⟩ hl ne (ur hu))
      | @list l2 o2 vs2 n2 ys bs1 k1 k2 k3 k4 =>
        have hl2 : s.heap.IsList l2 vs2 := ⟨_, k1, k2, _, k3⟩
        have q1 : vs.size = xs.length := by simpa using ReadsAll.length _ _ _ h4
        have q2 : vs2.size = ys.length := by simpa using ReadsAll.length _ _ _ k4
        by_cases hll : l = l2
        · subst hll
          have both : PyData.canLay0 (.list xs) = true ∧ PyData.list xs = .list ys := by
            rcases hab with hab | hab
            · exact ⟨hab, Reads.unique (.list xs) (.list ys) _ _ _ hab (.list h1 h2 h3 h4) (.list k1 k2 k3 k4)⟩
            · have := Reads.unique (.list ys) (.list xs) _ _ _ hab (.list k1 k2 k3 k4) (.list h1 h2 h3 h4)
              exact ⟨this ▸ hab, this.symm⟩
          exact eqAt_reads _ _ A s _ _ _ _ (.list h1 h2 h3 h4) (.list k1 k2 k3 k4) both.1 (both.2 ▸ both.1) hu
        · have hab' : PyData.canLayAll0 xs = true ∨ PyData.canLayAll0 ys = true := hab.imp (fun z => by simpa [PyData.canLay0] using z) (fun z => by simpa [PyData.canLay0] using z)
          have hu' : A.in1.units + min (PyData.depthAll xs) (PyData.depthAll ys) < cLine := by
            simp only [PyData.depth] at hu
            show A.units + 1 + _ < _
            omega
          have it := eqMA xs ys A.in1 s vs.toList vs2.toList _ _ h4 k4 hab' hu'
          show EqAt A s (.ref l) (.ref l2) (PyData.eqvAll xs ys)
          by_cases hsz : vs.size = vs2.size
          · rw [← eqvAll_same_length (by omega : xs.length = ys.length), ← q1]
            exact EqAt.of_refs hll (RcAt.lists hl hl2 hsz (ur hu) fun j j1 j2 => by
              have := it j (by simpa using j1) (by simpa using j2)
              simpa using this)
          · rw [eqvAll_other_length (by omega : xs.length ≠ ys.length)]
            exact EqAt.of_refs hll (RcAt.lists_lengths hl hl2 (by simpa using hsz) (ur hu))
  | .tuple xs, db, A, s, _, _, _, _, ra, rb, hab, hu => by
    cases ra with
    | @tuple l o vs n _ as1 h1 h2 h3 h4 =>
      have hl : s.heap.IsTuple l vs := ⟨_, h1, h2, _, h3⟩
      cases rb with
      | none => exact EqAt.tuple_none hl (ur hu)
      | bool y => exact EqAt.tuple_bool y hl (ur hu)
      | int y u => exact EqAt.tuple_int y u hl (ur hu)
      | str y u => exact EqAt.tuple_str y u hl (ur hu)
      | list k1 k2 k3 k4 => exact EqAt.tuple_list hl ⟨_, k1, k2, _, k3⟩ (ur hu)
      | @dict l2 o2 es ep kvs as2 bs2 k1 k2 k3 k4 k5 =>
        have ne : l ≠ l2 := fun e => by
          subst e
          rw [h1] at k1
          cases k1
          rw [h2] at k2
          exact absurd k2 (by simp)
        exact EqAt.of_refs ne (rc_tuple_d ⟨_, k1, k2, _, _, k3⟩ hl ne (ur hu))
      | @tuple l2 o2 vs2 n2 ys bs1 k1 k2 k3 k4 =>
        have hl2 : s.heap.IsTuple l2 vs2 := ⟨_, k1, k2, _, k3⟩
        have q1 : vs.size = xs.length := by simpa using ReadsAll.length _ _ _ h4
        have q2 : vs2.size = ys.length := by simpa using ReadsAll.length _ _ _ k4
        by_cases hll : l = l2
        · subst hll
          have both : PyData.canLay0 (.tuple xs) = true ∧ PyData.tuple xs = .tuple ys := by
            rcases hab with hab | hab
            · exact ⟨hab, Reads.unique (.tuple xs) (.tuple ys) _ _ _ hab (.tuple h1 h2 h3 h4) (.tuple k1 k2 k3 k4)⟩
            · have := Reads.unique (.tuple ys) (.tuple xs) _ _ _ hab (.tuple k1 k2 k3 k4) (.tuple h1 h2 h3 h4)
              exact ⟨this ▸ hab, this.symm⟩
          exact eqAt_reads _ _ A s _ _ _ _ (.tuple h1 h2 h3 h4) (.tuple k1 k2 k3 k4) both.1 (both.2 ▸ both.1) hu
        · have hab' : PyData.canLayAll0 xs = true ∨ PyData.canLayAll0 ys = true := hab.imp (fun z => by simpa [PyData.canLay0] using z) (fun z => by simpa [PyData.canLay0] using z)
          have hu' : A.in1.units + min (PyData.depthAll xs) (PyData.depthAll ys) < cLine := by
            simp only [PyData.depth] at hu
            show A.units + 1 + _ < _
            omega
          have it := eqMA xs ys A.in1 s vs.toList vs2.toList _ _ h4 k4 hab' hu'
          show EqAt A s (.ref l) (.ref l2) (PyData.eqvAll xs ys)
          rw [← eqvAll_eq xs ys, ← q1, ← q2]
          exact EqAt.of_refs hll (RcAt.tuples hl hl2 (ur hu) fun j j1 j2 => by
              have := it j (by simpa using j1) (by simpa using j2)
              simpa using this)
  | .dict kvs, db, A, s, _, _, _, _, ra, rb, hab, hu => by
    cases ra with
    | @dict l o es ep _ as1 bs1 h1 h2 h3 h4 h5 =>
      have hd : DicO s l := ⟨_, h1, h2, _, _, h3⟩
      cases rb with
      | none => exact eq_of_rc_ref nofun (rc_d_none hd (ur hu))
      | bool y => exact eq_of_rc_ref nofun (rc_d_bool _ hd (ur hu))
      | int y u => exact eq_of_rc_ref nofun (rc_d_int _ _ hd (ur hu))
      | str y u => exact eq_of_rc_ref nofun (rc_d_str _ _ hd (ur hu))
      | dict => exact (hab.elim (fun z => nomatch z) (fun z => nomatch z))
      | @list l2 o2 vs2 n2 ys bs1 k1 k2 k3 k4 =>
        have ne : l ≠ l2 := fun e => by
          subst e
          rw [h1] at k1
          cases k1
          rw [h2] at k2
          exact absurd k2 (by simp)
        exact EqAt.of_refs ne (rc_d_list hd ⟨_, k1, k2, _, k3⟩ ne (ur hu))
      | @tuple l2 o2 vs2 n2 ys bs1 k1 k2 k3 k4 =>
        have ne : l ≠ l2 := fun e => by
          subst e
          rw [h1] at k1
          cases k1
          rw [h2] at k2
          exact absurd k2 (by simp)
        exact EqAt.of_refs ne (rc_d_tuple hd ⟨_, k1, k2, _, k3⟩ ne (ur hu))
theorem eqMA : ∀ (xs ys : List PyData) (A : Around) (s : Shared) (vs ws : List Value) (as bs : List Addr), ReadsAll s.heap vs xs as → ReadsAll s.heap ws ys bs → (PyData.canLayAll0 xs = true ∨ PyData.canLayAll0 ys = true) →
    A.units + min (PyData.depthAll xs) (PyData.depthAll ys) < cLine → ∀ j (h1 : j < vs.length) (h2 : j < ws.length), EqAt A s vs[j] ws[j] (pairEq xs ys j)
  | [], _, _, _, _, _, _, _, ra, _, _, _, j, h1, _ => by cases ra; exact absurd h1 (Nat.not_lt_zero j)
  | _ :: _, [], _, _, _, _, _, _, _, rb, _, _, j, _, h2 => by cases rb; exact absurd h2 (Nat.not_lt_zero j)
  | x :: xs, y :: ys, A, s, _, _, _, _, ra, rb, hab, hu, j, h1, h2 => by
    have hab' : (x.canLay0 = true ∧ PyData.canLayAll0 xs = true) ∨ (y.canLay0 = true ∧ PyData.canLayAll0 ys = true) := hab.imp (fun z => by simpa [PyData.canLayAll0] using z) (fun z => by simpa [PyData.canLayAll0] using z)
    simp only [PyData.depthAll] at hu
    cases ra with
    | cons r rs =>
      cases rb with
      | cons q qs =>
        cases j with
        | zero => exact eqM x y A s _ _ _ _ r q (hab'.imp And.left And.left) (by omega)
        | succ j => exact eqMA xs ys A s _ _ _ _ rs qs (hab'.imp And.right And.right) (by omega) j (by simpa using h1) (by simpa using h2)
end
section
variable {A : Around} {s : Shared} {a b : Value} {da db : PyData} {as bs : List Addr}
theorem rcM (ra : Reads s.heap a da as) (rb : Reads s.heap b db bs) (hab : da.canLay0 = true ∨ db.canLay0 = true) (hu : A.units + min da.depth db.depth < cLine) : RcAt A s a b (PyData.eqv da db) := by
  by_cases both : da.canLay0 = true ∧ db.canLay0 = true
  · exact fun prog w E Q q => rcAt_reads ra rb both.1 both.2 hu prog w E Q q
  cases ra with
  | none =>
    cases rb with
    | list k1 k2 k3 k4 => exact RcAt.none_list ⟨_, k1, k2, _, k3⟩ (ur hu)
    | tuple k1 k2 k3 k4 => exact RcAt.none_tuple ⟨_, k1, k2, _, k3⟩ (ur hu)
    | dict k1 k2 k3 k4 k5 => exact rc_none_d ⟨_, k1, k2, _, _, k3⟩ (ur hu)
    | none => exact RcAt.none_none
    | bool y => exact RcAt.none_bool y
    | int y u => exact RcAt.none_int y u
    | str y u => exact RcAt.none_str y u
  | bool x =>
    cases rb with
    | list k1 k2 k3 k4 => exact RcAt.bool_list x ⟨_, k1, k2, _, k3⟩ (ur hu)
    | tuple k1 k2 k3 k4 => exact RcAt.bool_tuple x ⟨_, k1, k2, _, k3⟩ (ur hu)
    | dict k1 k2 k3 k4 k5 => exact rc_bool_d _ ⟨_, k1, k2, _, _, k3⟩ (ur hu)
    | none => exact RcAt.bool_none x
    | bool y => exact RcAt.bool_bool x y
    | int y u => exact RcAt.bool_int x y u
    | str y u => exact RcAt.bool_str x y u
  | int x t =>
    cases rb with
    | list k1 k2 k3 k4 => exact RcAt.int_list x t ⟨_, k1, k2, _, k3⟩ (ur hu)
    | tuple k1 k2 k3 k4 => exact RcAt.int_tuple x t ⟨_, k1, k2, _, k3⟩ (ur hu)
    | dict k1 k2 k3 k4 k5 => exact rc_int_d _ _ ⟨_, k1, k2, _, _, k3⟩ (ur hu)
    | none => exact RcAt.int_none x t
    | bool y => exact RcAt.int_bool x t y
    | int y u => exact RcAt.int_int x t y u
    | str y u => exact RcAt.int_str x t y u
  | str x t =>
    cases rb with
    | list k1 k2 k3 k4 => exact RcAt.str_list x t ⟨_, k1, k2, _, k3⟩ (ur hu)
    | tuple k1 k2 k3 k4 => exact RcAt.str_tuple x t ⟨_, k1, k2, _, k3⟩ (ur hu)
    | dict k1 k2 k3 k4 k5 => exact rc_str_d _ _ ⟨_, k1, k2, _, _, k3⟩ (ur hu)
    | none => exact RcAt.str_none x t
    | bool y => exact RcAt.str_bool x t y
    | int y u => exact RcAt.str_int x t y u
    | str y u => exact RcAt.str_str x t y u
  | @list l o vs n xs as1 h1 h2 h3 h4 =>
    have hl : s.heap.IsList l vs := ⟨_, h1, h2, _, h3⟩
    cases rb with
    | none => exact RcAt.list_none hl (ur hu)
    | bool y => exact RcAt.list_bool y hl (ur hu)
    | int y u => exact RcAt.list_int y u hl (ur hu)
    | str y u => exact RcAt.list_str y u hl (ur hu)
    | tuple k1 k2 k3 k4 => exact RcAt.list_tuple hl ⟨_, k1, k2, _, k3⟩ (ur hu)
    | @dict l2 o2 es ep kvs as2 bs2 k1 k2 k3 k4 k5 =>
      refine rc_list_d ⟨_, k1, k2, _, _, k3⟩ hl (fun e => ?_) (ur hu)
      subst e
      rw [h1] at k1
      cases k1
      rw [h2] at k2
      exact absurd k2 (by simp)
    | @list l2 o2 vs2 n2 ys bs1 k1 k2 k3 k4 =>
      have hl2 : s.heap.IsList l2 vs2 := ⟨_, k1, k2, _, k3⟩
      have q1 : vs.size = xs.length := by simpa using ReadsAll.length _ _ _ h4
      have q2 : vs2.size = ys.length := by simpa using ReadsAll.length _ _ _ k4
      have hab2 : PyData.canLayAll0 xs = true ∨ PyData.canLayAll0 ys = true := hab.imp (fun z => by simpa [PyData.canLay0] using z) (fun z => by simpa [PyData.canLay0] using z)
      have hu2 : A.in1.units + min (PyData.depthAll xs) (PyData.depthAll ys) < cLine := by
        simp only [PyData.depth] at hu
        show A.units + 1 + _ < _
        omega
      have it := eqMA xs ys A.in1 s vs.toList vs2.toList _ _ h4 k4 hab2 hu2
      show RcAt A s (.ref l) (.ref l2) (PyData.eqvAll xs ys)
      by_cases hsz : vs.size = vs2.size
      · rw [← eqvAll_same_length (by omega : xs.length = ys.length), ← q1]
        exact RcAt.lists hl hl2 hsz (ur hu) fun j j1 j2 => by
          have := it j (by simpa using j1) (by simpa using j2)
          simpa using this
      · rw [eqvAll_other_length (by omega : xs.length ≠ ys.length)]
        exact RcAt.lists_lengths hl hl2 (by simpa using hsz) (ur hu)
  | @tuple l o vs n xs as1 h1 h2 h3 h4 =>
    have hl : s.heap.IsTuple l vs := ⟨_, h1, h2, _, h3⟩
    cases rb with
    | none => exact RcAt.tuple_none hl (ur hu)
    | bool y => exact RcAt.tuple_bool y hl (ur hu)
    | int y u => exact RcAt.tuple_int y u hl (ur hu)
    | str y u => exact RcAt.tuple_str y u hl (ur hu)
    | list k1 k2 k3 k4 => exact RcAt.tuple_list hl ⟨_, k1, k2, _, k3⟩ (ur hu)
    | @dict l2 o2 es ep kvs as2 bs2 k1 k2 k3 k4 k5 =>
      refine rc_tuple_d ⟨_, k1, k2, _, _, k3⟩ hl (fun e => ?_) (ur hu)
      subst e
      rw [h1] at k1
      cases k1
      rw [h2] at k2
      exact absurd k2 (by simp)
    | @tuple l2 o2 vs2 n2 ys bs1 k1 k2 k3 k4 =>
      have hl2 : s.heap.IsTuple l2 vs2 := ⟨_, k1, k2, _, k3⟩
      have q1 : vs.size = xs.length := by simpa using ReadsAll.length _ _ _ h4
      have q2 : vs2.size = ys.length := by simpa using ReadsAll.length _ _ _ k4
      have hab2 : PyData.canLayAll0 xs = true ∨ PyData.canLayAll0 ys = true := hab.imp (fun z => by simpa [PyData.canLay0] using z) (fun z => by simpa [PyData.canLay0] using z)
      have hu2 : A.in1.units + min (PyData.depthAll xs) (PyData.depthAll ys) < cLine := by
        simp only [PyData.depth] at hu
        show A.units + 1 + _ < _
        omega
      have it := eqMA xs ys A.in1 s vs.toList vs2.toList _ _ h4 k4 hab2 hu2
      show RcAt A s (.ref l) (.ref l2) (PyData.eqvAll xs ys)
      rw [← eqvAll_eq xs ys, ← q1, ← q2]
      exact RcAt.tuples hl hl2 (ur hu) fun j j1 j2 => by
        have := it j (by simpa using j1) (by simpa using j2)
        simpa using this
  | @dict l o es ep kvs as1 bs1 h1 h2 h3 h4 h5 =>
    have hd : DicO s l := ⟨_, h1, h2, _, _, h3⟩
    cases rb with
    | none => exact rc_d_none hd (ur hu)
    | bool y => exact rc_d_bool _ hd (ur hu)
    | int y u => exact rc_d_int _ _ hd (ur hu)
    | str y u => exact rc_d_str _ _ hd (ur hu)
    | dict => exact (hab.elim (fun z => nomatch z) (fun z => nomatch z))
    | @list l2 o2 vs2 n2 ys bs1 k1 k2 k3 k4 =>
      refine rc_d_list hd ⟨_, k1, k2, _, k3⟩ (fun e => ?_) (ur hu)
      subst e
      rw [h1] at k1
      cases k1
      rw [h2] at k2
      exact absurd k2 (by simp)
    | @tuple l2 o2 vs2 n2 ys bs1 k1 k2 k3 k4 =>
      refine rc_d_tuple hd ⟨_, k1, k2, _, k3⟩ (fun e => ?_) (ur hu)
      subst e
      rw [h1] at k1
      cases k1
      rw [h2] at k2
      exact absurd k2 (by simp)
theorem itemsM {vs : Array Value} {xs : List PyData} {x : Value} {d : PyData} (rs : ReadsAll s.heap vs.toList xs as) (rx : Reads s.heap x d bs) (hxs : PyData.canLayAll0 xs = true)
    (hu : A.units + 1 + PyData.depthAll xs < cLine) : ∀ y, y ∈ vs → EqAt A.in1 s y x (PyData.eqv (readOf s.heap y) d) := fun y hy => by
  obtain ⟨dy, cs, ry, hcy, hle⟩ := readsAll_mem xs _ _ hxs rs y (by simpa using hy)
  rw [readOf_eq hcy ry]
  refine eqM dy d A.in1 s y x _ _ ry rx (.inl hcy) ?_
  have := Nat.min_le_left dy.depth d.depth
  show A.units + 1 + min dy.depth d.depth < cLine
  omega
end
def eqGok (x y : PyData) : Bool := scalD x y || shaped x || shaped y
/-- ==, a dict on one side at most -/
def eqG (x y : PyData) (q : PyData → Prop) : Prop := eqGok x y = true ∧ q (.bool (PyData.eqv x y))
/-- x in ys, no dict in ys -/
def memG (neg : Bool) : PyData → PyData → (PyData → Prop) → Prop
  | x, .list ys, q => shaped (.list ys) = true ∧ q (.bool ((ys.any fun z => PyData.eqv z x) != neg))
  | x, .tuple ys, q => shaped (.tuple ys) = true ∧ q (.bool ((ys.any fun z => PyData.eqv z x) != neg))
  | .str i, .str j, q => q (.bool ((!(Builtin.Str.occurrences j i 0 j.length 1).isEmpty) != neg))
  | _, _, _ => False
section
variable {X : Cx} {G : GH} {a b : Expr} {da db : DE} {pos : Pos}
theorem opx_eqG (hu : X.A.units + 64 < cLine) : OpR X (compareOp .Eq) (rW X.K eqG) := by
  rintro pins s σ H x y v u Q I rx ry ⟨F, R, M, a, b, q, A, ra, rb, ⟨da, db, ea, eb, ok, h⟩, c⟩
  have r1 := rd_rep A ra ea
  have r2 := rd_rep A rb eb
  rcases Bool.or_eq_true_iff.mp ok with ok | ok
  · rcases Bool.or_eq_true_iff.mp ok with ok | ok
    · obtain ⟨h1, h2⟩ := scal_of r1 r2 ok
      exact op_eq pins s σ H _ _ v u Q I rx ry ⟨h1, by rw [h2]; exact c.plain A (.bl _) h⟩
    · obtain ⟨as, q1, _⟩ := Rp.reads I r1 rx
      obtain ⟨bs, q2, _⟩ := Rp.reads I r2 ry
      have d64 := depth_of_shaped ok
      have := Nat.min_le_left da.depth db.depth
      exact rcM q1 q2 (.inl (canLay_of_shaped ok)) (by omega) _ _ _ _ ⟨.bl _, H, I, rfl, c.plain A (.bl _) h⟩
  · obtain ⟨as, q1, _⟩ := Rp.reads I r1 rx
    obtain ⟨bs, q2, _⟩ := Rp.reads I r2 ry
    have d64 := depth_of_shaped ok
    have := Nat.min_le_right da.depth db.depth
    exact rcM q1 q2 (.inr (canLay_of_shaped ok)) (by omega) _ _ _ _ ⟨.bl _, H, I, rfl, c.plain A (.bl _) h⟩
theorem opx_inG (hu : X.A.units + 65 < cLine) : OpR X (compareOp .In) (rW X.K (memG false)) := by
  rintro pins s σ H x y v u Q I rx ry ⟨F, R, M, a, b, q, A, ra, rb, ⟨da, db, ea, eb, h⟩, c⟩
  have r1 := rd_rep A ra ea
  have r2 := rd_rep A rb eb
  cases db with
  | list ys =>
    obtain ⟨o2, h⟩ := h
    obtain ⟨as, q1, _⟩ := Rp.reads I r1 rx
    obtain ⟨bs, q2, _⟩ := Rp.reads I r2 ry
    have c2 : PyData.canLayAll0 ys = true := by simpa [PyData.canLay0] using canLay_of_shaped o2
    have d2 : PyData.depthAll ys + 1 ≤ 64 := by simpa [PyData.depth] using depth_of_shaped o2
    cases q2 with
    | list h1 h2 h3 h4 => exact in_listAt _ ⟨_, h1, h2, _, h3⟩ (itemsM h4 q1 c2 (by omega)) (by rw [any_by_data h4 c2]; exact ⟨.bl _, H, I, rfl, c.plain A (.bl _) (by simpa using h)⟩)
  | tuple ys =>
    obtain ⟨o2, h⟩ := h
    obtain ⟨as, q1, _⟩ := Rp.reads I r1 rx
    obtain ⟨bs, q2, _⟩ := Rp.reads I r2 ry
    have c2 : PyData.canLayAll0 ys = true := by simpa [PyData.canLay0] using canLay_of_shaped o2
    have d2 : PyData.depthAll ys + 1 ≤ 64 := by simpa [PyData.depth] using depth_of_shaped o2
    cases q2 with
    | tuple h1 h2 h3 h4 => exact in_tupleAt _ ⟨_, h1, h2, _, h3⟩ (itemsM h4 q1 c2 (by omega)) (by rw [any_by_data h4 c2]; exact ⟨.bl _, H, I, rfl, c.plain A (.bl _) (by simpa using h)⟩)
  | str j =>
    cases da with
    | str i => exact op_in_str pins s σ H _ _ v u Q I rx ry ⟨i, j, rd_str ra ea, rd_str rb eb, c.plain A (.bl _) (by simpa [memG] using h)⟩
    | _ => exact h.elim
  | _ => cases da <;> exact h.elim
theorem opx_notinG (hu : X.A.units + 65 < cLine) : OpR X (compareOp .NotIn) (rW X.K (memG true)) := by
  rintro pins s σ H x y v u Q I rx ry ⟨F, R, M, a, b, q, A, ra, rb, ⟨da, db, ea, eb, h⟩, c⟩
  have r1 := rd_rep A ra ea
  have r2 := rd_rep A rb eb
  cases db with
  | list ys =>
    obtain ⟨o2, h⟩ := h
    obtain ⟨as, q1, _⟩ := Rp.reads I r1 rx
    obtain ⟨bs, q2, _⟩ := Rp.reads I r2 ry
    have c2 : PyData.canLayAll0 ys = true := by simpa [PyData.canLay0] using canLay_of_shaped o2
    have d2 : PyData.depthAll ys + 1 ≤ 64 := by simpa [PyData.depth] using depth_of_shaped o2
    cases q2 with
    | list h1 h2 h3 h4 => exact notIn_listAt _ ⟨_, h1, h2, _, h3⟩ (itemsM h4 q1 c2 (by omega)) (by rw [any_by_data h4 c2]; exact ⟨.bl _, H, I, rfl, c.plain A (.bl _) (by simpa using h)⟩)
  | tuple ys =>
    obtain ⟨o2, h⟩ := h
    obtain ⟨as, q1, _⟩ := Rp.reads I r1 rx
    obtain ⟨bs, q2, _⟩ := Rp.reads I r2 ry
    have c2 : PyData.canLayAll0 ys = true := by simpa [PyData.canLay0] using canLay_of_shaped o2
    have d2 : PyData.depthAll ys + 1 ≤ 64 := by simpa [PyData.depth] using depth_of_shaped o2
    cases q2 with
    | tuple h1 h2 h3 h4 => exact notIn_tupleAt _ ⟨_, h1, h2, _, h3⟩ (itemsM h4 q1 c2 (by omega)) (by rw [any_by_data h4 c2]; exact ⟨.bl _, H, I, rfl, c.plain A (.bl _) (by simpa using h)⟩)
  | str j =>
    cases da with
    | str i => exact op_notIn_str pins s σ H _ _ v u Q I rx ry ⟨i, j, rd_str ra ea, rd_str rb eb, c.plain A (.bl _) (by simpa [memG] using h)⟩
    | _ => exact h.elim
  | _ => cases da <;> exact h.elim
theorem x_eqG {k : Nat} (hr : RoomG k X.A) (ha : PX X G a da) (hb : PX X G b db) : PX X G (.Compare a [.Eq] [b] pos) (dOp (dBin eqG) da db) := px_cmp (opx_eqG hr.rm.units) (opD_of _) ha hb
theorem t_eqG {k : Nat} (hr : RoomG k X.A) (ha : PX X G a da) (hb : PX X G b db) : PXT X G (.Compare a [.Eq] [b] pos) (dTst (dOp (dBin eqG) da db)) := pxt_cmp (opx_eqG hr.rm.units) ha hb
theorem x_inG {k : Nat} (hr : RoomG k X.A) (ha : PX X G a da) (hb : PX X G b db) (hm : behindInMarks .In b = false := by first | exact nomark _ | rfl) : PX X G (.Compare a [.In] [b] pos) (dOp (dBin (memG false)) da db) := px_cmp (opx_inG (by have := hr.rm.un; omega)) (opD_of _) ha hb hm
theorem t_inG {k : Nat} (hr : RoomG k X.A) (ha : PX X G a da) (hb : PX X G b db) (hm : behindInMarks .In b = false := by first | exact nomark _ | rfl) : PXT X G (.Compare a [.In] [b] pos) (dTst (dOp (dBin (memG false)) da db)) := pxt_cmp (opx_inG (by have := hr.rm.un; omega)) ha hb hm
theorem x_notinG {k : Nat} (hr : RoomG k X.A) (ha : PX X G a da) (hb : PX X G b db) (hm : behindInMarks .NotIn b = false := by first | exact nomark _ | rfl) : PX X G (.Compare a [.NotIn] [b] pos) (dOp (dBin (memG true)) da db) := px_cmp (opx_notinG (by have := hr.rm.un; omega)) (opD_of _) ha hb hm
theorem t_notinG {k : Nat} (hr : RoomG k X.A) (ha : PX X G a da) (hb : PX X G b db) (hm : behindInMarks .NotIn b = false := by first | exact nomark _ | rfl) : PXT X G (.Compare a [.NotIn] [b] pos) (dTst (dOp (dBin (memG true)) da db)) := pxt_cmp (opx_notinG (by have := hr.rm.un; omega)) ha hb hm
end
end DL
end
section
set_option maxHeartbeats 1000000
/-! repr of any small data: only a dict's own place matters -/
namespace DL
open PySem PySem.Spec PyProof.Rows L2
def RK (P : Program) (w : World) (h : Heap) (u : Value) (d : PyData) : Prop := d.showable = true → d.shown.length ≤ sizeLine → ∃ bs, ReadAtMost h d.depth bs ∧ ReprK P w bs h d.depth u d.shown
def RKA (P : Program) (w : World) (h : Heap) (us : List Value) (ds : List PyData) : Prop := PyData.showableAll ds = true → (∀ t ∈ PyData.shownAll ds, t.length ≤ sizeLine) → ∃ bs, ReadAtMost h (PyData.depthAll ds) bs ∧ ReprAllK P w bs h (PyData.depthAll ds) us (PyData.shownAll ds)
section
variable {P : Program} {w : World} {h : Heap}
theorem RK.non : RK P w h .none .none := fun _ _ => ⟨[], (fun _ z => nomatch z), by simp only [PyData.shown]; exact ReprK.of_is .none _ _ _⟩
theorem RK.bl (b : Bool) : RK P w h (.bool b) (.bool b) := fun _ _ => ⟨[], (fun _ z => nomatch z), by simp only [PyData.shown]; exact ReprK.of_is (.bool b) _ _ _⟩
theorem RK.int (i : Int) (t : Tok) : RK P w h (.int i t) (.int i) := fun o _ => ⟨[], (fun _ z => nomatch z), by simp only [PyData.shown]; exact ReprK.of_is (.int t (by simpa [PyData.showable] using o)) _ _ _⟩
theorem RK.str (x : Str) (t : Tok) : RK P w h (.str x t) (.str x) := fun _ o => ⟨[], (fun _ z => nomatch z), by simp only [PyData.shown]; exact ReprK.of_is (.str x t (by simpa only [PyData.shown] using o)) _ _ _⟩
theorem RK.lst {a : Addr} {o : Obj} {us : List Value} {n : Nat} {ds : List PyData} {as : List Addr} (h1 : h.get? a = some o) (h2 : o.cls = .type "list") (h3 : o.data = .seq us.toArray n) (h4 : ReadsAll h us ds as) (k : RKA P w h us ds) : RK P w h (.ref a) (.list ds) := by
  intro o1 o2
  have q : (listText (PyData.shownAll ds)).length ≤ sizeLine := by simpa only [PyData.shown] using o2
  obtain ⟨bs, hb, hk⟩ := k (by simpa [PyData.showable] using o1) fun t ht => Nat.le_trans (listText_mem_le ht) q
  have rd : Reads h (.ref a) (.list ds) _ := .list h1 h2 h3 h4
  refine ⟨a :: bs, ReadAtMost.cons rd (n := PyData.depthAll ds) (by simp only [PyData.depth]; omega) hb, ?_⟩
  have ne := not_mem_of_deeper (n := PyData.depthAll ds) rd (by simp only [PyData.depth]; omega) hb
  simp only [PyData.depth, PyData.shown]
  cases us with
  | nil =>
    cases h4
    have e0 : listText [] = ("[]" : Str) := by decide +kernel
    simp only [PyData.shownAll, e0]
    exact ReprK.listEmpty h1 h2 h3
  | cons x l => exact ReprK.list h1 h2 h3 ne (by simpa using hk.length_eq) fun i y e => hk.item i y (by simpa using e)
theorem RK.tup {a : Addr} {o : Obj} {us : List Value} {n : Nat} {ds : List PyData} {as : List Addr} (h1 : h.get? a = some o) (h2 : o.cls = .type "tuple") (h3 : o.data = .seq us.toArray n) (h4 : ReadsAll h us ds as) (k : RKA P w h us ds) : RK P w h (.ref a) (.tuple ds) := by
  intro o1 o2
  have q : (tupleText (PyData.shownAll ds)).length ≤ sizeLine := by simpa only [PyData.shown] using o2
  obtain ⟨bs, hb, hk⟩ := k (by simpa [PyData.showable] using o1) fun t ht => Nat.le_trans (tupleText_mem_le ht) q
  have rd : Reads h (.ref a) (.tuple ds) _ := .tuple h1 h2 h3 h4
  refine ⟨a :: bs, ReadAtMost.cons rd (n := PyData.depthAll ds) (by simp only [PyData.depth]; omega) hb, ?_⟩
  have ne := not_mem_of_deeper (n := PyData.depthAll ds) rd (by simp only [PyData.depth]; omega) hb
  simp only [PyData.depth, PyData.shown]
  exact ReprK.tuple h1 h2 h3 ne hk
theorem RKA.nil : RKA P w h [] [] := fun _ _ => ⟨[], (fun _ z => nomatch z), by simp only [PyData.shownAll]; exact .nil⟩
theorem RKA.cons {u : Value} {d : PyData} {us : List Value} {ds : List PyData} (k1 : RK P w h u d) (k2 : RKA P w h us ds) : RKA P w h (u :: us) (d :: ds) := by
  intro o1 o2
  have o1 : d.showable = true ∧ PyData.showableAll ds = true := by simpa [PyData.showableAll] using o1
  simp only [PyData.shownAll] at o2
  obtain ⟨b1, m1, r1⟩ := k1 o1.1 (o2 _ List.mem_cons_self)
  obtain ⟨b2, m2, r2⟩ := k2 o1.2 fun t ht => o2 t (List.mem_cons_of_mem _ ht)
  refine ⟨b1 ++ b2, fun b hm => ?_, ?_⟩
  · simp only [PyData.depthAll]
    rcases List.mem_append.mp hm with hm | hm
    · obtain ⟨d1, a1, q1, l1⟩ := m1 b hm
      exact ⟨d1, a1, q1, Nat.le_trans l1 (Nat.le_max_left _ _)⟩
    · obtain ⟨d1, a1, q1, l1⟩ := m2 b hm
      exact ⟨d1, a1, q1, Nat.le_trans l1 (Nat.le_max_right _ _)⟩
  · simp only [PyData.depthAll, PyData.shownAll]
    exact .cons ((r1.more fun b z => List.mem_append_left _ z).level_le (Nat.le_max_left _ _)) (r2.more_le (fun b z => List.mem_append_right _ z) (Nat.le_max_right _ _))
theorem RK.dct {a : Addr} {o : Obj} {es : Array DictEntry} {n : Nat} {kvs : List (PyData × PyData)} {bs : List Addr} (h1 : h.get? a = some o) (h2 : o.cls = .type "dict") (h3 : o.data = .dict es n)
    (h4 : ReadsAll h (es.toList.map (·.key)) (kvs.map (·.1)) []) (h5 : ReadsAll h (es.toList.map (·.val)) (kvs.map (·.2)) bs) (hs : (a == sysModules) = false) (k : RKA P w h (es.toList.map (·.val)) (kvs.map (·.2))) : RK P w h (.ref a) (.dict kvs) := by
  intro o1 o2
  have q : (dictText (PyData.shownKv kvs)).length ≤ sizeLine := by simpa only [PyData.shown] using o2
  obtain ⟨s1, s2⟩ := PyData.showableKv_split kvs (by simpa [PyData.showable] using o1)
  obtain ⟨b1, m1, r1⟩ := ReprAllK.of_readsAll (prog := P) (w := w) h4 s1 (fun _ z => nomatch z) fun t ht => let ⟨p, hp, l⟩ := PyData.shownKv_key_le kvs t ht; Nat.le_trans l (Nat.le_trans (dictText_mem_le hp) q)
  obtain ⟨b2, m2, r2⟩ := k s2 fun t ht => let ⟨p, hp, l⟩ := PyData.shownKv_val_le kvs t ht; Nat.le_trans l (Nat.le_trans (dictText_mem_le hp) q)
  have rd : Reads h (.ref a) (.dict kvs) _ := .dict h1 h2 h3 h4 h5
  have mb : ReadAtMost h (PyData.depthKv kvs) (b1 ++ b2) := (m1.mono (PyData.depthAll_keys_le kvs)).append (m2.mono (PyData.depthAll_vals_le kvs))
  have ne := not_mem_of_deeper (n := PyData.depthKv kvs) rd (by simp only [PyData.depth]; omega) mb
  refine ⟨a :: (b1 ++ b2), ReadAtMost.cons rd (n := PyData.depthKv kvs) (by simp only [PyData.depth]; omega) mb, ?_⟩
  simp only [PyData.depth, PyData.shown, PyData.shownKv_eq]
  exact ReprK.dict h1 h2 h3 hs ne (ReprEntriesK.of_two es.toList _ _ (r1.more_le (fun b z => List.mem_append_left _ z) (PyData.depthAll_keys_le kvs)) (r2.more_le (fun b z => List.mem_append_right _ z) (PyData.depthAll_vals_le kvs)))
end
section
variable {X : Cx} {pins : List (Addr × Obj)} {s : Shared} {σ : L2.St} {H : Hp}
mutual
theorem Rp.rk (I : Inv X pins σ H s) : ∀ {d : PyData} {v : V} {u : Value}, Rp X.K H v d → RelV v u → RK X.prog X.w s.heap u d
  | _, _, _, .non, r => by cases r; exact .non
  | _, _, _, .bl b, r => by cases r; exact .bl b
  | _, _, _, .int i, r => by obtain ⟨t, rfl⟩ := r; exact .int i t
  | _, _, _, .str x, r => by obtain ⟨t, rfl⟩ := r; exact .str x t
  | _, _, _, .lst hs ha, r => by
    cases r
    obtain ⟨its, rv, ⟨o, n, ho, hc, _, hd⟩, _⟩ := I.list hs.l
    obtain ⟨as, hr, _⟩ := RpA.reads I ha rv
    exact .lst ho hc hd hr (RpA.rk I ha rv)
  | _, _, _, .tup hs ha, r => by
    cases r
    obtain ⟨its, rv, ⟨o, ho, hc, n, hd⟩, _⟩ := I.tuple hs.sq
    obtain ⟨as, hr, _⟩ := RpA.reads I ha rv
    exact .tup ho hc hd hr (RpA.rk I ha rv)
  | .dict ds, _, _, .dct (a := a) (kvs := kvs) hs ha, r => by
    cases r
    obtain ⟨_, hsys, vs, rv, o, es, ep, ho, hx, hd, hk, hp, _⟩ := (show ObjOk X.prog X.w H s.heap a (.dK kvs) from I.hok a _ hs)
    obtain ⟨e1, e2⟩ := pairs_keys hp
    obtain ⟨bs, hr, _⟩ := RpK.reads I ha rv
    have kk := RpK.rk I ha rv
    have k1 := reads_keys s.heap e2
    rw [← kv_keys rv, List.map_map] at k1
    have k2 : ds.map (·.1) = kvs.map (kD ∘ fun p => p.1) := rpk_keys ha
    rw [← k2] at k1
    rw [← e1] at hr kk
    refine .dct ho hx.1 hd k1 hr ?_ kk
    cases z : a == sysModules with
    | false => rfl
    | true =>
      have := eq_of_beq z
      subst this
      simp at hsys
theorem RpA.rk (I : Inv X pins σ H s) : ∀ {ds : List PyData} {vs : List V} {us : List Value}, RpA X.K H vs ds → Vals vs us → RKA X.prog X.w s.heap us ds
  | _, _, _, .nil, r => by cases r; exact .nil
  | _, _, _, .cons h1 h2, r => by
    cases r with
    | cons r1 r2 => exact .cons (Rp.rk I h1 r1) (RpA.rk I h2 r2)
theorem RpK.rk (I : Inv X pins σ H s) : ∀ {ds : List (PyData × PyData)} {kvs : List (L2.Key × V)} {us : List (L2.Key × Value)}, RpK X.K H kvs ds → KV kvs us → RKA X.prog X.w s.heap (us.map (·.2)) (ds.map (·.2))
  | _, _, _, .nil, r => by cases r; exact .nil
  | _, _, _, .cons h1 h2, r => by
    cases r with
    | cons r1 r2 => exact .cons (Rp.rk I h1 r1.2) (RpK.rk I h2 r2)
end

def okR (x : PyData) : Prop := x.showable = true ∧ x.shown.length ≤ sizeLine ∧ x.depth ≤ 60
/-- what hangs on a place, told by what it is -/
theorem repr_lst {P : Program} {w : World} {A : Around} {E Q : Value → Shared → Prop} {s : Shared} {a : Addr} {o : Obj} {us : List Value} {n : Nat} {ds : List PyData} {as : List Addr} (h1 : s.heap.get? a = some o) (h2 : o.cls = .type "list") (h3 : o.data = .seq us.toArray n) (h4 : ReadsAll s.heap us ds as) (k : RKA P w s.heap us ds)
    (o : okR (.list ds)) (hg : A.guards = some []) (hu : A.units + 100 < cLine) (hQ : ∀ h' u tk, (∀ b o, s.heap.get? b = some o → h'.get? b = some o) → Q (.str (PyData.list ds).shown u) { s with heap := h', toks := tk }) : wpAny (model P w) A (call (.builtin "repr") [.ref a]) Q E s := by
  obtain ⟨o1, o2, o3⟩ := o
  have q : (listText (PyData.shownAll ds)).length ≤ sizeLine := by simpa only [PyData.shown] using o2
  obtain ⟨bs, hb, hk⟩ := k (by simpa [PyData.showable] using o1) fun t ht => Nat.le_trans (listText_mem_le ht) q
  have rd : Reads s.heap (.ref a) (.list ds) _ := .list h1 h2 h3 h4
  have ne := not_mem_of_deeper (n := PyData.depthAll ds) rd (by simp only [PyData.depth]; omega) hb
  simp only [PyData.depth] at o3
  refine call_repr_slot (by omega) ⟨_, h1, h2⟩ F.slot_list_repr.toG ?_
  simp only [PyData.shown] at hQ
  cases us with
  | nil =>
    cases h4
    have e0 : listText [] = ("[]" : Str) := by decide +kernel
    simp only [PyData.shownAll, e0] at hQ
    exact call_list_repr_empty ⟨_, h1, h2⟩ h1 h3 ⟨_, _, rfl, hQ s.heap _ _ fun _ _ e => e⟩
  | cons x l => exact call_list_reprK h1 h2 h3 ne (by simpa using hk.length_eq) (fun i y e => hk.item i y (by simpa using e)) hg (fun b _ => Clear.nil b) (by show A.units + 1 + _ < _; omega) (fun _ _ e => e) (fun h' u tk z => ⟨_, _, rfl, hQ h' u tk z⟩) q
theorem repr_tup {P : Program} {w : World} {A : Around} {E Q : Value → Shared → Prop} {s : Shared} {a : Addr} {o : Obj} {us : List Value} {n : Nat} {ds : List PyData} {as : List Addr} (h1 : s.heap.get? a = some o) (h2 : o.cls = .type "tuple") (h3 : o.data = .seq us.toArray n) (h4 : ReadsAll s.heap us ds as) (k : RKA P w s.heap us ds)
    (o : okR (.tuple ds)) (hg : A.guards = some []) (hu : A.units + 100 < cLine) (hQ : ∀ h' u tk, (∀ b o, s.heap.get? b = some o → h'.get? b = some o) → Q (.str (PyData.tuple ds).shown u) { s with heap := h', toks := tk }) : wpAny (model P w) A (call (.builtin "repr") [.ref a]) Q E s := by
  obtain ⟨o1, o2, o3⟩ := o
  have q : (tupleText (PyData.shownAll ds)).length ≤ sizeLine := by simpa only [PyData.shown] using o2
  obtain ⟨bs, hb, hk⟩ := k (by simpa [PyData.showable] using o1) fun t ht => Nat.le_trans (tupleText_mem_le ht) q
  have rd : Reads s.heap (.ref a) (.tuple ds) _ := .tuple h1 h2 h3 h4
  have ne := not_mem_of_deeper (n := PyData.depthAll ds) rd (by simp only [PyData.depth]; omega) hb
  simp only [PyData.depth] at o3
  refine call_repr_slot (by omega) ⟨_, h1, h2⟩ F.slot_tuple_repr ?_
  simp only [PyData.shown] at hQ
  exact call_tuple_reprK h1 h2 h3 ne hk hg (fun b _ => Clear.nil b) (by show A.units + 1 + _ < _; omega) (fun _ _ e => e) (fun h' u tk z => ⟨_, _, rfl, hQ h' u tk z⟩) q
theorem repr_dct {P : Program} {w : World} {A : Around} {E Q : Value → Shared → Prop} {s : Shared} {a : Addr} {o : Obj} {es : Array DictEntry} {n : Nat} {kvs : List (PyData × PyData)} {bs : List Addr} (h1 : s.heap.get? a = some o) (h2 : o.cls = .type "dict") (h3 : o.data = .dict es n)
    (h4 : ReadsAll s.heap (es.toList.map (·.key)) (kvs.map (·.1)) []) (h5 : ReadsAll s.heap (es.toList.map (·.val)) (kvs.map (·.2)) bs) (hs : (a == sysModules) = false) (k : RKA P w s.heap (es.toList.map (·.val)) (kvs.map (·.2)))
    (o : okR (.dict kvs)) (hg : A.guards = some []) (hu : A.units + 100 < cLine) (hQ : ∀ h' u tk, (∀ b o, s.heap.get? b = some o → h'.get? b = some o) → Q (.str (PyData.dict kvs).shown u) { s with heap := h', toks := tk }) : wpAny (model P w) A (call (.builtin "repr") [.ref a]) Q E s := by
  obtain ⟨o1, o2, o3⟩ := o
  have q : (dictText (PyData.shownKv kvs)).length ≤ sizeLine := by simpa only [PyData.shown] using o2
  obtain ⟨s1, s2⟩ := PyData.showableKv_split kvs (by simpa [PyData.showable] using o1)
  obtain ⟨b1, m1, r1⟩ := ReprAllK.of_readsAll (prog := P) (w := w) h4 s1 (fun _ z => nomatch z) fun t ht => let ⟨p, hp, l⟩ := PyData.shownKv_key_le kvs t ht; Nat.le_trans l (Nat.le_trans (dictText_mem_le hp) q)
  obtain ⟨b2, m2, r2⟩ := k s2 fun t ht => let ⟨p, hp, l⟩ := PyData.shownKv_val_le kvs t ht; Nat.le_trans l (Nat.le_trans (dictText_mem_le hp) q)
  have rd : Reads s.heap (.ref a) (.dict kvs) _ := .dict h1 h2 h3 h4 h5
  have mb : ReadAtMost s.heap (PyData.depthKv kvs) (b1 ++ b2) := (m1.mono (PyData.depthAll_keys_le kvs)).append (m2.mono (PyData.depthAll_vals_le kvs))
  have ne := not_mem_of_deeper (n := PyData.depthKv kvs) rd (by simp only [PyData.depth]; omega) mb
  simp only [PyData.depth] at o3
  refine call_repr_slot (by omega) ⟨_, h1, h2⟩ F.slot_dict_repr ?_
  simp only [PyData.shown, PyData.shownKv_eq] at hQ
  exact call_dict_reprK h1 h2 h3 hs ne (ReprEntriesK.of_two es.toList _ _ (r1.more_le (fun b z => List.mem_append_left _ z) (PyData.depthAll_keys_le kvs)) (r2.more_le (fun b z => List.mem_append_right _ z) (PyData.depthAll_vals_le kvs)))
    hg (fun b _ => Clear.nil b) (by show A.units + 1 + _ < _; omega) (fun _ _ e => e) (fun h' u tk z => ⟨_, _, rfl, hQ h' u tk z⟩) (by rw [← PyData.shownKv_eq]; exact q)
section
variable {X : Cx}
def rReprG (X : Cx) : List V → Hp → VK → Prop := fun xs H Q => ∃ v d, xs = [v] ∧ Rp X.K H v d ∧ okR d ∧ Q (.str d.shown) H
theorem cr_reprG (hr : RoomG 0 X.A) : CallR X (.builtin "repr") (rReprG X) := by
  rintro pins s σ H xs us Q I r ⟨v, d, rfl, rp, ok, q⟩
  have hu : X.A.units + 200 < cLine := by have := hr.rm.un; omega
  have old : (d.hasDict = true → hasList d = false) → wpAny (model X.prog X.w) X.A (call (.builtin "repr") us) _ _ s := fun z => cr_repr hr pins s σ H [v] us Q I r ⟨v, d, rfl, rp, ⟨ok.1, ok.2.1, ok.2.2, z⟩, q⟩
  obtain ⟨u, rfl, rx⟩ := vals1 r
  cases rp with
  | lst hs ha =>
    cases rx
    obtain ⟨its, rv, ⟨o, n, ho, hc, _, hd⟩, _⟩ := I.list hs.l
    obtain ⟨as, hr2, _⟩ := RpA.reads I ha rv
    exact repr_lst ho hc hd hr2 (RpA.rk I ha rv) ok hr.gd (by omega) fun h' u tk k => ⟨.str _, H, I.kept (h' := h') (t' := tk) k, ⟨_, rfl⟩, q⟩
  | tup hs ha =>
    cases rx
    obtain ⟨its, rv, ⟨o, ho, hc, n, hd⟩, _⟩ := I.tuple hs.sq
    obtain ⟨as, hr2, _⟩ := RpA.reads I ha rv
    exact repr_tup ho hc hd hr2 (RpA.rk I ha rv) ok hr.gd (by omega) fun h' u tk k => ⟨.str _, H, I.kept (h' := h') (t' := tk) k, ⟨_, rfl⟩, q⟩
  | @dct a kvs ds hs ha =>
    cases rx
    obtain ⟨_, hsys, vs, rv, o, es, ep, ho, hx, hd, hk, hp, _⟩ := (show ObjOk X.prog X.w H s.heap a (.dK kvs) from I.hok a _ hs)
    obtain ⟨e1, e2⟩ := pairs_keys hp
    obtain ⟨bs, hr2, _⟩ := RpK.reads I ha rv
    have kk := RpK.rk I ha rv
    have k1 := reads_keys s.heap e2
    rw [← kv_keys rv, List.map_map] at k1
    have k2 : ds.map (·.1) = kvs.map (kD ∘ fun p => p.1) := rpk_keys ha
    rw [← k2] at k1
    rw [← e1] at hr2 kk
    refine repr_dct ho hx.1 hd k1 hr2 ?_ kk ok hr.gd (by omega) fun h' u tk k => ⟨.str _, H, I.kept (h' := h') (t' := tk) k, ⟨_, rfl⟩, q⟩
    cases z : a == sysModules with
    | false => rfl
    | true =>
      have := eq_of_beq z
      subst this
      simp at hsys
  | _ => exact old fun z => by cases z
/-- repr of any small data -/
def reprG (x : PyData) (q : PyData → Prop) : Prop := okR x ∧ q (.str x.shown)
theorem cd_reprG : CallD X.K (rReprG X) (d1 reprG) := by
  rintro F R M H xs ls q Q A rr ⟨a, x, rfl, e, o, h⟩ c
  obtain ⟨v, rfl, r⟩ := lrs1 rr
  exact ⟨v, x, rfl, rd_rep A r e, o, c.plain A (.str _) h⟩
end
end
end DL
end
section
set_option maxHeartbeats 1000000
/-! {k: v} of written parts, which nobody changes -/
namespace DL
open PySem PySem.Spec PyProof.Rows L2
theorem Abs.frzM {K : PySem.W.Frag} {F R H : Hp} {M M0 : Ms} {p : Addr} {o : HO} {m : MO} (A : Abs K F R M H) (e0 : M p = some m) (hM : ∀ b, b ≠ p → M0 b = M b) (h0 : M0 p = none) : Abs K (upd F p o) R M0 (upd H p o) := by
  obtain ⟨hf, hr, _⟩ := A.mu p m e0
  refine ⟨fun b x e => ?_, fun a n e => ?_, fun a x e => ?_⟩
  · by_cases q : b = p
    · subst q
      rw [upd_same] at e ⊢
      exact e
    · rw [upd_ne q] at e ⊢
      exact A.fz b x e
  · have q : a ≠ p := fun q => by
      subst q
      rw [h0] at e
      cases e
    rw [hM a q] at e
    obtain ⟨z, z2, r⟩ := A.mu a n e
    exact ⟨by rw [upd_ne q]; exact z, z2, r.mono (same_new hf) (upd_ne q)⟩
  · have q : a ≠ p := fun q => by
      subst q
      rw [hr] at e
      cases e
    rw [upd_ne q, upd_ne q]
    exact A.rs a x e
section
variable {X : Cx} {G : GH} {pos : Pos}
theorem px_dic1 {k v : Expr} {key : L2.Key} {d : PyData} (hk : PE X k (tC (kV key))) (hv : PX X G v (dC d)) : PX X G (.Dict [some k] [v] pos) (dC (.dict [(kD key, d)])) := by
  refine pe_imp (pe_disp (pps_of (PXP.cons hk hv .nil)) rfl rfl (by intro z; cases z) (Nat.le_of_ble_eq_true rfl)) ?_
  rintro σ H Q ⟨F, R, η, M, q, hG, A, E, h, c⟩
  intro p hp
  have hM := A.freeM hp
  have A0 := A.new (m := .dct []) hp ⟨[], upd_same, .nil⟩
  refine prs_walk [(key, dC d)] (q := fun kvs M2 => M2 = updM M p (.dct []) ∧ kvs = [(key, .d d)]) hG A0 E ⟨rfl, rfl⟩ ?_
  rintro kvs M2 H2 F2 vs2 s2 A2 r2 hl2 ⟨rfl, rfl⟩
  obtain ⟨hf2, _, vs0, hv0, r0⟩ := A2.mu p _ updM_same
  cases r0
  cases r2 with
  | cons r r2 =>
    cases r2
    obtain ⟨rk, rv⟩ := r
    rename_i kv
    obtain ⟨k0, v0⟩ := kv
    simp only at rk rv
    subst rk
    refine ⟨hv0, [(k0, v0)], rfl, Nat.le_of_ble_eq_true rfl, ?_⟩
    exact c (.d (.dict [(kD k0, d)])) M (.ref p) _ _ (s2.trans (same_new hf2)) (A2.frzM (M0 := M) updM_same (fun b hb => (updM_ne hb).symm) hM) (.dct upd_same (.cons (Rp.mono (same_new hf2) rv) .nil)) h
end
end DL
end
section
set_option maxHeartbeats 1000000
/-! min and max of a list or a tuple of ints -/
namespace DL
open PySem PySem.Spec PyProof.Rows L2 PySem.W
theorem alike_ints (ns : List Int) : AlikeAll (ns.map PyData.int) := by
  refine ⟨fun x hx y hy => ?_, fun x hx => ?_⟩
  · obtain ⟨i, _, rfl⟩ := List.mem_map.mp hx
    obtain ⟨j, _, rfl⟩ := List.mem_map.mp hy
    rfl
  · obtain ⟨i, _, rfl⟩ := List.mem_map.mp hx
    simp
theorem depthI : ∀ ds : List Int, PyData.depthAll (ds.map PyData.int) = 0
  | [] => rfl
  | d :: ds => by
    rw [List.map_cons, PyData.depthAll, depthI ds]
    rfl
def foldB (mx : Bool) (n : Int) (ns : List Int) : Int := if mx then ns.foldl max n else ns.foldl min n
def rBest (K : PySem.W.Frag) (mx : Bool) : List V → Hp → VK → Prop := fun vs H Q => ∃ (a : Addr) (n : Int) (ns : List Int), vs = [V.ref a] ∧ (SqL K H a ((n :: ns).map V.int) ∨ SqT K H a ((n :: ns).map V.int)) ∧ Q (.int (foldB mx n ns)) H
section
variable {X : Cx}
theorem reads_ints {h : Heap} : ∀ {us : List Value} {ns : List Int}, Vals (ns.map V.int) us → ∃ as, ReadsAll h us (ns.map .int) as
  | _, [], .nil => ⟨_, .nil⟩
  | _, n :: ns, .cons r t => by
    obtain ⟨k, rfl⟩ := r
    obtain ⟨as, q⟩ := reads_ints (h := h) t
    exact ⟨_, .cons (.int _ _) q⟩
theorem reads_int_inv {h : Heap} {v : Value} {i : Int} {bs : List Addr} (r : Reads h v (.int i) bs) : ∃ t, v = .int i t := by
  cases r
  exact ⟨_, rfl⟩
theorem cr_min1 (hc : X.calm = true) (hr : RoomG 0 X.A) : CallR X (.builtin "min") (rBest X.K false) := by
  rintro pins s σ H vs us Q I r ⟨a, n, ns, rfl, hs, q⟩
  have hu : X.A.units + 200 < cLine := by have := hr.rm.un; omega
  have dp : PyData.depthAll (PyData.int n :: ns.map .int) = 0 := depthI (n :: ns)
  rw [Vals.ref1 r]
  have fin : ∀ (i : Nat) (v : Value) (h' : Heap) (tk : Nat) (bs : List Addr), Reads h' v (minD (.int n) (ns.map .int)) bs → (∀ b o, s.heap.get? b = some o → h'.get? b = some o) → EP X pins σ Q v { s with heap := h', toks := tk } := by
    intro i v h' tk bs rd hk
    rw [minD_ints] at rd
    obtain ⟨t, rfl⟩ := reads_int_inv rd
    exact ⟨.int _, H, I.kept (h' := h') (t' := tk) hk, ⟨_, rfl⟩, q⟩
  rcases hs with hs | hs
  · obtain ⟨its, rv, hl, _⟩ := I.list hs
    obtain ⟨as, rd⟩ := reads_ints (h := s.heap) rv
    exact min_list_data (I.ok.hd hc) hl.isList (by simpa using rd) (alike_ints (n :: ns)) (by rw [dp]; omega) fun i v h' tk bs _ r k => fin i v h' tk bs r k
  · obtain ⟨its, rv, hl, _⟩ := I.tuple hs
    obtain ⟨as, rd⟩ := reads_ints (h := s.heap) rv
    exact min_tuple_data (I.ok.hd hc) hl (by simpa using rd) (alike_ints (n :: ns)) (by rw [dp]; omega) fun i v h' tk bs _ r k => fin i v h' tk bs r k
theorem cr_max1 (hc : X.calm = true) (hr : RoomG 0 X.A) : CallR X (.builtin "max") (rBest X.K true) := by
  rintro pins s σ H vs us Q I r ⟨a, n, ns, rfl, hs, q⟩
  have hu : X.A.units + 200 < cLine := by have := hr.rm.un; omega
  have dp : PyData.depthAll (PyData.int n :: ns.map .int) = 0 := depthI (n :: ns)
  rw [Vals.ref1 r]
  have fin : ∀ (i : Nat) (v : Value) (h' : Heap) (tk : Nat) (bs : List Addr), Reads h' v (maxD (.int n) (ns.map .int)) bs → (∀ b o, s.heap.get? b = some o → h'.get? b = some o) → EP X pins σ Q v { s with heap := h', toks := tk } := by
    intro i v h' tk bs rd hk
    rw [maxD_ints] at rd
    obtain ⟨t, rfl⟩ := reads_int_inv rd
    exact ⟨.int _, H, I.kept (h' := h') (t' := tk) hk, ⟨_, rfl⟩, q⟩
  rcases hs with hs | hs
  · obtain ⟨its, rv, hl, _⟩ := I.list hs
    obtain ⟨as, rd⟩ := reads_ints (h := s.heap) rv
    exact max_list_data (I.ok.hd hc) hl.isList (by simpa using rd) (alike_ints (n :: ns)) (by rw [dp]; omega) fun i v h' tk bs _ r k => fin i v h' tk bs r k
  · obtain ⟨its, rv, hl, _⟩ := I.tuple hs
    obtain ⟨as, rd⟩ := reads_ints (h := s.heap) rv
    exact max_tuple_data (I.ok.hd hc) hl (by simpa using rd) (alike_ints (n :: ns)) (by rw [dp]; omega) fun i v h' tk bs _ r k => fin i v h' tk bs r k
def bestW (mx : Bool) : PyData → (PyData → Prop) → Prop
  | .list ds, q => ∃ n ns, intsD ds = some (n :: ns) ∧ q (.int (foldB mx n ns))
  | .tuple ds, q => ∃ n ns, intsD ds = some (n :: ns) ∧ q (.int (foldB mx n ns))
  | _, _ => False
theorem cd_best {mx : Bool} : CallD X.K (rBest X.K mx) (d1 (bestW mx)) := by
  rintro F R M H xs ls q Q A rr ⟨a, x, rfl, e, h⟩ c
  obtain ⟨v, rfl, r⟩ := lrs1 rr
  cases x with
  | list ds =>
    obtain ⟨n, ns, e1, h⟩ := h
    obtain ⟨p, vs, rfl, s, r2⟩ := rd_list A r e
    have i1 := intsD_rep e1 r2
    subst i1
    exact ⟨p, n, ns, rfl, .inl s.l, c.plain A (.int _) h⟩
  | tuple ds =>
    obtain ⟨n, ns, e1, h⟩ := h
    obtain ⟨p, vs, rfl, s, r2⟩ := rd_tuple A r e
    have i1 := intsD_rep e1 r2
    subst i1
    exact ⟨p, n, ns, rfl, .inr s, c.plain A (.int _) h⟩
  | _ => exact h.elim
end
end DL
end
section
set_option maxHeartbeats 1000000
/-! a, b = a list -/
namespace DL
open PySem PySem.Spec PyProof.Rows L2
section
variable {prog : Program} {w : World} {A : Around} {E : Value → Shared → Prop} {s : Shared}
theorem li_ext {h h' : Heap} {a l b : Addr} {i : Nat} (x : h.IsListIter a l i) (k : Heap.ExtBut b h h') (ne : a ≠ b) : h'.IsListIter a l i := let ⟨o, ho, r⟩ := x; ⟨o, k a o ne ho, r⟩
theorem drawL {it l : Addr} {items : Array Value} (hne : l ≠ it) : ∀ (n i : Nat) (s : Shared) (Q : List Value → Shared → Prop), s.heap.IsListIter it l i → s.heap.IsList l items → i + n ≤ items.size →
    (∀ h', h'.IsListIter it l (i + n) → Heap.SameBut it s.heap h' → Q ((items.toList.drop i).take n) { s with heap := h' }) → wpAny (model prog w) A (draw (.ref it) n) Q E s
  | 0, i, s, Q, hit, _, _, hQ => by
    show wpAny _ _ (pure []) Q E s
    exact wpAny_pure (by simpa using hQ s.heap hit (Heap.SameBut.refl ..))
  | n + 1, i, s, Q, hit, ht, hle, hQ => by
    have lt : i < items.size := by omega
    show wpAny _ _ (pyNext (.ref it) >>= _) Q E s
    refine wpAny_bind (wpAny_pyNext_list_item hit ht (x := items[i]) (by simp [lt]) fun h1 hit1 hs1 => ?_)
    refine wpAny_bind (wpAny_holding (drawL hne n (i + 1) _ _ hit1 (ht.extBut hs1.extBut hne) (by omega) fun h2 hit2 hs2 => wpAny_pure ?_))
    have hd : items.toList.drop i = items[i] :: items.toList.drop (i + 1) := by simp [List.drop_eq_getElem_cons, lt]
    have z := hQ h2 (by rw [show i + (n + 1) = i + 1 + n by omega]; exact hit2) (hs1.trans hs2)
    rw [hd, List.take_succ_cons] at z
    exact z
theorem unpackL {l : Addr} {items : Array Value} {Q : List Value → Shared → Prop} (hh : A.handled = none) (ht : s.heap.IsList l items)
    (hQ : ∀ h', Heap.ExtBut s.heap.objs.size s.heap h' → Q items.toList { s with heap := h' }) : wpAny (model prog w) A (unpackItems (.ref l) items.size none) Q E s := by
  have lt : l ≠ s.heap.objs.size := by obtain ⟨o, ho, _⟩ := ht; exact Nat.ne_of_lt (Heap.lt_size ho)
  unfold unpackItems
  refine wpAny_bind ?_
  unfold notIterableAtAll
  refine wpAny_bind (wpAny_specialOf ht.typeIs F.slot_list_iter.lookup ?_)
  refine wpAny_pure ?_
  simp only [Bool.false_eq_true, if_false]
  refine wpAny_bind (wpAny_holding (wpAny_pyIter_list ht ?_))
  refine wpAny_bind (wpAny_holding (drawL lt items.size 0 _ _ ⟨_, Heap.get?_push_size _ rfl, rfl, rfl⟩ (ht.push _) (by omega) fun h1 hit1 hs1 => ?_))
  have all : List.take items.size (List.drop 0 items.toList) = items.toList := by
    rw [List.drop_zero]; exact List.take_of_length_le (by simp)
  rw [all, if_neg (by simp)]
  have ht1 : h1.IsList l items := (ht.push _).extBut hs1.extBut lt
  refine wpAny_bind (wpAny_holding (wpAny_pyNext_list_end hh hit1 ht1 (by simp) fun h2 he2 => ?_))
  simp only [Option.isSome_none, Bool.false_eq_true, if_false]
  exact wpAny_pure (hQ h2 fun b o hb e => he2 b o hb (hs1.extBut b o hb (Heap.get?_push_of_some _ e)))
theorem assignL {env : Env} {elts : List Expr} {x1} {pos : Pos} {l : Addr} {items : Array Value} {Q : Unit → Shared → Prop} (hh : A.handled = none) (ht : s.heap.IsList l items)
    (hn : (assignEach elts env).length = items.size) (hstar : (assignEach elts env).findIdx? (·.1) = none)
    (h : ∀ h', Heap.ExtBut s.heap.objs.size s.heap h' → wpAny (model prog w) A (assignInOrder ((assignEach elts env).map (·.2)) items.toList) Q E { s with heap := h' }) :
    wpAny (model prog w) A (assign (.Tuple elts x1 pos) env (.ref l)) Q E s := by
  rw [arm_assign_Tuple]
  refine wpAny_bind (wpAny_standAt ?_)
  unfold unpack
  rw [hn, hstar]
  exact wpAny_bind (wpAny_holding (unpackL hh ht h))
end
/-- (a, b, ..) = a tuple or a list of that length -/
def gTupL (K : PySem.W.Frag) (n : Nat) (t : TGs) : TG := fun v σ H Q => ∃ a xs, v = .ref a ∧ (SqT K H a xs ∨ SqM K H a xs) ∧ xs.length = n ∧ t xs σ H Q
section
variable {X : Cx} {G : GH} {pos : Pos}
theorem pg_tupL {es : List Expr} {k : Nat} {t : TGs} {n : Nat} (hc : X.calm = true) (h : PGs X es t)
    (hn : (assignEach es X.env).length = n := by rfl) (hst : (assignEach es X.env).findIdx? (·.1) = none := by rfl) : PG X (.Tuple es k pos) (gTupL X.K n t) := by
  refine ⟨fun pins s σ H v u Q I r hw => ?_⟩
  obtain ⟨a, xs, e1, hq, hl, hw⟩ := hw
  rcases hq with hq | hq
  · exact (pg_tup hc h hn hst).run pins s σ H v u Q I r ⟨a, xs, e1, hq, hl, hw⟩
  · subst e1
    cases r
    obtain ⟨its, rv, ht, _⟩ := I.list hq.l
    refine assignL (I.ok.hd hc) ht.isList (by simp [hn, ← hl, rv.length]) hst fun h' hx => ?_
    have I1 : Inv X pins σ H { s with heap := h' } := I.kept (t' := s.toks) fun b o e => hx b o (Nat.ne_of_lt (Heap.lt_size e)) e
    exact h.run pins _ σ H xs _ Q I1 (by simpa using rv) hw
def gTq (n : Nat) (gs : DGs) : DG := fun l η M q => ∃ xs, (rd M l = some (.tuple xs) ∨ rd M l = some (.list xs)) ∧ xs.length = n ∧ gs (xs.map L.d) η M q
theorem pxg_tupL {es : List Expr} {k : Nat} {gs : DGs} {n : Nat} (hc : X.calm = true) (h : PXGs X G es gs)
    (hn : (assignEach es X.env).length = n := by rfl) (hst : (assignEach es X.env).findIdx? (·.1) = none := by rfl) : PXG X G (.Tuple es k pos) (gTq n gs) := by
  refine pg_imp (pg_tupL hc h hn hst) ?_
  rintro v σ H Q ⟨F, R, η, M, l, q, hG, A, E, r, h, k⟩
  obtain ⟨xs, e, hl, h⟩ := h
  rcases e with e | e
  · obtain ⟨p, vs, rfl, hs, ha⟩ := rd_tuple A r e
    have rf := rd_tupleF r e
    cases rf with
    | tup hs2 ha2 => exact ⟨_, _, rfl, .inl (sqT_same A.fz hs2.sq), by rw [ha2.length]; exact hl, F, R, η, M, _, q, hG, A, E, LRs.of_data ha2, h, k⟩
  · obtain ⟨p, vs, rfl, hs, ha⟩ := rd_list A r e
    exact ⟨p, vs, rfl, .inr hs, by rw [ha.length]; exact hl, F, R, η, M, _, q, hG, A, E, LRs.of_data ha, h, k⟩
theorem gTq_t {n : Nat} {gs : DGs} {xs : List PyData} {η : Ev} {M : Ms} {q : Ev → Ms → Prop} : gTq n gs (.d (.tuple xs)) η M q = (xs.length = n ∧ gs (xs.map L.d) η M q) := by
  refine propext ⟨?_, fun h => ⟨xs, .inl rfl, h⟩⟩
  rintro ⟨ys, e, h⟩
  rcases e with e | e <;> cases e
  exact h
theorem gTq_l {n : Nat} {gs : DGs} {xs : List PyData} {η : Ev} {M : Ms} {q : Ev → Ms → Prop} : gTq n gs (.d (.list xs)) η M q = (xs.length = n ∧ gs (xs.map L.d) η M q) := by
  refine propext ⟨?_, fun h => ⟨xs, .inr rfl, h⟩⟩
  rintro ⟨ys, e, h⟩
  rcases e with e | e <;> cases e
  exact h
end
end DL
end
section
set_option maxHeartbeats 1000000
/-! a, b, c = x, y, z; longer ones -/
namespace DL
open PySem PySem.Spec PyProof.Rows L2
section
variable {X : Cx} {G : GH} {pos : Pos}
def dPar3 (i j l : Nat) (ds : DA) : DS := fun d η M => ds η M fun ls M1 => ∃ u v w, ls = [u, v, w] ∧ d.nx (((η.set i (some u)).set j (some v)).set l (some w)) M1
theorem lrs3 {K : PySem.W.Frag} {F : Hp} {vs : List V} {a b c : L} (r : LRs K F vs [a, b, c]) : ∃ u v w, vs = [u, v, w] ∧ LR K F u a ∧ LR K F v b ∧ LR K F w c := by
  cases r with
  | cons r1 r =>
    cases r with
    | cons r2 r =>
      cases r with
      | cons r3 r =>
        cases r
        exact ⟨_, _, _, rfl, r1, r2, r3⟩
theorem pxs_par3 (i j l : Nat) {a b c : Expr} {x y z : Str} {px py pz pt : Pos} {kt k2 pt2} {dd : DA} (hc : X.calm = true) (hN : X.N.Nodup) (ha : PXA X G [a, b, c] dd) (hij : i ≠ j := by decide) (hil : i ≠ l := by decide) (hjl : j ≠ l := by decide)
    (hi : X.N[i]? = some x := by rfl) (hj : X.N[j]? = some y := by rfl) (hl : X.N[l]? = some z := by rfl)
    (hx : X.env.scope.names.lookup x = some .local := by rfl) (hy : X.env.scope.names.lookup y = some .local := by rfl) (hz : X.env.scope.names.lookup z = some .local := by rfl)
    (hw : swappedStores [.Tuple [.Name x px, .Name y py, .Name z pz] kt pt] (.Tuple [a, b, c] k2 pt2) X.env = pure (some [x, y, z]) := by rfl)
    (hs : swapsWithSole [.Tuple [.Name x px, .Name y py, .Name z pz] kt pt] (.Tuple [a, b, c] k2 pt2) pos.line X.env = pure false := by rfl) :
    PXS X G (.Assign [.Tuple [.Name x px, .Name y py, .Name z pz] kt pt] (.Tuple [a, b, c] k2 pt2) pos) (dPar3 i j l dd) := by
  refine ps_imp (ps_par3 hc hN hi hj hl hij hil hjl hx hy hz ha hw hs) ?_
  rintro D σ H ⟨F, R, η, M, d, hG, A, E, h, k⟩
  refine la_bind hG A E h fun ls M1 vs H1 F1 g1 s1 A1 E1 r1 h1 => ?_
  obtain ⟨u, v, w, rfl, h1⟩ := h1
  obtain ⟨u', v', w', rfl, r1, r2, r3⟩ := lrs3 r1
  exact ⟨u', v', w', rfl, k.nx _ M1 _ H1 F1 s1 A1 (((E1.set i r1).set j r2).set l r3) h1⟩
/-- targets = a tuple that is written out, whatever stands in it -/
def dParT (n : Nat) (ds : DA) (gs : DGs) : DS := fun d η M => ds η M fun ls M1 => ls.length = n ∧ ls.length ≤ sizeLine ∧ gs ls η M1 d.nx
theorem pxs_parT {es vs : List Expr} {n : Nat} {kt k2 : _} {pt pt2 : Pos} {dd : DA} {gs : DGs} (hc : X.calm = true) (ha : PXA X G vs dd) (hg : PXGs X G es gs)
    (hn : (assignEach es X.env).length = n := by rfl) (hst : (assignEach es X.env).findIdx? (·.1) = none := by rfl)
    (hs : swapsWithSole [.Tuple es kt pt] (.Tuple vs k2 pt2) pos.line X.env = pure false := by rfl) (hw : swappedStores [.Tuple es kt pt] (.Tuple vs k2 pt2) X.env = pure none := by rfl)
    (h1 : (assignEach [.Tuple es kt pt] X.env).map (·.2) = [assign (.Tuple es kt pt) X.env] := by rfl) :
    PXS X G (.Assign [.Tuple es kt pt] (.Tuple vs k2 pt2) pos) (dParT n dd gs) := by
  refine ps_imp (ps_asg (pe_tupP ha) (pg_tup hc hg hn hst) hs hw h1) ?_
  rintro D σ H ⟨F, R, η, M, d, hG, A, E, h, k⟩
  refine la_bind hG A E h fun ls M1 vs H1 F1 g1 s1 A1 E1 r1 h2 => ?_
  obtain ⟨hl, hz, h2⟩ := h2
  refine ⟨by rw [r1.length]; exact hz, fun p o ho hp => ?_⟩
  have s2 := same_new (o := .frz o (.tup vs)) (A1.freeF hp)
  exact ⟨p, vs, rfl, .inl (.inr ⟨o, upd_same⟩), by rw [r1.length]; exact hl, _, R, η, M1, ls, d.nx, g1.trans s2, A1.frz hp, E1.mono s2, LRs.mono s2 r1, h2, fun η' M' σ' H' F' s => k.nx η' M' σ' H' F' ((s1.trans s2).trans s)⟩
end
end DL
end
section
set_option maxHeartbeats 1000000
/-! several except clauses, each with a name or without -/
namespace DL
open PySem PySem.Spec PyProof.Rows L2
/-- a clause: its class, the slot of its name, its suite -/
structure Cl where
  c : Value
  o : Option Nat
  ts : Addr → Value → Option Addr → TS
def endsO (D : Ends) : Option Nat → Ends
  | none => D
  | some i => { nx := fun τ G => D.nx (τ.set i none) G, rt := D.rt, bk := fun τ G => D.bk (τ.set i none) G, ct := fun τ G => D.ct (τ.set i none) G }
def stO (τ : L2.St) (a : Addr) : Option Nat → L2.St
  | none => τ
  | some i => τ.set i (some (.ref a))
def wCls (K : PySem.W.Frag) (Wo : WX) (D : Ends) : List Cl → WX
  | [] => Wo
  | k :: r => fun cls d τ G => ∃ b, PySem.W.exmOne K cls k.c = some b ∧ (b = true → ∀ a, G a = none → k.ts a cls d (endsO D k.o) (stO τ a k.o) G) ∧ (b = false → wCls K Wo D r cls d τ G)
inductive ClsOk (X : Cx) : List ExceptHandler → List Cl → Prop
  | nil : ClsOk X [] []
  | as {x n : Str} {c : Value} {i : Nat} {ts : Addr → Value → Option Addr → TS} {b0 : Stmt} {su : List Stmt} {np p : Pos} {hs : List ExceptHandler} {l : List Cl} (hc : Names X x c) (hi : X.N[i]? = some n) (hln : X.env.kindOf n = some .local)
      (hsu : ∀ (a : Addr) (oe : Obj) (cls : Value) (d : Option Addr) (pn : List (Addr × Obj)), Zc cls d oe → (∃ vs, oe.data = .fields vs) → PSs (X.suite a ((a, oe) :: pn)) (b0 :: su) (ts a cls d)) (r : ClsOk X hs l) :
      ClsOk X (.ExceptHandler (some (.Name x np)) (some n) (b0 :: su) p :: hs) (⟨c, some i, ts⟩ :: l)
  | pl {x : Str} {c : Value} {ts : Addr → Value → Option Addr → TS} {b0 : Stmt} {su : List Stmt} {np p : Pos} {hs : List ExceptHandler} {l : List Cl} (hc : Names X x c)
      (hsu : ∀ (a : Addr) (oe : Obj) (cls : Value) (d : Option Addr) (pn : List (Addr × Obj)), Zc cls d oe → (∃ vs, oe.data = .fields vs) → PSs (X.suite a ((a, oe) :: pn)) (b0 :: su) (ts a cls d)) (r : ClsOk X hs l) :
      ClsOk X (.ExceptHandler (some (.Name x np)) none (b0 :: su) p :: hs) (⟨c, none, ts⟩ :: l)
section
variable {X : Cx} {body : List Stmt} {h0 : ExceptHandler} {hds : List ExceptHandler} {l : List Cl} {pos : Pos} {tb : WX → TS} {Wo : WX}
theorem ps_try_cls (hst : X.stack = X.env :: X.outer) (hfm : X.env.frame = some X.env.locals) (hN : X.N.Nodup) (tk : Takes X Wo)
    (hb : ∀ (W : WX) (pn : List (Addr × Obj)) (xe : Value → Shared → Prop), Takes (X.tr pn xe) W → PassesOwn (model X.prog X.w) X.A X.env xe → PSs (X.tr pn xe) body (tb W))
    (hk : ClsOk X (h0 :: hds) l) : PS X (.Try body (h0 :: hds) [] [] pos) (fun D τ G => tb (wCls X.K Wo D l) D τ G) := by
  refine ⟨fun pins s τ G D I h => ?_⟩
  have ok := I.ok
  have frm : X.A.frames = some (X.env :: X.outer) := by rw [ok.frames, hst]
  refine wpAny_Try_except ?_
  refine wpAny_mono ((hb (wCls X.K Wo D l) (X.pn ++ pins) (fun e u1 => wpAny (model X.prog X.w) X.A (noteFrame e X.env) (fun _ u2 => wpAny (model X.prog X.w) X.A (setFlight e none) (fun _ u3 => wpAny (model X.prog X.w) X.A (handleBy e X.env (h0 :: hds)) (SP X pins D) X.xe u3) X.xe u2) X.xe u1)
    (fun u s' xx => ?_) PassesOwn.looking).run [] s τ G D (I.toTry _) h) (fun f s1 z => ?_) (fun e s1 z => z)
  · obtain ⟨a, B, sI, pins', τ', G', cls, d, rfl, Jt, nb, up, sky, na, os, ag, w⟩ := xx
    have J : Inv X pins τ' G' sI := Jt.ofTry ok
    have sk : Sky B (X.env :: X.outer) a (Zc cls d) X.env.locals s'.heap := by rw [← hst]; exact sky
    show wpAny (model X.prog X.w) X.A (noteFrame (.ref a) X.env) _ _ _
    refine Sky.land Zc.steady frm hfm sk fun q3 fl upq => ?_
    have Jq : Inv X pins τ' G' { s' with heap := q3 } := J.landed nb fl.1 (up.trans upq) os ag
    obtain ⟨oe, vs, heq, hz, hd⟩ := fl.there
    have nofr : a ∉ frs (X.env :: X.outer) := fun hm => by
      obtain ⟨_, o', e', hnf⟩ := fl.2.2.1.mem hm
      rw [heq] at e'
      cases e'
      exact hnf _ hd
    have nL : a ≠ X.env.locals := fun z => nofr (List.mem_filterMap.mpr ⟨X.env, List.mem_cons_self, by rw [hfm, z]⟩)
    have nF : a ∉ X.fs := fun hm => by
      obtain ⟨e, he, q⟩ := List.mem_filterMap.mp hm
      exact nofr (List.mem_filterMap.mpr ⟨e, List.mem_cons_of_mem _ he, q⟩)
    have Sq := Jq.suite heq hd na nL nF
    have tst : ∀ {y : Str} {yp : Pos} {cc : Value} {m : Bool}, Names X y cc → PySem.W.exmOne X.K cls cc = some m → ∀ {P : Bool → Shared → Prop} {E : Value → Shared → Prop}, P m { s' with heap := q3 } →
        wpAny (model X.prog X.w) (X.A.mark (some (.ref a))) (eval (.Name y yp) X.env) (fun t u2 => wpAny (model X.prog X.w) (X.A.mark (some (.ref a))) (excMatches (.ref a) t) P E u2) E { s' with heap := q3 } := by
      intro y yp cc m hy hm P E q
      have lk : PySem.W.Looks (model X.prog X.w) q3 (typeOf (.ref a)) cls := fun A Q E s k q => wpAny_typeOf_ref (k _ _ heq) (by rw [hz.1]; exact q)
      have lm := PySem.W.exm_one (M := model X.prog X.w) (Jq.kIn) lk hm
      obtain ⟨z1, z2, z3 | ⟨z3, z4, z5⟩⟩ := hy
      · exact ld_glob (X := X.suite a ((a, oe) :: (X.pn ++ pins))) Sq z1 z3 (lm.here q) z2
      · exact ld_blt (X := X.suite a ((a, oe) :: (X.pn ++ pins))) Sq z1 z3 z4 (lm.here q) z5 z2
    have run : ∀ {hs : List ExceptHandler} {cl : List Cl}, ClsOk X hs cl → wCls X.K Wo D cl cls d τ' G' → wpAny (model X.prog X.w) X.A (handleBy (.ref a) X.env hs) (SP X pins D) X.xe { s' with heap := q3 } := by
      intro hs cl hk
      induction hk with
      | nil =>
        intro w0
        refine wpAny_handleBy_nil ?_
        obtain ⟨-, -, -, o1, us, T, oT, tt, y1, y2, y3, y4, y5⟩ := id fl
        unfold PySem.passOn
        refine wpAny_bind (wpAny_field y1 y3 y4 ?_)
        rw [if_neg (show ¬ ((Value.ref T == Value.none) = true) from by simp)]
        have last : wpAny (model X.prog X.w) X.A (setFlight (.ref a) X.env.frame) (fun _ u4 => wpAny (model X.prog X.w) X.A (throw (.ref a) : Sem Flow) (SP X pins D) X.xe u4) X.xe { s' with heap := q3 } := by
          rw [hfm]
          refine HandSPX.setFlight_upZ fl fun q4 hq4 upr => wpAny_throw (tk _ _ ?_)
          exact ⟨a, B, sI, pins, τ', G', cls, d, rfl, J, nb, (up.trans upq).trans upr, .inr (.inr (by rw [hst]; exact hq4)), na, os, ag, w0⟩
        first
          | exact wpAny_bind (wpAny_pure (wpAny_bind last))
          | exact wpAny_bind last
      | @as y nm cc i tsu c0 cs yp p hs2 cl2 hy hi hln hsu r ih =>
        intro w0
        obtain ⟨m, hm, yes, no⟩ := w0
        refine wpAny_handleBy_cons (codeAny_handlers_test ?_) (by intro q; cases q)
        refine tst hy hm ?_
        cases m with
        | false => exact ih (no rfl)
        | true =>
          refine codeAny_handlers_suite_as ?_
          refine HandSPX.lands_againZ fl fun q4 fl4 upr => ?_
          have Jr : Inv X pins τ' G' { s' with heap := q4 } := J.landed nb fl4.1 ((up.trans upq).trans upr) os ag
          obtain ⟨o4, us4, y4, z4, d4⟩ := fl4.there
          refine store_ok (X := X.suite a ((a, o4) :: (X.pn ++ pins))) (v := .ref a) (Jr.suite y4 d4 na nL nF) hN hi (.inl hln) rfl (fun s5 S5 => ?_) (.inr hln)
          refine wpAny_mono ((hsu a o4 cls d (X.pn ++ pins) z4 ⟨_, d4⟩).run [] s5 _ G' _ S5 (yes rfl a na)) (fun f s6 hf6 => ?_) (fun _ _ z => False.elim z)
          have fin : ∀ {τ6 : L2.St} {G6 : Hp} {Q : Shared → Prop}, Inv (X.suite a ((a, o4) :: (X.pn ++ pins))) [] τ6 G6 s6 → (∀ s7, Inv X pins (τ6.set i none) G6 s7 → Q s7) →
              wpAny (model X.prog X.w) X.A (do bindName X.env nm .none; unbindBehindTheSuite X.env nm p) (fun _ s7 => Q s7) X.xe s6 := fun S6 hq => gone_ok (S6.unsuite ok) hN hi hln hq
          cases f with
          | ret u =>
            obtain ⟨v6, τ6, G6, S6, r6, q6⟩ := hf6
            exact fin S6 fun s7 J7 => ⟨_, _, _, J7, r6, q6⟩
          | next => exact hf6.elim fun τ6 z => z.elim fun G6 z => fin z.1 fun s7 J7 => ⟨_, _, J7, z.2⟩
          | brk => exact hf6.elim fun τ6 z => z.elim fun G6 z => fin z.1 fun s7 J7 => ⟨_, _, J7, z.2⟩
          | cont => exact hf6.elim fun τ6 z => z.elim fun G6 z => fin z.1 fun s7 J7 => ⟨_, _, J7, z.2⟩
      | @pl y cc tsu c0 cs yp p hs2 cl2 hy hsu r ih =>
        intro w0
        obtain ⟨m, hm, yes, no⟩ := w0
        refine wpAny_handleBy_cons (codeAny_handlers_test ?_) (by intro q; cases q)
        refine tst hy hm ?_
        cases m with
        | false => exact ih (no rfl)
        | true =>
          refine codeAny_handlers_suite ?_
          refine HandSPX.lands_againZ fl fun q4 fl4 upr => ?_
          have Jr : Inv X pins τ' G' { s' with heap := q4 } := J.landed nb fl4.1 ((up.trans upq).trans upr) os ag
          obtain ⟨o4, us4, y4, z4, d4⟩ := fl4.there
          refine wpAny_mono ((hsu a o4 cls d (X.pn ++ pins) z4 ⟨_, d4⟩).run [] _ _ G' _ (Jr.suite y4 d4 na nL nF) (yes rfl a na)) (fun f s6 hf6 => ?_) (fun _ _ z => False.elim z)
          cases f with
          | ret u =>
            obtain ⟨v6, τ6, G6, S6, r6, q6⟩ := hf6
            exact ⟨_, _, _, S6.unsuite ok, r6, q6⟩
          | next => exact hf6.elim fun τ6 z => z.elim fun G6 z => ⟨_, _, z.1.unsuite ok, z.2⟩
          | brk => exact hf6.elim fun τ6 z => z.elim fun G6 z => ⟨_, _, z.1.unsuite ok, z.2⟩
          | cont => exact hf6.elim fun τ6 z => z.elim fun G6 z => ⟨_, _, z.1.unsuite ok, z.2⟩
    exact run hk w
  · cases f with
    | ret u =>
      obtain ⟨v, τ', G', J', r, q⟩ := z
      exact ⟨v, τ', G', J'.ofTry ok, r, q⟩
    | next => exact z.elim fun τ' z => z.elim fun G' z => wpAny_execs_nil ⟨τ', G', z.1.ofTry ok, z.2⟩
    | brk => exact z.elim fun τ' z => z.elim fun G' z => ⟨τ', G', z.1.ofTry ok, z.2⟩
    | cont => exact z.elim fun τ' z => z.elim fun G' z => ⟨τ', G', z.1.ofTry ok, z.2⟩
end
end DL
namespace DL
open PySem PySem.Spec PyProof.Rows L2
/-- a clause as data: what it tests, the slot of its name, its suite -/
structure DCl where
  ex : Value → Bool → Prop
  o : Option Nat
  su : Addr → Value → List (Str × L) → DS
def endD (d : DEnds) : Option Nat → DEnds
  | none => d
  | some i => { nx := fun η2 M2 => d.nx (η2.set i none) M2, rt := d.rt, bk := fun η2 M2 => d.bk (η2.set i none) M2, ct := fun η2 M2 => d.ct (η2.set i none) M2 }
def evO (η : Ev) (a : Addr) : Option Nat → Ev
  | none => η
  | some i => η.set i (some (.c (.ref a)))
def dCls (wd : Ev → DXQ) (d : DEnds) : List DCl → Ev → DXQ
  | [] => wd
  | k :: r => fun η cls fs M => ∃ m, k.ex cls m ∧ (m = true → ∀ a, k.su a cls fs (endD d k.o) (evO η a k.o) M) ∧ (m = false → dCls wd d r η cls fs M)
def dTryM (ks : List DCl) (b : (Ev → DXQ) → DS) (wd : Ev → DXQ) : DS := fun d η M => b (dCls wd d ks) d η M
def tsD (K : PySem.W.Frag) (su : Addr → Value → List (Str × L) → DS) : Addr → Value → Option Addr → TS := fun a cls d D σ H => ∃ G' fs, XAt K G'.1 d fs ∧ LS K G' (su a cls fs) D σ H
inductive ClsD (X : Cx) : List ExceptHandler → List DCl → List Cl → Prop
  | nil : ClsD X [] [] []
  | as {x n : Str} {c : Value} {i : Nat} {ex : Value → Bool → Prop} {su : Addr → Value → List (Str × L) → DS} {b0 : Stmt} {cs : List Stmt} {np p : Pos} {hs : List ExceptHandler} {ks : List DCl} {l : List Cl} (hc : Names X x c) (hex : ∀ cls m, ex cls m → PySem.W.exmOne X.K cls c = some m)
      (hsu : ∀ (a : Addr) (oe : Obj) (cls : Value) (d : Option Addr) (pn : List (Addr × Obj)) (G' : GH) (fs : List (Str × L)), Zc cls d oe → (∃ vs, oe.data = .fields vs) → XAt X.K G'.1 d fs → PXB (X.suite a ((a, oe) :: pn)) G' (b0 :: cs) (su a cls fs)) (r : ClsD X hs ks l)
      (hi : X.N[i]? = some n := by rfl) (hln : X.env.kindOf n = some .local := by rfl) :
      ClsD X (.ExceptHandler (some (.Name x np)) (some n) (b0 :: cs) p :: hs) (⟨ex, some i, su⟩ :: ks) (⟨c, some i, tsD X.K su⟩ :: l)
  | pl {x : Str} {c : Value} {ex : Value → Bool → Prop} {su : Addr → Value → List (Str × L) → DS} {b0 : Stmt} {cs : List Stmt} {np p : Pos} {hs : List ExceptHandler} {ks : List DCl} {l : List Cl} (hc : Names X x c) (hex : ∀ cls m, ex cls m → PySem.W.exmOne X.K cls c = some m)
      (hsu : ∀ (a : Addr) (oe : Obj) (cls : Value) (d : Option Addr) (pn : List (Addr × Obj)) (G' : GH) (fs : List (Str × L)), Zc cls d oe → (∃ vs, oe.data = .fields vs) → XAt X.K G'.1 d fs → PXB (X.suite a ((a, oe) :: pn)) G' (b0 :: cs) (su a cls fs)) (r : ClsD X hs ks l) :
      ClsD X (.ExceptHandler (some (.Name x np)) none (b0 :: cs) p :: hs) (⟨ex, none, su⟩ :: ks) (⟨c, none, tsD X.K su⟩ :: l)
section
variable {X : Cx} {G : GH} {h0 : ExceptHandler} {body : List Stmt} {hds : List ExceptHandler} {ks : List DCl} {l : List Cl} {pos : Pos} {wd : Ev → DXQ} {b : (Ev → DXQ) → DS}
theorem ClsD.ok {hs : List ExceptHandler} (h : ClsD X hs ks l) : ClsOk X hs l := by
  have ts : ∀ {su : Addr → Value → List (Str × L) → DS} {b0 : Stmt} {cs : List Stmt}, (∀ (a : Addr) (oe : Obj) (cls : Value) (d : Option Addr) (pn : List (Addr × Obj)) (G' : GH) (fs : List (Str × L)), Zc cls d oe → (∃ vs, oe.data = .fields vs) → XAt X.K G'.1 d fs → PXB (X.suite a ((a, oe) :: pn)) G' (b0 :: cs) (su a cls fs)) →
      ∀ (a : Addr) (oe : Obj) (cls : Value) (d : Option Addr) (pn : List (Addr × Obj)), Zc cls d oe → (∃ vs, oe.data = .fields vs) → PSs (X.suite a ((a, oe) :: pn)) (b0 :: cs) (tsD X.K su a cls d) := by
    intro su b0 cs hsu a oe cls d pn hz hv
    exact ⟨fun pins s σ H D I h => h.elim fun G' h => h.elim fun fs h => (hsu a oe cls d pn G' fs hz hv h.1).run pins s σ H D I h.2⟩
  induction h with
  | nil => exact .nil
  | as hc hex hsu r hi hln ih => exact .as hc hi hln (ts hsu) ih
  | pl hc hex hsu r ih => exact .pl hc (ts hsu) ih
theorem ClsD.imp {hs : List ExceptHandler} {F R : Hp} {d : DEnds} {D : Ends} (h : ClsD X hs ks l) (hG : SG G F R) (k : EndsOk X.K F R d D) :
    ∀ (cls : Value) (dd : Option Addr) (σ : L2.St) (H : Hp), LW X.K (F, R) (dCls wd d ks) cls dd σ H → wCls X.K (LW X.K G wd) D l cls dd σ H := by
  induction h with
  | nil =>
    rintro cls dd σ H ⟨F', R', η', M', fs, hG', A', E', x', z⟩
    exact ⟨F', R, η', M', fs, hG.trans hG'.1, A'.less hG'.2, E', x', z⟩
  | @as x n c i ex su b0 cs np p hs ks l hc hex hsu r hi hln ih =>
    rintro cls dd σ H ⟨F', R', η', M', fs, hG', A', E', x', m, hm, h1, h2⟩
    have A2 := A'.less hG'.2
    have k' := k.mono hG'.1
    refine ⟨m, hex _ _ hm, fun e a ha => ⟨(F', R), fs, x', F', R, _, M', _, SG.refl F' R, A2, E'.set (l := .c (.ref a)) i rfl, h1 e a, ?_⟩, fun e => ih _ _ _ _ ⟨F', R', η', M', fs, hG', A', E', x', h2 e⟩⟩
    exact ⟨fun η2 M2 σ2 H2 F2 t A3 E3 h3 => k'.nx _ _ _ _ _ t A3 (E3.set_none i) h3, k'.rt,
      fun η2 M2 σ2 H2 F2 t A3 E3 h3 => k'.bk _ _ _ _ _ t A3 (E3.set_none i) h3, fun η2 M2 σ2 H2 F2 t A3 E3 h3 => k'.ct _ _ _ _ _ t A3 (E3.set_none i) h3⟩
  | @pl x c ex su b0 cs np p hs ks l hc hex hsu r ih =>
    rintro cls dd σ H ⟨F', R', η', M', fs, hG', A', E', x', m, hm, h1, h2⟩
    have A2 := A'.less hG'.2
    exact ⟨m, hex _ _ hm, fun e a ha => ⟨(F', R), fs, x', F', R, _, M', _, SG.refl F' R, A2, E', h1 e a, k.mono hG'.1⟩, fun e => ih _ _ _ _ ⟨F', R', η', M', fs, hG', A', E', x', h2 e⟩⟩
theorem pxs_tryM (hN : X.N.Nodup) (tk : Takes X (LW X.K G wd)) (hk : ClsD X (h0 :: hds) ks l)
    (hb : ∀ (pn : List (Addr × Obj)) (xe : Value → Shared → Prop) (G' : GH) (wd' : Ev → DXQ), PassesOwn (model X.prog X.w) X.A X.env xe → Takes (X.tr pn xe) (LW X.K G' wd') → PXB (X.tr pn xe) G' body (b wd'))
    (hs : X.stack = X.env :: X.outer := by rfl) (hf : X.env.frame = some X.env.locals := by rfl) :
    PXS X G (.Try body (h0 :: hds) [] [] pos) (dTryM ks b wd) := by
  refine ps_imp (ps_try_cls (l := l) (tb := fun W D σ H => ∃ G' wd', (∀ cls d σ' H', LW X.K G' wd' cls d σ' H' → W cls d σ' H') ∧ LS X.K G' (b wd') D σ H) hs hf hN tk ?_ hk.ok) ?_
  · intro W pn xe tk' po
    exact ⟨fun pins s σ H D I h => h.elim fun G' h => h.elim fun wd' h => (hb pn xe G' wd' po (tk'.imp h.1)).run pins s σ H D I h.2⟩
  · rintro D σ H ⟨F, R, η, M, d, hG, A, E, h, k⟩
    exact ⟨(F, R), dCls wd d ks, hk.imp hG k, F, R, η, M, d, SG.refl F R, A, E, h, k⟩
end
end DL
end
section
/-! a list that no longer changes, read as data from here on -/
namespace DL
open PySem PySem.Spec PyProof.Rows L2
theorem delM_ne {M : Ms} {a b : Addr} (h : b ≠ a) : delM M a b = M b := if_neg h
theorem delM_same {M : Ms} {a : Addr} : delM M a a = none := if_pos rfl
/-- the list in slot i is data from here on -/
def dFz (i : Nat) (s : DS) : DS := fun d η M => ∃ (p : Addr) (xs : List PyData), η[i]? = some (some (.p p)) ∧ M p = some (.lst (xs.map L.d)) ∧ s d (η.set i (some (.d (.list xs)))) (delM M p)
theorem rpa_of_lrs {K : PySem.W.Frag} {F : Hp} : ∀ {vs : List V} {xs : List PyData}, LRs K F vs (xs.map L.d) → RpA K F vs xs
  | [], [], _ => .nil
  | [], _ :: _, h => by cases h
  | _ :: _, [], h => by cases h
  | v :: vs, x :: xs, h => by
    cases h with
    | cons a b => exact .cons a (rpa_of_lrs b)
theorem abs_freeze {K : PySem.W.Frag} {F R H : Hp} {M : Ms} {p : Addr} {xs : List PyData} (A : Abs K F R M H) (h : M p = some (.lst (xs.map L.d))) :
    ∃ F', Same F F' ∧ Abs K F' R (delM M p) H ∧ LR K F' (.ref p) (.d (.list xs)) := by
  obtain ⟨h1, h2, vs, h3, h4⟩ := A.mu p _ h
  have s : Same F (upd F p (.lst vs)) := same_new h1
  refine ⟨upd F p (.lst vs), s, ⟨fun b o e => ?_, fun a o e => ?_, fun a o e => ?_⟩, .lst (.inl (.inl upd_same)) (RpA.mono s (rpa_of_lrs h4))⟩
  · by_cases q : b = p
    · subst q
      rw [upd_same] at e
      cases e
      exact h3
    · rw [upd_ne q] at e
      exact A.fz b o e
  · have q : a ≠ p := fun q => by rw [q, delM_same] at e; cases e
    rw [delM_ne q] at e
    obtain ⟨e1, e2, e3⟩ := A.mu a o e
    exact ⟨by rw [upd_ne q]; exact e1, e2, e3.mono s rfl⟩
  · have q : a ≠ p := fun q => by rw [q, h2] at e; cases e
    obtain ⟨e1, e2⟩ := A.rs a o e
    exact ⟨by rw [upd_ne q]; exact e1, e2⟩
theorem set_at {α : Type} : ∀ {l : List α} {i : Nat} {x : α}, l[i]? = some x → l.set i x = l
  | [], _, _, h => by simp at h
  | y :: l, 0, x, h => by
    have : y = x := by simpa using h
    rw [this]
    rfl
  | y :: l, i + 1, x, h => by
    show y :: l.set i x = y :: l
    rw [set_at (by simpa using h)]
theorem pxs_fz {X : Cx} {G : GH} {st : Stmt} {s : DS} (i : Nat) (h : PXS X G st s) : PXS X G st (dFz i s) := by
  refine ps_imp h ?_
  rintro D σ H ⟨F, R, η, M, d, hG, A, E, ⟨p, xs, e1, e2, z⟩, k⟩
  obtain ⟨F', s', A', r⟩ := abs_freeze A e2
  obtain ⟨v, hv, rv⟩ := E.2 i _ e1
  have rv : v = .ref p := rv
  subst rv
  have E' := (E.mono s').set i r
  rw [set_at hv] at E'
  exact ⟨F', R, _, _, d, hG.trans s', A', E', z, k.mono s'⟩
end DL
end
section
/-! // by greater divisors -/
namespace DL
open PySem PySem.Spec PyProof.Rows L2
def CDivG (_ j : Int) : Prop := 0 < j ∧ j < 2 ^ 100
def fdivG : PyData → PyData → (PyData → Prop) → Prop
  | .int i, .int j, q => CDivG i j ∧ q (.int (i / j))
  | _, _, _ => False
theorem log_small {j : Int} (h : 0 < j ∧ j < 2 ^ 100) : j.natAbs.log2 < 9000 := by
  have h0 : j.natAbs ≠ 0 := by omega
  have h1 : j.natAbs < 2 ^ 100 := by
    have := h.2
    omega
  exact (Nat.log2_lt h0).mpr (Nat.lt_of_lt_of_le h1 (Nat.pow_le_pow_right (by decide) (by decide)))
theorem op_fdivG {X : Cx} : OpR X (binaryOp .FloorDiv) (rI CDivG fun i j => .int (i / j)) := opI fun i j _ _ _ _ _ hc q =>
  floordiv_int (by have := hc.1; omega) (by rw [Int.fdiv_eq_ediv_of_nonneg i (by have := hc.1; omega)]; exact q) (.inl (PyProof.noPylong_of_log2 (log_small hc)))
theorem opx_fdivG {X : Cx} : OpR X (binaryOp .FloorDiv) (rW X.K fdivG) := by
  rintro pins s σ H x y v u Q I rx ry ⟨F, R, M, a, b, q, A, ra, rb, ⟨da, db, ea, eb, h⟩, c⟩
  match da, db, ea, eb, h with
  | .int i, .int j, ea, eb, h => exact op_fdivG pins s σ H _ _ v u Q I rx ry ⟨i, j, rd_int ra ea, rd_int rb eb, h.1, c.plain A (.int _) h.2⟩
theorem px_fdivG {X : Cx} {G : GH} {a b : Expr} {da db : DE} {pos : Pos} (ha : PX X G a da) (hb : PX X G b db) : PX X G (.BinOp a .FloorDiv b pos) (dOp (dBin fdivG) da db) := px_bin opx_fdivG (opD_of _) ha hb
end DL
end
section
/-! raise X() of an own class without fields -/
namespace DL
open PySem PySem.Spec PyProof.Rows L2
theorem pmk_bare {X : Cx} {C : Addr} {bmB : List Value} {B newId initId : String} {x : Str} {p pos : Pos} (F : ExcBaseFacts B newId initId bmB) (q : PySem.W.excIn X.K C bmB newId = true) (gC : X.mg x = some (.ref C)) (kC : PySem.W.keepIn X.K (.ref C) = true) (r : Raises X (.ref C))
    (hg : Gl X x := by rfl) (hdb : (x == ("__debug__" : Str)) = false := by decide) :
    PMk X (.Call (.Name x p) [] [] pos) (fun _ H Q => Q (.ref C) none H) := by
  intro pins s σ H Q I h
  refine wpAny_Call_Name_kw (ld_glob I hg gC ?_ hdb)
  refine PySem.W.callWith_K0 I.kIn kC ?_
  obtain ⟨bm, N, nm, qn, bs, hdct, sn, sub, ab, col, dd, k0, k1, k2, k3, k5, mN, hC, hN, hni, T⟩ := exc_obj I.kIn q
  show wpAny _ _ (call (.ref C) []) _ _ _
  refine wpAny_call_exc_subT F T hC hN hni (fun h' e hm => ?_) (Nat.zero_le _)
  exact mk_of I hm r h (I.hok.gone hm.new)
/-- a new one of class C -/
def dMk0 (C : Addr) : DMk := fun _ M e => e (.ref C) [] M
theorem pxm_bare {X : Cx} {G : GH} {C : Addr} {bmB : List Value} {B newId initId : String} {x : Str} {p pos : Pos} (F : ExcBaseFacts B newId initId bmB) (q : PySem.W.excIn X.K C bmB newId = true) (gC : X.mg x = some (.ref C)) (kC : PySem.W.keepIn X.K (.ref C) = true) (r : Raises X (.ref C))
    (hg : Gl X x := by rfl) (hdb : (x == ("__debug__" : Str)) = false := by decide) : PXM X G (.Call (.Name x p) [] [] pos) (dMk0 C) := by
  intro pins s σ H Q I h
  refine pmk_bare F q gC kC r hg hdb pins s σ H Q I ?_
  obtain ⟨F1, R, η, M, e, hG, A, E, h, c⟩ := h
  exact c (.ref C) none [] M H F1 (Same.refl F1) A (.inl ⟨rfl, rfl⟩) h
end DL
end
section
/-! list(range(a, b)) -/
namespace DL
open PySem PySem.Spec PyProof.Rows L2
section
variable {X : Cx} {G : GH} {a b : Expr} {da db : DE} {p p0 p2 pos : Pos}
def dListR2 (da db : DE) : DE := fun η M q => da η M fun l M1 => db η M1 fun r M2 => ∃ lo hi : Int, l = .d (.int lo) ∧ r = .d (.int hi) ∧ 0 ≤ lo ∧ lo ≤ 16777216 ∧ 0 ≤ hi ∧ hi ≤ 16777216 ∧ q (.d (.list (rangeD lo (hi - lo).toNat))) M2
theorem px_listR2 (hc : X.calm = true) (hm : X.mg "list" = none) (hr : X.mg "range" = none) (ha : PX X G a da) (hb : PX X G b db) (hg : Gl X "list" := by rfl) (hg2 : Gl X "range" := by rfl)
    (na : starEach [a, b] X.env = (false, eval a X.env) :: starEach [b] X.env := by rfl) (nb : starEach [b] X.env = (false, eval b X.env) :: starEach [] X.env := by rfl) (hp : (backTo p2 (starEach [b] X.env)).any (·.1) = false := by rfl)
    (nc : starEach [.Call (.Name "range" p0) [a, b] [] p2] X.env = (false, eval (.Call (.Name "range" p0) [a, b] [] p2) X.env) :: starEach [] X.env := by rfl) :
    PX X G (.Call (.Name "list" p) [.Call (.Name "range" p0) [a, b] [] p2] [] pos) (dListR2 da db) := by
  refine pe_imp (pe_listRg hc hg hm (prg_2 hg2 hr ha hb na nb hp) nc) ?_
  rintro σ H Q ⟨F, R, η, M, q, hG, A, E, h, c⟩
  refine le_bind hG A E h fun l M1 v H1 F1 g1 s1 A1 E1 r1 h1 => le_bind g1 A1 E1 h1 fun r M2 w H2 F2 g2 s2 A2 E2 r2 h2 => ?_
  obtain ⟨lo, hi, rfl, rfl, b1, b2, b3, b4, h2⟩ := h2
  obtain rfl : v = .int lo := by cases r1; rfl
  obtain rfl : w = .int hi := by cases r2; rfl
  refine ⟨lo, hi, rfl, rfl, RgOk.of_le b1 b4 b2 b3, fun p' hp => ?_⟩
  refine (c.mono (s1.trans s2)).lst A2 hp (ds := rangeD lo (hi - lo).toNat) ?_ h2
  unfold rgV rangeD
  generalize List.range (hi - lo).toNat = ks
  induction ks with
  | nil => exact .nil
  | cons z zs ih => exact .cons (.int _) ih
end
end DL
end
section
/-! xs.insert(i, x) -/
namespace DL
open PySem PySem.Spec PyProof.Rows L2
section
variable {X : Cx} {G : GH} {o a b : Expr} {de da db : DE} {pos : Pos}
def dInsert (de di dd : DE) : DE := fun η M q => de η M fun l M1 => ∃ p, l = .p p ∧ (∃ ls, M1 p = some (.lst ls)) ∧ di η M1 fun k M2 => dd η M2 fun y M3 => ∃ (i : Nat) (ls : List L), k = .d (.int (i : Nat)) ∧ i < 1000000 ∧ M3 p = some (.lst ls) ∧ ls.length < sizeLine ∧ q (.d .none) (updM M3 p (.lst (ls.take i ++ [y] ++ ls.drop i)))
theorem lrs_take {K : PySem.W.Frag} {F : Hp} : ∀ {vs : List V} {ls : List L} (i : Nat), LRs K F vs ls → LRs K F (vs.take i) (ls.take i)
  | _, _, 0, _ => .nil
  | _, _, _ + 1, .nil => .nil
  | _, _, i + 1, .cons a b => .cons a (lrs_take i b)
theorem lrs_drop {K : PySem.W.Frag} {F : Hp} : ∀ {vs : List V} {ls : List L} (i : Nat), LRs K F vs ls → LRs K F (vs.drop i) (ls.drop i)
  | _, _, 0, h => h
  | _, _, _ + 1, .nil => .nil
  | _, _, i + 1, .cons _ b => lrs_drop i b
theorem px_insert {apos : Pos} (ho : PX X G o de) (ha : PX X G a da) (hb : PX X G b db)
    (hbase : attributeBase o "insert" X.env (eval o X.env) = eval o X.env := by rfl)
    (hfew : ((backTo pos (starEach [a, b] X.env)).all (fun x => !x.1) && (backToKw pos (keywordEach [] X.env)).all (fun x => x.1.isSome)
      && decide (([a, b] : List Expr).length + ([] : List Keyword).length + (if ([] : List Keyword).isEmpty then 0 else 1) < 30)) = true := by rfl)
    (hline : (apos.endLine == pos.line) = true := by rfl) (hs : starEach [a, b] X.env = (false, eval a X.env) :: starEach [b] X.env := by rfl) (hs2 : starEach [b] X.env = (false, eval b X.env) :: starEach [] X.env := by rfl) (hplain : (backTo pos (starEach [b] X.env)).any (·.1) = false := by rfl) :
    PX X G (.Call (.Attribute o "insert" apos) [a, b] [] pos) (dInsert de da db) := by
  refine pe_imp (pe_bm PySem.F.plainAttrs_list PySem.F.slot_list_insert PySem.F.type_list_insert mt_insert ho (pa_cons ha (pa_cons hb pa_nil hs2) hs) hbase hfew hline hs hplain) ?_
  rintro σ H Q ⟨F, R, η, M, q, hG, A, E, h, c⟩
  refine le_bind hG A E h fun l M1 v H1 F1 g1 s1 A1 E1 r1 h1 => ?_
  obtain ⟨p, rfl, ⟨ls, hm⟩, h1⟩ := h1
  obtain rfl : v = .ref p := r1
  obtain ⟨_, _, vs, hv, rl⟩ := A1.mu p _ hm
  refine ⟨.inl ⟨rfl, vs, .inl (.inl hv)⟩, le_bind g1 A1 E1 h1 fun k M2 w H2 F2 g2 s2 A2 E2 r2 h2 => le_bind g2 A2 E2 h2 fun y M3 u H3 F3 g3 s3 A3 E3 r3 h3 => ?_⟩
  obtain ⟨i, ls2, rfl, hi, hm2, hz, h3⟩ := h3
  obtain ⟨_, _, vs2, hv2, rl2⟩ := A3.mu p _ hm2
  obtain rfl : w = .int (i : Nat) := by cases r2; rfl
  refine ⟨p, vs2, (i : Nat), u, rfl, rfl, hv2, by rw [rl2.length]; exact hz, by omega, by omega, ?_⟩
  rw [Int.toNat_natCast]
  exact c (.d .none) _ _ _ F3 ((s1.trans s2).trans s3) (A3.put (m' := .lst (ls2.take i ++ [y] ++ ls2.drop i)) hm2 ⟨_, upd_same, ((lrs_take i rl2).append (.cons r3 .nil)).append (lrs_drop i rl2)⟩) Rp.non h3
end
end DL
end
section
/-! xs.extend(a list that is made for it) -/
namespace DL
open PySem PySem.Spec PyProof.Rows L2
section
variable {X : Cx} {G : GH} {o a : Expr} {de da : DE} {pos : Pos}
def dExtend (de da : DE) : DE := fun η M q => de η M fun l M1 => ∃ p, l = .p p ∧ (∃ ls, M1 p = some (.lst ls)) ∧ da η M1 fun y M2 => ∃ (b : Addr) (ls zs : List L), y = .p b ∧ M2 p = some (.lst ls) ∧ M2 b = some (.lst zs) ∧ ls.length + zs.length ≤ sizeLine ∧ q (.d .none) (updM M2 p (.lst (ls ++ zs)))
theorem px_extend {apos : Pos} (ho : PX X G o de) (ha : PX X G a da)
    (hbase : attributeBase o "extend" X.env (eval o X.env) = eval o X.env := by rfl)
    (hfew : ((backTo pos (starEach [a] X.env)).all (fun x => !x.1) && (backToKw pos (keywordEach [] X.env)).all (fun x => x.1.isSome)
      && decide (([a] : List Expr).length + ([] : List Keyword).length + (if ([] : List Keyword).isEmpty then 0 else 1) < 30)) = true := by rfl)
    (hline : (apos.endLine == pos.line) = true := by rfl) (hs : starEach [a] X.env = (false, eval a X.env) :: starEach [] X.env := by rfl) (hplain : (backTo pos (starEach [] X.env)).any (·.1) = false := by rfl) :
    PX X G (.Call (.Attribute o "extend" apos) [a] [] pos) (dExtend de da) := by
  refine pe_imp (pe_bm PySem.F.plainAttrs_list PySem.F.slot_list_extend PySem.F.type_list_extend mt_extend ho (pa_cons ha pa_nil hs) hbase hfew hline hs hplain) ?_
  rintro σ H Q ⟨F, R, η, M, q, hG, A, E, h, c⟩
  refine le_bind hG A E h fun l M1 v H1 F1 g1 s1 A1 E1 r1 h1 => ?_
  obtain ⟨p, rfl, ⟨ls, hm⟩, h1⟩ := h1
  obtain rfl : v = .ref p := r1
  obtain ⟨_, _, vs, hv, rl⟩ := A1.mu p _ hm
  refine ⟨.inl ⟨rfl, vs, .inl (.inl hv)⟩, le_bind g1 A1 E1 h1 fun y M2 w H2 F2 g2 s2 A2 E2 r2 h2 => ?_⟩
  obtain ⟨b, ls2, zs, rfl, hm2, hb, hz, h2⟩ := h2
  obtain rfl : w = .ref b := r2
  obtain ⟨_, _, vs2, hv2, rl2⟩ := A2.mu p _ hm2
  obtain ⟨_, _, us, hu, ru⟩ := A2.mu b _ hb
  refine ⟨p, b, vs2, us, rfl, rfl, hv2, hu, by rw [rl2.length, ru.length]; exact hz, ?_⟩
  exact c (.d .none) _ _ _ F2 (s1.trans s2) (A2.put (m' := .lst (ls2 ++ zs)) hm2 ⟨_, upd_same, rl2.append ru⟩) Rp.non h2
end
end DL
end
section
/-! <<; name += int, name -= int -/
namespace DL
open PySem PySem.Spec PyProof.Rows L2
def shlW : PyData → PyData → (PyData → Prop) → Prop
  | .int i, .int j, q => CPow i j ∧ q (.int (i * 2 ^ j.toNat))
  | _, _, _ => False
theorem opx_shl {X : Cx} : OpR X (binaryOp .LShift) (rW X.K shlW) := by
  rintro pins s σ H x y v u Q I rx ry ⟨F, R, M, a, b, q, A, ra, rb, ⟨da, db, ea, eb, h⟩, c⟩
  match da, db, ea, eb, h with
  | .int i, .int j, ea, eb, h => exact op_shl pins s σ H _ _ v u Q I rx ry ⟨i, j, rd_int ra ea, rd_int rb eb, h.1, c.plain A (.int _) h.2⟩
theorem px_shl {X : Cx} {G : GH} {a b : Expr} {da db : DE} {pos : Pos} (ha : PX X G a da) (hb : PX X G b db) : PX X G (.BinOp a .LShift b pos) (dOp (dBin shlW) da db) := px_bin opx_shl (opD_of _) ha hb
def dAug (f : Int → Int → Int) (i : Nat) (de : DE) : DS := fun d η M => ∃ x : Int, η[i]? = some (some (.d (.int x))) ∧ de η M fun l M1 => ∃ y : Int, l = .d (.int y) ∧ d.nx (η.set i (some (.d (.int (f x y))))) M1
section
variable {X : Cx} {G : GH} {e : Expr} {de : DE} {pos pos' : Pos} {x : Str} {op : Operator} {f : Int → Int → Int}
theorem pxs_aug (i : Nat) (ho : PIp X op (rI0 fun a b => .int (f a b))) (hN : X.N.Nodup) (he : PX X G e de) (hi : X.N[i]? = some x := by rfl) (hx : Loc X.env.scope x := by first | exact Or.inl rfl | exact Or.inr rfl)
    (hf : X.fn x = true ∨ X.env.scope.names.lookup x = some .local := by first | exact .inl rfl | exact .inr rfl) : PXS X G (.AugAssign (.Name x pos') op e pos) (dAug f i de) := by
  refine ps_imp (ps_aug hN hi hx he ho hf) ?_
  rintro D σ H ⟨F, R, η, M, d, hG, A, E, ⟨a, ha, h⟩, k⟩
  obtain ⟨v, hv, rv⟩ := E.2 i _ ha
  obtain rfl : v = .int a := by cases rv; rfl
  refine ⟨_, hv, le_bind hG A E h fun l M1 w H1 F1 g1 s1 A1 E1 r1 h1 => ?_⟩
  obtain ⟨b, rfl, h1⟩ := h1
  obtain rfl : w = .int b := by cases r1; rfl
  exact ⟨a, b, rfl, rfl, k.nx _ M1 _ H1 F1 s1 A1 (E1.set (v := .int (f a b)) (l := .d (.int (f a b))) i (Rp.int _)) h1⟩
end
end DL
end
section
set_option maxHeartbeats 1000000
/-! sorted: of tuples of any length, () among them -/
namespace DL
open PySem PySem.Spec PyProof.Rows L2 PySem.Calls PySem.SeqAt
section
variable {prog : Program} {w : World} {A : Around} {E : Value → Shared → Prop} {s : Shared}
theorem tup_lt_call {Q : Value → Shared → Prop} {l b : Addr} {items items2 : Array Value} {e r : Nat → Bool} (hl : s.heap.IsTuple l items) (hb : s.heap.IsTuple b items2)
    (he : ∀ j (h1 : j < items.size) (h2 : j < items2.size), EqAt A.in1 s items[j] items2[j] (e j)) (hr : ∀ j (h1 : j < items.size) (h2 : j < items2.size), e j = false → RcLt A.in1 s items[j] items2[j] (r j))
    (h : Q (.bool (firstLt e r (decide (items.size < items2.size)) (List.range (min items.size items2.size)))) s) : wpAny (model prog w) A (call (.builtin "tuple.__lt__") [.ref l, .ref b]) Q E s := by
  obtain ⟨⟨c1, dd, data, sl⟩, ho, hc, n, hd⟩ := id hl
  obtain ⟨⟨c2, dd2, data2, sl2⟩, ho2, hc2, n2, hd2⟩ := id hb
  simp only at hc hd hc2 hd2
  subst hc hd hc2 hd2
  exact call_meets F.slot_tuple_lt ⟨_, ho, rfl⟩ F.entry_tuple_lt (F.args_tuple_lt_2 _ _) (tuple_ltAt l b items items2 n n2 dd dd2 sl sl2 e r) ⟨ho, ho2, he, hr, h⟩
/-- one tuple against another, as sorting compares them -/
theorem lt_tups {f : Bool} {xs ys : List PyData} {a b : Value} {as bs : List Addr} {Q : Bool → Shared → Prop} (ra : Reads s.heap a (.tuple xs) as) (rb : Reads s.heap b (.tuple ys) bs) (hal : W.alikeAll xs ys = true)
    (hu : A.units + min (PyData.tuple xs).depth (PyData.tuple ys).depth < cLine) (hq : Q (W.dataLt (.tuple xs) (.tuple ys)) s) : wpAny (model prog w) A (oneLt' f a b) Q E s := by
  cases f with
  | false =>
    rw [oneLt'_eq]
    simp only [Bool.false_eq_true, if_false]
    exact wpAny_bind (W.rcLt_alike (.tuple xs) (.tuple ys) A s a b as bs ra rb (by simpa [W.alike] using hal) (by simp) hu prog w E _ (wpAny_truthy_bool hq))
  | true =>
    cases ra with
    | @tuple l o vs n _ as₁ h1 h2 h3 h4 =>
      cases rb with
      | @tuple l' o' vs' n' _ bs₁ k1 k2 k3 k4 =>
        have n1 : vs.size = xs.length := by simpa using SeqAt.ReadsAll.length _ _ _ h4
        have n2 : vs'.size = ys.length := by simpa using SeqAt.ReadsAll.length _ _ _ k4
        rw [W.dataLt_tuple, ← W.firstLt_toks xs ys hal, ← n1, ← n2] at hq
        rw [oneLt'_eq]
        simp only [if_true]
        refine wpAny_bind (wpAny_cRoomFor (room_here hu) ?_)
        refine wpAny_bind (wpAny_callSpecialIfBound?_slot (T := "tuple") ⟨_, h1, h2⟩ F.slot_tuple_lt (tup_lt_call (e := pairEq xs ys) (r := fun j => W.dataLt (xs.getD j .none) (ys.getD j .none)) ⟨_, h1, h2, _, h3⟩ ⟨_, k1, k2, _, k3⟩ (fun j j1 j2 => ?_) (fun j j1 j2 hj => ?_) (wpAny_truthy_bool hq)))
        · have := W.eqAt_alikeAll xs ys A.in1 s vs.toList vs'.toList _ _ h4 k4 hal (room_in hu) j (by simpa using j1) (by simpa using j2)
          simpa using this
        · have := W.rcLt_alikeAll xs ys A.in1 s vs.toList vs'.toList _ _ h4 k4 hal (room_in hu) j (by simpa using j1) (by simpa using j2) hj
          simpa using this
theorem mapM_each {M : Model} {α β : Type} {f : α → Sem β} {r : α → β} : ∀ (l : List α) {Q : List β → Shared → Prop}, (∀ v ∈ l, ∀ (Q' : β → Shared → Prop), Q' (r v) s → wpAny M A (f v) Q' E s) → Q (l.map r) s → wpAny M A (l.mapM f) Q E s
  | [], _, _, h => by rw [List.mapM_nil]; exact wpAny_pure h
  | x :: l, Q, hf, h => by
    rw [List.mapM_cons]
    exact wpAny_bind (hf x (.head _) _ (wpAny_bind (mapM_each l (Q := fun bs s' => wpAny M A (pure (r x :: bs)) Q E s') (fun v hv => hf v (.tail _ hv)) (wpAny_pure h))))
/-- a tuple's first item -/
def headV (h : Heap) : Value → Option Value
  | .ref a => match h.get? a with
    | some o => match o.data with
      | .seq xs _ => xs[0]?
      | _ => none
    | none => none
  | _ => none
theorem first_tup {M : Model} {v : Value} {xs : List PyData} {as : List Addr} {Q : Option Value → Shared → Prop} (r : Reads s.heap v (.tuple xs) as) (h : Q (headV s.heap v) s) : wpAny M A (firstOfTuple' v) Q E s := by
  cases r with
  | @tuple a o vs n _ as₁ h1 h2 h3 h4 =>
    rw [W.kas_first_eq]
    refine wpAny_bind (W.Looks.here (show W.Looks M s.heap (typeOf (.ref a)) o.cls from (W.Looks.ld h1).andThen .now) ?_)
    rw [h2, if_neg (by first | decide | simp)]
    refine wpAny_bind (listItems_at h1 h3 (wpAny_pure ?_))
    have : headV s.heap (.ref a) = vs[0]? := by
      unfold headV
      simp only [h1, h3]
    rw [this] at h
    exact h
theorem head_none {v : Value} {xs : List PyData} {as : List Addr} {h : Heap} (r : Reads h v (.tuple xs) as) : (headV h v).isSome = !xs.isEmpty := by
  cases r with
  | @tuple a o vs n _ as₁ h1 h2 h3 h4 =>
    have : headV h (.ref a) = vs[0]? := by
      unfold headV
      simp only [h1, h3]
    rw [this]
    have n1 : vs.size = xs.length := by simpa using SeqAt.ReadsAll.length _ _ _ h4
    cases xs with
    | nil =>
      have : vs[0]? = none := by rw [Array.getElem?_eq_none]; rw [n1]; exact Nat.le_refl _
      rw [this]
      rfl
    | cons x xs =>
      have : 0 < vs.size := by rw [n1]; exact Nat.succ_pos _
      rw [Array.getElem?_eq_getElem this]
      rfl
theorem each_get {α β : Type} {R : α → β → Prop} : ∀ {as : List α} {bs : List β}, W.EachIs R as bs → ∀ b ∈ bs, ∃ a ∈ as, R a b
  | _, _, .nil, b, h => by cases h
  | _, _, .cons h t, b, hb => by
    rcases List.mem_cons.mp hb with rfl | hb
    · exact ⟨_, List.mem_cons_self, h⟩
    · obtain ⟨a, ha, r⟩ := each_get t b hb
      exact ⟨a, List.mem_cons_of_mem _ ha, r⟩
def emptyB : PyData → Bool
  | .tuple [] => true
  | _ => false
/-- what kind of keys they are: () stands first, or somewhere behind -/
theorem kind_tups {M : Model} {vs : List Value} {ds : List PyData} {Q : SortKind → Shared → Prop} (e : W.EachIs (fun v d => ∃ as, Reads s.heap v d as) vs ds) (ht : ∀ d ∈ ds, ∃ xs, d = .tuple xs) (he : .tuple [] ∈ ds) (h2 : 2 ≤ vs.length)
    (hq : Q (if (ds.head?.map emptyB) = some true then oneType' else general') s) : wpAny M A (keyKind' vs.toArray) Q E s := by
  obtain ⟨v₁, v₂, rest, rfl⟩ : ∃ v₁ v₂ rest, vs = v₁ :: v₂ :: rest := by
    match vs, h2 with
    | [], h2 => simp at h2
    | [_], h2 => simp at h2
    | v₁ :: v₂ :: rest, _ => exact ⟨v₁, v₂, rest, rfl⟩
  have rd : ∀ v ∈ v₁ :: v₂ :: rest, ∃ xs as, Reads s.heap v (.tuple xs) as := fun v hv => by
    obtain ⟨d, hd, as, r⟩ := e.left v hv
    obtain ⟨xs, rfl⟩ := ht d hd
    exact ⟨xs, as, r⟩
  rw [keyKind'_eq, List.mapM_toArray, map_eq_pure_bind]
  refine wpAny_bind (wpAny_bind (mapM_each (r := headV s.heap) _ (fun v hv Q' hq => ?_) (wpAny_pure ?_)))
  · obtain ⟨xs, as, r⟩ := rd v hv
    exact first_tup r hq
  have n1 : ¬ ((List.map (headV s.heap) (v₁ :: v₂ :: rest)).toArray.all fun x => x.isSome) = true := by
    simp only [List.all_toArray, List.all_map, List.all_eq_true]
    intro hall
    obtain ⟨v, hv, as, r⟩ := each_get e _ he
    have := hall v hv
    rw [Function.comp, head_none r] at this
    cases this
  rw [if_neg n1]
  cases e with
  | @cons _ d₁ _ ds₁ r1 t =>
    obtain ⟨as, r1⟩ := r1
    obtain ⟨xs, rfl⟩ := ht _ List.mem_cons_self
    have h0 : ((List.map (headV s.heap) (v₁ :: v₂ :: rest)).toArray[0]?.bind id) = headV s.heap v₁ := by simp
    rw [h0]
    cases xs with
    | cons x xs =>
      have : (headV s.heap v₁).isSome = true := by rw [head_none r1]; rfl
      rw [if_pos this]
      have hq : Q general' s := hq
      exact wpAny_pure hq
    | nil =>
      have : ¬ (headV s.heap v₁).isSome = true := by rw [head_none r1]; exact Bool.false_ne_true
      rw [if_neg this, oneTypeOnly'_eq, List.mapM_toArray, map_eq_pure_bind]
      have hq : Q oneType' s := hq
      refine wpAny_bind (wpAny_bind (wpAny_bind (W.kas_mapM (r := Value.type "tuple") _ (fun v hv Q' hq => ?_) (wpAny_pure ?_))))
      · obtain ⟨xs, as, r⟩ := rd v hv
        exact (W.looks_reads r).here hq
      · have hall : ((List.map (fun _ => Value.type "tuple") (v₁ :: v₂ :: rest)).toArray.all fun x => x == Value.type "tuple") = true := by
          simp only [List.all_toArray, List.all_map, List.all_eq_true]
          intro _ _
          exact beq_self_eq_true _
        have h0 : (List.map (fun _ => Value.type "tuple") (v₁ :: v₂ :: rest)).toArray[0]? = some (Value.type "tuple") := by simp
        rw [h0]
        simp only [hall, if_true]
        exact wpAny_pure (wpAny_pure hq)
theorem sorts_tups {vs : List Value} {ds : List PyData} (e : W.EachIs (fun v d => ∃ as, Reads s.heap v d as) vs ds) (hal : W.AllAlike ds) (ht : ∀ d ∈ ds, ∃ xs, d = .tuple xs) (hu : ∀ d, d ∈ ds → A.units + d.depth < cLine) : W.SortsAt prog w A s (W.dataKind s.heap ds) vs := by
  by_cases he : .tuple [] ∈ ds
  · refine ⟨fun v hv => ?_, ?_⟩
    · obtain ⟨d, hd, as, r⟩ := e.left v hv
      exact ⟨_, W.dataKind_some hal hd r⟩
    · refine ⟨if (ds.head?.map emptyB) = some true then oneType' else general', ?_, fun h2 E Q hq => kind_tups e ht he h2 hq⟩
      have both : ∀ f : Bool, ∀ (E : Value → Shared → Prop) (x y : Value) (a b : List (Int ⊕ List Nat)) (Q : Bool → Shared → Prop), (W.dataKind s.heap ds).keyOf x = some a → (W.dataKind s.heap ds).keyOf y = some b → Q ((W.dataKind s.heap ds).toKeyOrd.blt a b) s → wpAny (model prog w) A (oneLt' f x y) Q E s := by
        intro f E x y a b Q ha hb hq
        obtain ⟨d, as, hd, ra, rfl⟩ := W.dataKind_inv ha
        obtain ⟨d', as', hd', rb, rfl⟩ := W.dataKind_inv hb
        obtain ⟨xs, rfl⟩ := ht d hd
        obtain ⟨ys, rfl⟩ := ht d' hd'
        exact lt_tups ra rb (by simpa [W.alike] using hal _ hd _ hd') (Nat.lt_of_le_of_lt (Nat.add_le_add_left (Nat.min_le_left _ _) _) (hu _ hd)) hq
      split
      · intro E x y a b Q ha hb hq
        rw [keyLt'_oneType]
        exact both true E x y a b Q ha hb hq
      · intro E x y a b Q ha hb hq
        exact both false E x y a b Q ha hb hq
  · exact W.SortsAt.data e hal (.inl fun d hd => by
      obtain ⟨xs, rfl⟩ := ht d hd
      cases xs with
      | nil => exact absurd hd he
      | cons x xs => exact ⟨x, xs, rfl⟩) hu
/-- data that can be sorted: tuples of any length, or of another kind -/
def SortA (ds : List PyData) : Prop := W.Sortable ds ∨ ∀ d ∈ ds, ∃ xs, d = .tuple xs
theorem sorts_any {vs : List Value} {ds : List PyData} (e : W.EachIs (fun v d => ∃ as, Reads s.heap v d as) vs ds) (hal : W.AllAlike ds) (hk : SortA ds) (hu : ∀ d, d ∈ ds → A.units + d.depth < cLine) : W.SortsAt prog w A s (W.dataKind s.heap ds) vs :=
  hk.elim (fun h => W.SortsAt.data e hal h hu) fun h => sorts_tups e hal h hu
end
end DL
end
section
set_option maxHeartbeats 1000000
/-! sorted of a tuple; sorted with reverse=True: data of one kind -/
namespace DL
open PySem PySem.Spec PyProof.Rows L2 PySem.Calls
section
variable {prog : Program} {w : World} {A : Around} {E : Value → Shared → Prop} {s : Shared}
/-- a tuple's items, all taken -/
theorem take_tup {l : Addr} {vs : List Value} {Q : List Value → Shared → Prop} (hl : IsTup s.heap l vs.toArray) (hz : vs.length ≤ sizeLine)
    (h : Q vs { s with heap := (s.heap.push (seqObj "list" #[] 0)).update s.heap.objs.size (Obj.mapSeq (· ++ vs.toArray)) }) : wpAny (model prog w) A (collect (.ref l)) Q E s := by
  obtain ⟨o, ho, hc, n, hd⟩ := hl
  have h2 : (s.heap.push (seqObj "list" #[] 0)).get? l = some o := Heap.get?_push_of_some _ ho
  have h0 : (s.heap.push (seqObj "list" #[] 0)).get? s.heap.objs.size = some (seqObj "list" #[] 0) := Heap.get?_push_size _ rfl
  have tt : (listSame : Bool) → (listSame || (Value.type "tuple" == Value.type "list") || (Value.type "tuple" == Value.type "tuple")) = true := fun b => by
    have : (Value.type "tuple" == Value.type "tuple") = true := by rfl
    rw [this, Bool.or_true]
  unfold collect
  refine wpAny_bind (wpAny_runValue (codeAny_builtin entry_proto_collect' (wpAny_bind (wpAny_newList (wpAny_pure ⟨Code.quiet_builtin _ (by decide +kernel), codeAny_builtin entry_list_iadd' ?_⟩)))))
  show wpAny _ _ (Builtin.List.listExtendWith (.ref s.heap.objs.size) (.ref l) (.ref s.heap.objs.size)) _ _ { s with heap := s.heap.push (seqObj "list" #[] 0) }
  unfold Builtin.List.listExtendWith
  refine wpAny_bind (wpAny_typeOf (T := "tuple") ⟨o, h2, hc⟩ ?_)
  rw [if_pos (tt _)]
  refine wpAny_bind (listItems_at h2 hd (wpAny_bind (listItems_at (xs := #[]) (n := 0) h0 rfl ?_)))
  rw [if_neg (by simp)]
  refine wpAny_bind (listUpdate_at (xs := #[]) (n := 0) h0 rfl (wpAny_pure ?_) (Nat.zero_le _) ?_)
  · refine wpAny_bind (wpAny_load (get?_update_seq h0 _) ?_)
    have e : ((#[] : Array Value) ++ vs.toArray).toList = vs := by simp
    show wpAny _ _ (pure ((#[] : Array Value) ++ vs.toArray).toList) Q E _
    rw [e]
    exact wpAny_pure h
  · show (#[] ++ vs.toArray).size ≤ sizeLine + 1
    simp only [Array.size_append, List.size_toArray, List.length_nil]
    omega
theorem sort_of_tup {l : Addr} {vs : List Value} {kw : List (Str × Value)} {Q : Value → Shared → Prop} (hl : IsTup s.heap l vs.toArray) (hL : vs.length ≤ sizeLine) (a1 : argsOk "sorted" ⟨[.ref l], kw⟩) (a2 : ∀ x, argsOk "list.sort" ⟨[.ref x], kw⟩)
    (body : ∀ E' : Value → Shared → Prop, wpAny (model prog w) A.in1.in1 (Builtin.«list.sort» ⟨[.ref (s.heap.objs.size + 1)], kw⟩) (fun f s' => f = .done (.ret .none) ∧ Q (.ref (s.heap.objs.size + 1)) s') E' { s with heap := W.copyHeap s.heap vs }) :
    wpAny (model prog w) A (call (.builtin "sorted") [.ref l] kw) Q E s := by
  have hsz : ((s.heap.push (seqObj "list" #[] 0)).update s.heap.objs.size (Obj.mapSeq (· ++ vs.toArray))).objs.size = s.heap.objs.size + 1 := by rw [Heap.size_update, size_push']
  refine call_function_entry_kw kind_sorted plain_sorted entry_sorted a1 ?_
  unfold Builtin.«sorted»
  refine wpAny_bind (m := checkCount "sorted" 1 1 _) (wpAny_pure (wpAny_bind (take_tup hl hL (wpAny_bind (wpAny_newList ?_ hL)))))
  show wpAny _ _ _ _ _ { s with heap := W.copyHeap s.heap vs }
  rw [hsz]
  refine wpAny_bind (wpAny_holding (wpAny_call_entry_kw slot_list_sort ⟨_, W.copyHeap_at s.heap vs, rfl⟩ entry_list_sort ?_ (a2 _)))
  show wpAny (model prog w) A.in1.in1 (Builtin.«list.sort» ⟨[.ref (s.heap.objs.size + 1)], kw⟩) _ _ _
  refine wpAny_mono (body _) (fun f s' hf => ?_) fun _ _ e => e
  obtain ⟨rfl, hq⟩ := hf
  exact ⟨_, rfl, wpAny_pure ⟨_, rfl, hq⟩⟩
end
/-- sorted, of a list or a tuple, the least first or the greatest -/
def rSortE (K : PySem.W.Frag) (b : Bool) : List V → Hp → VK → Prop := fun vs H Q => ∃ (a : Addr) (xs : List V) (ds : List PyData) (F : Hp), vs = [V.ref a] ∧ (SqT K H a xs ∨ SqL K H a xs) ∧ Same F H ∧ RpA K F xs ds ∧ W.AllAlike ds ∧ SortA ds ∧ ds.length ≤ sizeLine ∧ (∀ d ∈ ds, d.depth ≤ 40) ∧
  ∀ (ys : List V) (p : Addr), H p = none → RpA K F ys (ds.mergeSort (W.dataLe b id)) → Q (.ref p) (upd H p (.lst ys))
section
variable {X : Cx} {G : GH}
theorem sortE_run {b : Bool} {kw : List (Str × Value)} {pins : List (Addr × Obj)} {s : Shared} {σ : L2.St} {H : Hp} {vs : List V} {us : List Value} {Q : VK} (hu : X.A.units + 64 < cLine) (I : L2.Inv X pins σ H s) (r : Vals vs us) (h : rSortE X.K b vs H Q)
    (a1 : ∀ l, argsOk "sorted" ⟨[.ref l], kw⟩) (a2 : ∀ x, argsOk "list.sort" ⟨[.ref x], kw⟩)
    (body : ∀ {κ : PyProof.Rows.KeyKind} {A : Around} {s : Shared} {a : Addr} {vs : List Value} {n : Nat} {P : Fin → Shared → Prop} {E : Value → Shared → Prop}, s.heap.get? a = some (seqObj "list" vs.toArray n) → W.SortsAt X.prog X.w A { s with heap := W.sortingHeap s.heap a vs } κ vs → vs.length ≤ sizeLine →
      P (.done (.ret .none)) { s with heap := sortedHeap s.heap a vs (W.sortVals κ b vs vs).toArray } → wpAny (model X.prog X.w) A (Builtin.«list.sort» ⟨[.ref a], kw⟩) P E s) :
    wpAny (model X.prog X.w) X.A (call (.builtin "sorted") us kw) (EP X pins σ Q) X.xe s := by
  obtain ⟨a, xs, ds, F, rfl, hs, sF, ha, hal, hso, hz, hd, q⟩ := h
  rw [Vals.ref1 r]
  have l2 : ds.length = xs.length := ha.length.symm
  have em : (ds.zip xs).map Prod.fst = ds := by rw [List.map_fst_zip]; omega
  have main : ∀ (its : List Value), Vals xs its →
      (∀ {Q' : Value → Shared → Prop}, (∀ E' : Value → Shared → Prop, wpAny (model X.prog X.w) X.A.in1.in1 (Builtin.«list.sort» ⟨[.ref (s.heap.objs.size + 1)], kw⟩) (fun f s' => f = .done (.ret .none) ∧ Q' (.ref (s.heap.objs.size + 1)) s') E' { s with heap := W.copyHeap s.heap its }) →
        wpAny (model X.prog X.w) X.A (call (.builtin "sorted") [.ref a] kw) Q' X.xe s) → wpAny (model X.prog X.w) X.A (call (.builtin "sorted") [.ref a] kw) (EP X pins σ Q) X.xe s := by
    intro its rv start
    have l1 : its.length = xs.length := rv.length.symm
    have er : W.EachIs (fun v b => ∃ as, Reads s.heap v (Prod.fst b) as) its (ds.zip xs) := each_zip l1 l2 fun j u d x e1 e2 e3 => by
      obtain ⟨as, h, _⟩ := Rp.reads I ((rpa_get ha e3 e2).mono sF) (vals_get rv e3 e1)
      exact ⟨as, h⟩
    have er' : W.EachIs (fun v b => ∃ as, Reads (W.sortingHeap (W.copyHeap s.heap its) (s.heap.objs.size + 1) its) v (Prod.fst b) as) its (ds.zip xs) := er.mono fun _ _ ⟨as, r⟩ => ⟨as, PyProof.Rows.Reads.keeps (fun _ _ => W.sorting_copy_old) r⟩
    have hal' : W.AllAlike ((ds.zip xs).map Prod.fst) := by rw [em]; exact hal
    have hu2 : ∀ b, b ∈ ds.zip xs → X.A.units + 2 + (Prod.fst b).depth < cLine := fun b hb => by
      have := hd b.1 (List.of_mem_zip hb).1
      omega
    refine start fun E' => body (W.copyHeap_at s.heap its) (sorts_any (s := { s with heap := W.sortingHeap (W.copyHeap s.heap its) (s.heap.objs.size + 1) its }) (W.each_map (R := fun v d => ∃ as, Reads (W.sortingHeap (W.copyHeap s.heap its) (s.heap.objs.size + 1) its) v d as) Prod.fst er') hal' (by rw [em]; exact hso) (W.bound_map hu2)) (by omega) ⟨rfl, ?_⟩
    have he := W.sortVals_data (R := fun u b => L2.RelV b.2 u ∧ Rp X.K F b.2 b.1) b (each_zip l1 l2 fun j u d x e1 e2 e3 => ⟨vals_get rv e3 e1, rpa_get ha e3 e2⟩) er' hal'
    have ek : ((ds.zip xs).mergeSort (W.dataLe b Prod.fst)).map (·.1) = ds.mergeSort (W.dataLe b id) := by
      have := List.map_mergeSort (r := W.dataLe b (Prod.fst : PyData × V → PyData)) (s := W.dataLe b id) (f := Prod.fst) (l := ds.zip xs) (fun _ _ _ _ => rfl)
      rw [em] at this
      exact this
    obtain ⟨v1, v2⟩ := each_vals he
    rw [ek] at v2
    obtain ⟨c, hg⟩ := sortedAll_at s.heap its (W.sortVals (W.dataKind (W.sortingHeap (W.copyHeap s.heap its) (s.heap.objs.size + 1) its) ((ds.zip xs).map Prod.fst)) b its its).toArray
    have oD : ObjOk X.prog X.w (upd H (s.heap.objs.size + 1) (.lst (((ds.zip xs).mergeSort (W.dataLe b Prod.fst)).map (·.2)))) (sortedAll s.heap its (W.sortVals (W.dataKind (W.sortingHeap (W.copyHeap s.heap its) (s.heap.objs.size + 1) its) ((ds.zip xs).map Prod.fst)) b its its).toArray) (s.heap.objs.size + 1) (.lst (((ds.zip xs).mergeSort (W.dataLe b Prod.fst)).map (·.2))) := by
      refine ⟨?_, _, c, v1, hg⟩
      rw [List.length_map, List.length_mergeSort, List.length_zip]
      omega
    have hD : s.heap.get? (s.heap.objs.size + 1) = none := by
      cases e : s.heap.get? (s.heap.objs.size + 1) with
      | none => rfl
      | some o => exact absurd (Heap.lt_size e) (Nat.not_lt.mpr (Nat.le_succ _))
    obtain ⟨hn, I2⟩ := inv_new1 (t' := s.toks) I (fun b u e => sortedAll_old e) hD oD
    exact ⟨.ref (s.heap.objs.size + 1), _, I2, rfl, q _ _ hn v2⟩
  rcases hs with hs | hs
  · obtain ⟨its, rv, hl, hz2⟩ := I.tuple hs
    exact main its rv fun k => sort_of_tup hl (by rw [← rv.length]; exact hz2) (a1 _) a2 k
  · obtain ⟨its, rv, hl, hz2⟩ := I.list hs
    exact main its rv fun k => W.sorted_of_sort hl.isList (by rw [← rv.length]; exact hz2) (a1 _) a2 k
theorem cr_sortE (hu : X.A.units + 64 < cLine) : CallR X (.builtin "sorted") (rSortE X.K false) := by
  rintro pins s σ H vs us Q I r h
  exact sortE_run hu I r h (fun _ => args_sorted1 _) (fun _ => args_list_sort _) fun ho S hL k => W.list_sort_vals ho S hL k
theorem cr_sortER (hu : X.A.units + 64 < cLine) : CallRK X (.builtin "sorted") [Str.ofString "reverse"] (fun vs zs H Q => zs = [.bl true] ∧ rSortE X.K true vs H Q) := by
  rintro pins s σ H vs zs us ws Q I r rz ⟨rfl, h⟩
  obtain ⟨w1, rfl, e1⟩ := vals1 rz
  obtain rfl : w1 = Value.bool true := e1
  exact sortE_run hu I r h (fun _ => args_sorted_rev _ _) (fun _ => args_list_sort_rev _ _) fun ho S hL k => W.list_sort_rev_vals ho S hL k
def sortEs (b : Bool) (ds : List PyData) (q : PyData → Prop) : Prop := W.AllAlike ds ∧ SortA ds ∧ ds.length ≤ sizeLine ∧ (∀ d ∈ ds, d.depth ≤ 40) ∧ q (.list (ds.mergeSort (W.dataLe b id)))
def sortEW (b : Bool) : PyData → (PyData → Prop) → Prop
  | .list ds, q => sortEs b ds q
  | .tuple ds, q => sortEs b ds q
  | _, _ => False
theorem sortE_of {b : Bool} {F R : Hp} {M : Ms} {H : Hp} {v : V} {l : L} {x : PyData} {q : DQ} {Q : VK} (A : Abs X.K F R M H) (r : LR X.K F v l) (e : rd M l = some x) (h : sortEW b x fun z => q (.d z) M) (c : Cont X.K F R q Q) : rSortE X.K b [v] H Q := by
  cases x with
  | list ds =>
    obtain ⟨h1, h2, h3, h4, h⟩ := h
    obtain ⟨p, vs, rfl, s, r2⟩ := rd_list A r e
    exact ⟨p, vs, ds, F, rfl, .inr s.l, A.fz, r2, h1, h2, h3, h4, fun ys b hb rs => c.lst A hb rs h⟩
  | tuple ds =>
    obtain ⟨h1, h2, h3, h4, h⟩ := h
    obtain ⟨p, vs, rfl, s, r2⟩ := rd_tuple A r e
    exact ⟨p, vs, ds, F, rfl, .inl s, A.fz, r2, h1, h2, h3, h4, fun ys b hb rs => c.lst A hb rs h⟩
  | _ => exact h.elim
theorem cd_sortE : CallD X.K (rSortE X.K false) (d1 (sortEW false)) := by
  rintro F R M H xs ls q Q A rr ⟨a, x, rfl, e, h⟩ c
  obtain ⟨v, rfl, r⟩ := lrs1 rr
  exact sortE_of A r e h c
/-- sorted(x, reverse=True) -/
theorem px_sortR {x : Str} {p pos kpos : Pos} {e kv : Expr} {ds : DA} (hx : x = "sorted") (hu : X.A.units + 64 < cLine) (hm : X.mg x = none) (hv : bootBuiltins x = some (.builtin "sorted")) (ha : PXA X G [e] ds) (hk : PX X G kv (dC (.bool true))) (hg : Gl X x := by rfl)
    (he : backTo pos (starEach [e] X.env) = (false, eval e X.env) :: backTo pos (starEach [] X.env) := by rfl) (hpl : (backTo pos (starEach [e] X.env)).any (·.1) = false := by rfl)
    (hall : (backToKw pos (keywordEach [⟨some "reverse", kv, kpos⟩] X.env)).all (·.1.isSome) = true := by rfl) (hnone : (backToKw pos (keywordEach [⟨some "reverse", kv, kpos⟩] X.env)).any (·.1.isNone) = false := by rfl) (hks : (backToKw pos (keywordEach [⟨some "reverse", kv, kpos⟩] X.env)).filterMap (·.1) = [Str.ofString "reverse"] := by rfl)
    (hn : x ≠ "__name__" := by decide) (hdb : (x == ("__debug__" : Str)) = false := by decide) :
    PX X G (.Call (.Name x p) [e] [⟨some "reverse", kv, kpos⟩] pos) (dCB (d1 (sortEW true)) ds) := by
  refine pe_imp (pe_callBK (cr_sortER hu) hg hm hv ha (pxk_cons (nm := some "reverse") (kpos := kpos) hk pxk_nil) hn hdb he hpl hall hnone hks) ?_
  rintro σ H Q ⟨F, R, η, M, q, hG, A, E, h, c⟩
  refine la_bind hG A E h fun ls M1 vs H1 F1 g1 s1 A1 E1 r1 h1 => ?_
  refine la_bind g1 A1 E1 (q := fun zs M2 => zs = [.d (.bool true)] ∧ M2 = M1) ⟨rfl, rfl⟩ fun zs M2 ws H2 F2 g2 s2 A2 E2 r2 h2 => ?_
  obtain ⟨rfl, rfl⟩ := h2
  obtain ⟨v, rfl, rv⟩ := lrs1 r2
  cases rv
  obtain ⟨a, x, rfl, e, h1⟩ := h1
  obtain ⟨v, rfl, r⟩ := lrs1 r1
  exact ⟨rfl, sortE_of A2 (r.mono s2) e h1 (c.mono (s1.trans s2))⟩
end
end DL
end
section
/-! whether something is empty, as a test -/
namespace DL
open PySem PySem.Spec PyProof.Rows L2
/-- the truth of data -/
def truW : PyData → (Bool → Prop) → Prop
  | .none, q => q false
  | .bool b, q => q b
  | .int i, q => q (i != 0)
  | .str z, q => z.length ≤ sizeLine ∧ q ((z.length : Int) != 0)
  | .list xs, q => q (!xs.isEmpty)
  | .tuple xs, q => q (!xs.isEmpty)
  | _, _ => False
def dTru (da : DE) : DT := fun η M q => da η M fun l M1 => ∃ x, rd M1 l = some x ∧ truW x fun c => q c M1
section
variable {X : Cx} {G : GH} {a : Expr} {da : DE}
theorem rpa_empty {K : PySem.W.Frag} {F : Hp} {vs : List V} {ds : List PyData} (h : RpA K F vs ds) : vs.isEmpty = ds.isEmpty := by
  cases h <;> rfl
theorem pxt_tru (ha : PX X G a da) (he : ∀ whole, isTrue a X.env whole = (do let v ← whole; standAt a.pos; holding [v] (truthy v)) := by intro _; rfl) : PXT X G a (dTru da) := by
  refine pt_imp (pt_truth ha he) fun σ H Q h => ?_
  obtain ⟨F, R, η, M, q, hG, A, E, h, c⟩ := h
  refine le_bind hG A E h fun l M1 v H1 F1 g1 s1 A1 E1 r1 h1 => ?_
  obtain ⟨x, e, h1⟩ := h1
  cases x with
  | list ds =>
    obtain ⟨p, vs, rfl, s, r2⟩ := rd_list A1 r1 e
    refine ⟨_, .inl ⟨vs, s.l, rfl⟩, ?_⟩
    rw [rpa_empty r2]
    exact c _ M1 H1 F1 s1 A1 h1
  | tuple ds =>
    obtain ⟨p, vs, rfl, s, r2⟩ := rd_tuple A1 r1 e
    refine ⟨_, .inr (.inl ⟨vs, s, rfl⟩), ?_⟩
    rw [rpa_empty r2]
    exact c _ M1 H1 F1 s1 A1 h1
  | dict ds => exact h1.elim
  | none =>
    have rp := rd_rep A1 r1 e
    cases rp
    exact ⟨_, rfl, c _ M1 H1 F1 s1 A1 h1⟩
  | bool b =>
    have rp := rd_rep A1 r1 e
    cases rp
    exact ⟨_, rfl, c _ M1 H1 F1 s1 A1 h1⟩
  | int i =>
    have rp := rd_rep A1 r1 e
    cases rp
    exact ⟨_, rfl, c _ M1 H1 F1 s1 A1 h1⟩
  | str z =>
    have rp := rd_rep A1 r1 e
    cases rp
    exact ⟨_, ⟨h1.1, rfl⟩, c _ M1 H1 F1 s1 A1 h1.2⟩
end
end DL
end
section

end
section
/-! products of large ints -/
namespace DL
open PySem PySem.Spec PyProof.Rows L2
def mulB : PyData → PyData → (PyData → Prop) → Prop
  | .int i, .int j, q => (i.natAbs < 2 ^ 2000 ∧ j.natAbs < 2 ^ 2000) ∧ q (.int (i * j))
  | _, _, _ => False
section
variable {X : Cx} {G : GH} {a b : Expr} {da db : DE} {pos : Pos}
theorem mulB_ok {i j : Int} (h : i.natAbs < 2 ^ 2000 ∧ j.natAbs < 2 ^ 2000) : IntMulOk i j :=
  .of_bits (Nat.le_trans (intBits_le h.1) (by decide)) (Nat.le_trans (intBits_le h.2) (by decide))
theorem op_mulBig : OpR X (binaryOp .Mult) (rI (fun i j => i.natAbs < 2 ^ 2000 ∧ j.natAbs < 2 ^ 2000) fun i j => .int (i * j)) := opI fun _ _ _ _ _ _ _ hc q => mul_int q (mulB_ok hc)
theorem opx_mulB : OpR X (binaryOp .Mult) (rW X.K mulB) := by
  rintro pins s σ H x y v u Q I rx ry ⟨F, R, M, a, b, q, A, ra, rb, ⟨da, db, ea, eb, h⟩, c⟩
  match da, db, ea, eb, h with
  | .int i, .int j, ea, eb, h => exact op_mulBig pins s σ H _ _ v u Q I rx ry ⟨i, j, rd_int ra ea, rd_int rb eb, h.1, c.plain A (.int _) h.2⟩
theorem px_mulB (ha : PX X G a da) (hb : PX X G b db) : PX X G (.BinOp a .Mult b pos) (dOp (dBin mulB) da db) := px_bin opx_mulB (opD_of _) ha hb
end
end DL
end
section
/-! // by divisors below 2^2000 -/
namespace DL
open PySem PySem.Spec PyProof.Rows L2
def fdivB : PyData → PyData → (PyData → Prop) → Prop
  | .int i, .int j, q => (0 < j ∧ j.natAbs < 2 ^ 2000) ∧ q (.int (i / j))
  | _, _, _ => False
section
variable {X : Cx} {G : GH} {a b : Expr} {da db : DE} {pos : Pos}
theorem opx_fdivB : OpR X (binaryOp .FloorDiv) (rW X.K fdivB) := by
  rintro pins s σ H x y v u Q I rx ry ⟨F, R, M, a, b, q, A, ra, rb, ⟨da, db, ea, eb, h⟩, c⟩
  match da, db, ea, eb, h with
  | .int i, .int j, ea, eb, h =>
    refine op_fdivW pins s σ H _ _ v u Q I rx ry ⟨i, j, rd_int ra ea, rd_int rb eb, ⟨h.1.1, ?_⟩, c.plain A (.int _) h.2⟩
    have ne : j.natAbs ≠ 0 := by have := h.1.1; omega
    exact (Nat.log2_lt ne).mpr (Nat.lt_of_lt_of_le h.1.2 (Nat.pow_le_pow_right (by decide) (by decide)))
theorem px_fdivB (ha : PX X G a da) (hb : PX X G b db) : PX X G (.BinOp a .FloorDiv b pos) (dOp (dBin fdivB) da db) := px_bin opx_fdivB (opD_of _) ha hb
end
end DL
end
section
/-! >= of data of one kind -/
namespace DL
open PySem PySem.Spec PyProof.Rows L2
def geT (x y : PyData) (q : PyData → Prop) : Prop := W.alike x y = true ∧ x ≠ .none ∧ min x.depth y.depth < 60 ∧ q (.bool (!W.dataLt x y))
section
variable {X : Cx} {G : GH} {a b : Expr} {da db : DE} {pos : Pos}
theorem opx_geT (hu : X.A.units + 64 < cLine) : OpR X (compareOp .GtE) (rW X.K geT) := by
  rintro pins s σ H x y v u Q I rx ry ⟨F, R, M, a, b, q, A, ra, rb, ⟨da, db, ea, eb, h1, h2, h3, h⟩, c⟩
  obtain ⟨as, q1, _⟩ := Rp.reads I (rd_rep A ra ea) rx
  obtain ⟨bs, q2, _⟩ := Rp.reads I (rd_rep A rb eb) ry
  exact W.ge_data q1 q2 h1 h2 (by omega) ⟨.bl _, H, I, rfl, c.plain A (.bl _) h⟩
theorem x_geT {k : Nat} (hr : RoomG k X.A) (ha : PX X G a da) (hb : PX X G b db) : PX X G (.Compare a [.GtE] [b] pos) (dOp (dBin geT) da db) := px_cmp (opx_geT hr.rm.units) (opD_of _) ha hb
theorem t_geT {k : Nat} (hr : RoomG k X.A) (ha : PX X G a da) (hb : PX X G b db) : PXT X G (.Compare a [.GtE] [b] pos) (dTst (dOp (dBin geT) da db)) := pxt_cmp (opx_geT hr.rm.units) ha hb
end
end DL
end
section
set_option maxHeartbeats 3200000
/-! sorted(set(x)) of fewer than 64 pairs of whole numbers below 64 -/
namespace L2
open PySem PySem.Spec PyProof.Rows
section
variable {P : Program} {w : World} {A : Around} {E : Value → Shared → Prop} {s : Shared}
/-- the set as it is made -/
def bareSet (w : World) : Obj := { cls := .type "set", dict := none, data := .set #[] 0 (.fresh 0 0 (!w.params.followText "set-order")) }
/-- what has come of filling it -/
def Filled (P : Program) (w : World) (s : Shared) (ks : List (Addr × List Int)) (s' : Shared) : Prop := ∃ h' tk L es ep t, s' = { s with heap := h', toks := tk } ∧ SetTR P w h' s.heap.objs.size L es ep t ∧ Got ks ks.length L ∧ ∀ b o, s.heap.get? b = some o → h'.get? b = some o
/-- set(x), x a tuple of tuples of ints -/
theorem set_of_tup {l : Addr} {items : Array Value} (ks : List (Addr × List Int)) {Q : Value → Shared → Prop} (hh : A.handled = none) (hl : s.heap.IsTuple l items) (hit : items.toList = ks.map fun p => Value.ref p.1)
    (hk : ∀ p ∈ ks, IsT P w s.heap p.2 p.1) (hfew : ks.length < 64) (hu : A.units + 3 < cLine) (hq : ∀ s', Filled P w s ks s' → Q (.ref s.heap.objs.size) s') : wpAny (model P w) A (call (.type "set") [.ref l]) Q E s := by
  have len : items.size = ks.length := by
    have q := congrArg List.length hit
    simpa using q
  obtain ⟨mroHead, mroTail, mroIs⟩ := F.called_set.mro
  have made := F.called_set.made
  have sub := F.called_set.sub
  have notType := F.called_set.notType
  have canCreate := F.called_set.canCreate
  have typeCall := F.typeCall_set_1 (.ref l)
  have initFound := F.called_set.init.lookup
  refine wpAny_call (codeAny_of_tree (wpAny_pure ⟨Code.quiet_builtin _ (by decide +kernel), codeAny_builtin F.entry_type_call ?_⟩))
  rw [Around.under_plain (weight_type_call_type "set" [.ref l] []) rfl]
  repeat (any_goals (first | assumption | wp_step))
  refine codeAny_mono (code_set_led1 (.ref l) (E := E) (Q₁ := fun obj s₁ => obj = .ref s.heap.objs.size ∧ s₁ = { s with heap := s.heap.push (bareSet w) }) ⟨rfl, rfl⟩) fun r s₁ hr => ?_
  match r, hr with
  | .error _, hr => exact hr
  | .ok (.ret obj), hr =>
    obtain ⟨rfl, rfl⟩ := hr
    have atS : (s.heap.push (bareSet w)).get? s.heap.objs.size = some (bareSet w) := Heap.get?_push_size _ rfl
    have isSet : Shared.TypeIs { s with heap := s.heap.push (bareSet w) } (.ref s.heap.objs.size) "set" := ⟨_, atS, rfl⟩
    have initBound := F.called_set.init.bind (.ref s.heap.objs.size)
    repeat (any_goals (first | assumption | wp_step))
    refine codeAny_mono (codeAny_call_builtin (R := wants (fun r s₂ => r = .none ∧ Filled P w s ks s₂) E) F.called_set.init.plain F.entry_set_init (check_set_init_1 isSet ?_)) fun r₂ s₂ hr₂ => ?_
    · have bare := s.heap.size_push (bareSet w)
      have old : ∀ b, s.heap.objs.size ≤ b → s.heap.get? b = none := fun b hb => Option.eq_none_iff_forall_not_mem.mpr fun o ho => absurd (Nat.lt_of_lt_of_le (Heap.lt_size ho) hb) (Nat.lt_irrefl _)
      have tup1 : (s.heap.push (bareSet w)).IsTuple l items := by
        obtain ⟨o, ho, hc, n, hd⟩ := hl
        exact ⟨o, Heap.get?_push_of_some _ ho, hc, n, hd⟩
      have below : l < s.heap.objs.size := by
        obtain ⟨o, ho, _⟩ := hl
        exact Heap.lt_size ho
      obtain ⟨⟨oc, od, ov, os⟩, ho, hc, nt, hd⟩ := id tup1
      simp only at hc hd
      subst hc hd
      have subSet := F.sub_tuple_set
      have subFrozen := F.sub_tuple_frozenset
      have noDict : (Value.type "tuple" == Value.type "dict") = false := by decide
      unfold Builtin.«set.__init__» noKeywords Builtin.Frozenset.updateFrom
      generalize hPI : pyIter = PI
      wp_walk
      subst hPI
      refine wpAny_pyIter_tuple tup1 (wpAny_bind (wpAny_runValue ?_))
      have quiet3 : A.in1.in1.in1.handled = none := by simp [hh]
      have lne : l ≠ (s.heap.push (bareSet w)).objs.size := by
        rw [bare]
        exact Nat.ne_of_lt (Nat.lt_succ_of_lt below)
      have away : s.heap.objs.size ∉ [(s.heap.push (bareSet w)).objs.size, l] := by
        rw [bare]
        simp only [List.mem_cons, List.not_mem_nil, or_false, not_or]
        exact ⟨Nat.ne_of_lt (Nat.lt_succ_self _), Nat.ne_of_gt below⟩
      refine set_update_tups ((Walks.tuple quiet3 _ l lne items).toS) s.heap.objs.size away ks len hfew (fun i v hv => ?_) s.heap hk (old _ (Nat.le_refl _)) (fun b hb => old b (by
        rw [List.mem_singleton.mp hb, bare]
        exact Nat.le_succ _)) hu (items.size - 0) 0 _ (by omega) (Nat.zero_le _) ⟨⟨_, Heap.get?_push_size _ rfl, rfl, rfl⟩, tup1.push _⟩ (fun b o e => Heap.get?_push_of_some _ (Heap.get?_push_of_some _ e)) ⟨[], #[], 0, _, setTR_fresh (Heap.get?_push_of_some _ atS), Got.zero ks⟩ ?_
      · have e : (ks.map fun p => Value.ref p.1)[i]? = some v := by
          rw [← hit, Array.getElem?_toList]
          exact hv
        rw [List.getElem?_map] at e
        obtain ⟨p, h1, h2⟩ := Option.map_eq_some_iff.mp e
        exact ⟨p, h1, h2.symm⟩
      · rintro ⟨h', g', d', tk', o'⟩ L es ep t moved R got kept
        cases (show g' = s.gens from moved.gens)
        cases (show d' = s.drawn from moved.drawn)
        cases (show o' = s.os from moved.os)
        refine wpAny_pure ?_
        rw [len] at got
        exact wpAny_pure ⟨rfl, h', tk', L, es, ep, t, rfl, R, got, kept⟩
    · match r₂, hr₂ with
      | .error _, hr₂ => exact hr₂
      | .ok (.ret _), hr₂ =>
        obtain ⟨rfl, f⟩ := hr₂
        repeat (any_goals (first | assumption | wp_step))
        exact hq _ f
end
section
variable {X : Cx}
/-- set(x), x a list or a tuple of tuples of ints -/
def rSetTT (K : PySem.W.Frag) (P : Program) (w : World) : List V → Hp → VK → Prop := fun xs H Q => ∃ (l : Addr) (ks : List (Addr × List Int)), xs = [V.ref l] ∧ (SqL K H l (ks.map fun p => V.ref p.1) ∨ SqT K H l (ks.map fun p => V.ref p.1)) ∧ (∀ p ∈ ks, SqT K H p.1 (p.2.map V.int)) ∧ ks.length < 64 ∧
  ∀ a L, H a = none → (∀ p ∈ L, p ∈ ks) → (∀ p ∈ ks, p.2 ∈ L.map (·.2)) → Q (.ref a) (upd H a (SetTO P w a L))
theorem cr_setTT (hc : X.calm = true) (hu : X.A.units + 64 < cLine) : CallR X (.type "set") (rSetTT X.K X.prog X.w) := by
  rintro pins s σ H xs us Q I r ⟨l, ks, rfl, hl, hk, hf, q⟩
  rcases hl with hl | hl
  · exact cr_setOfT hc hu pins s σ H _ us Q I r ⟨l, ks, rfl, hl, hk, hf, q⟩
  · rw [Vals.ref1 r]
    obtain ⟨its, rv, pl, _⟩ := I.tuple hl
    have hn : H s.heap.objs.size = none := I.hok.fresh (Nat.le_refl _)
    refine set_of_tup (P := X.prog) (w := X.w) ks (I.ok.hd hc) pl (by simpa using refs_of_vals rv) (fun p hp => I.isT (hk p hp)) hf (by omega) ?_
    rintro s' ⟨h', tk, L, es, ep, t, rfl, R, g, k⟩
    refine ⟨.ref s.heap.objs.size, upd H s.heap.objs.size (SetTO X.prog X.w s.heap.objs.size L), I.laid (t' := tk) k (Nat.le_refl _) (setTO_new R.t0), rfl, q _ L hn (fun p hp => List.mem_of_mem_take (g.sub p hp)) fun p hp => g.all p (by rw [List.take_length]; exact hp)⟩
end
end L2
namespace DL
open PySem PySem.Spec PyProof.Rows L2
def tpI (ns : List Int) : PyData := .tuple (ns.map .int)
def setTs (d : Nat) (B : Int) (xs : List PyData) (q : PyData → Prop) : Prop := ∃ rs : List (List Int), xs = rs.map tpI ∧ rs.length < 64 ∧ (∀ r ∈ rs, r.length = d ∧ TS.Bd B r) ∧ ∀ rs' : List (List Int), rs'.Nodup → (∀ r, r ∈ rs' ↔ r ∈ rs) → rs'.Pairwise (fun x y => TS.code B x ≤ TS.code B y) → q (.list (rs'.map tpI))
/-- sorted(set(x)), x a list or tuple of tuples of d ints -/
def sortSetT (d : Nat) (B : Int) : PyData → (PyData → Prop) → Prop
  | .list xs, q => setTs d B xs q
  | .tuple xs, q => setTs d B xs q
  | _, _ => False
theorem keyed {K : PySem.W.Frag} {F : Hp} : ∀ {vs : List V} {rs : List (List Int)}, RpA K F vs (rs.map tpI) → ∃ ks : List (Addr × List Int), vs = ks.map (fun p => V.ref p.1) ∧ rs = ks.map (·.2) ∧ ∀ p ∈ ks, Rp K F (.ref p.1) (tpI p.2)
  | [], rs, h => by
    cases rs with
    | nil => exact ⟨[], rfl, rfl, fun p hp => by cases hp⟩
    | cons r rs => cases h
  | v :: vs, rs, h => by
    cases rs with
    | nil => cases h
    | cons r rs =>
      cases h with
      | cons r1 t =>
        obtain ⟨ks, rfl, rfl, hk⟩ := keyed t
        obtain ⟨a, rfl, _⟩ := tupI_of r1
        refine ⟨(a, r) :: ks, rfl, rfl, fun p hp => ?_⟩
        rcases List.mem_cons.mp hp with rfl | hp
        · exact r1
        · exact hk p hp
theorem rpa_keyed {K : PySem.W.Frag} {F : Hp} : ∀ {L : List (Addr × List Int)}, (∀ p ∈ L, Rp K F (.ref p.1) (tpI p.2)) → RpA K F (L.map fun q => V.ref q.1) ((L.map (·.2)).map tpI)
  | [], _ => .nil
  | p :: L, h => .cons (h p List.mem_cons_self) (rpa_keyed fun q hq => h q (List.mem_cons_of_mem _ hq))
section
variable {X : Cx} {G : GH} {e : Expr} {es : List Expr} {ds : DA} {p p2 p3 pos : Pos}
theorem px_sortSetT {d : Nat} {B : Int} (hd : 1 ≤ d) (hc : X.calm = true) (hu : X.A.units + 64 < cLine) (hm : X.mg "sorted" = none) (hm2 : X.mg "set" = none) (ha : PXA X G (e :: es) ds) (hg : Gl X "sorted" := by rfl) (hg2 : Gl X "set" := by rfl)
    (he : starEach (e :: es) X.env = (false, eval e X.env) :: starEach es X.env := by rfl) (hpl : (backTo p3 (starEach es X.env)).any (·.1) = false := by rfl)
    (he2 : starEach [.Call (.Name "set" p2) (e :: es) [] p3] X.env = (false, eval (.Call (.Name "set" p2) (e :: es) [] p3) X.env) :: starEach [] X.env := by rfl) (hpl2 : (backTo pos (starEach [] X.env)).any (·.1) = false := by rfl) :
    PX X G (.Call (.Name "sorted" p) [.Call (.Name "set" p2) (e :: es) [] p3] [] pos) (dCB (d1 (sortSetT d B)) ds) := by
  refine pe_imp (pe_callB (cr_sortedT hc) hg hm boot_sorted (pa_cons (pe_callTy (cr_setTT hc hu) hg2 hm2 boot_set ha (by decide) (by decide) he hpl) pa_nil he2) (by decide) (by decide) he2 hpl2) ?_
  rintro σ H Q ⟨F, R, η, M, q, hG, A, E, h, c⟩
  refine la_bind hG A E h fun ls M1 vs H1 F1 g1 s1 A1 E1 r1 h1 => ?_
  obtain ⟨a, x, rfl, e, h⟩ := h1
  obtain ⟨v, rfl, r⟩ := lrs1 r1
  have fin : ∀ (l : Addr) (vs : List V) (xs : List PyData), v = .ref l → (SqL X.K H1 l vs ∨ SqT X.K H1 l vs) → RpA X.K F1 vs xs → setTs d B xs (fun z => q (.d z) M1) → rSetTT X.K X.prog X.w [v] H1 fun v H2 => rSortedT X.K X.prog X.w [v] H2 Q := by
    rintro l vs xs rfl hs r2 ⟨rs, rfl, hz, hb, hq⟩
    obtain ⟨ks, rfl, rfl, hk⟩ := keyed r2
    refine ⟨l, ks, rfl, hs, fun p hp => ?_, by simpa using hz, fun a L ha h1 h2 => ?_⟩
    · obtain ⟨t, et, st⟩ := tupI_of ((hk p hp).mono A1.fz)
      cases et
      exact st
    have s2 := same_new (o := SetTO X.prog X.w a L) (A1.freeF ha)
    have A2 := A1.frz (o := SetTO X.prog X.w a L) ha
    refine ⟨a, L, d, B, rfl, upd_same, fun p hp => ?_, hd, fun p hp => hb _ (List.mem_map.mpr ⟨p, h1 p hp, rfl⟩), fun L' b pm nd _ pw hb2 => ?_⟩
    · obtain ⟨t, et, st⟩ := tupI_of (((hk p (h1 p hp)).mono s2).mono A2.fz)
      cases et
      exact st
    refine (c.mono (s1.trans s2)).lst A2 hb2 (rpa_keyed fun p hp => (hk p (h1 p (pm.mem_iff.mp hp))).mono s2) (hq _ nd (fun r => ?_) ?_)
    · rw [List.mem_map, List.mem_map]
      constructor
      · rintro ⟨p, hp, rfl⟩
        exact ⟨p, h1 p (pm.mem_iff.mp hp), rfl⟩
      · rintro ⟨p, hp, rfl⟩
        obtain ⟨p', hp', e'⟩ := List.mem_map.mp (h2 p hp)
        exact ⟨p', pm.mem_iff.mpr hp', e'⟩
    · rw [List.pairwise_map]
      exact pw
  cases x with
  | list xs =>
    obtain ⟨p, vs, rfl, s, r2⟩ := rd_list A1 r e
    exact fin p vs xs rfl (.inl s.l) r2 h
  | tuple xs =>
    obtain ⟨p, vs, rfl, s, r2⟩ := rd_tuple A1 r e
    exact fin p vs xs rfl (.inr s) r2 h
  | _ => exact h.elim
end
end DL
end
section
set_option maxHeartbeats 3200000
/-! sorted(set(x)), x a list or a tuple of fewer than 64 ints -/
namespace L2
open PySem PySem.Spec PyProof.Rows
section
variable {P : Program} {w : World} {A : Around} {E : Value → Shared → Prop} {s : Shared}
/-- what has come of filling it with ints -/
def FilledI (w : World) (s : Shared) (ns : List Int) (s' : Shared) : Prop := ∃ h' tk c, s' = { s with heap := h', toks := tk } ∧ SetR w h' s.heap.objs.size (fun j => decide (j ∈ ns)) c ∧ c ≤ ns.length ∧ ∀ b o, s.heap.get? b = some o → h'.get? b = some o
/-- set(x), x a list of ints -/
theorem set_of_lstI {l : Addr} {items : Array Value} (ns : List Int) {Q : Value → Shared → Prop} (hh : A.handled = none) (hl : s.heap.IsList l items) (hit : IntsAre items.toList ns)
    (hb : ns.length + 1 < scanBound) (hq : ∀ s', FilledI w s ns s' → Q (.ref s.heap.objs.size) s') : wpAny (model P w) A (call (.type "set") [.ref l]) Q E s := by
  have len : items.size = ns.length := by
    have q := IntsAre.length hit
    simpa using q
  obtain ⟨mroHead, mroTail, mroIs⟩ := F.called_set.mro
  have made := F.called_set.made
  have sub := F.called_set.sub
  have notType := F.called_set.notType
  have canCreate := F.called_set.canCreate
  have typeCall := F.typeCall_set_1 (.ref l)
  have initFound := F.called_set.init.lookup
  refine wpAny_call (codeAny_of_tree (wpAny_pure ⟨Code.quiet_builtin _ (by decide +kernel), codeAny_builtin F.entry_type_call ?_⟩))
  rw [Around.under_plain (weight_type_call_type "set" [.ref l] []) rfl]
  repeat (any_goals (first | assumption | wp_step))
  refine codeAny_mono (code_set_led1 (.ref l) (E := E) (Q₁ := fun obj s₁ => obj = .ref s.heap.objs.size ∧ s₁ = { s with heap := s.heap.push (bareSet w) }) ⟨rfl, rfl⟩) fun r s₁ hr => ?_
  match r, hr with
  | .error _, hr => exact hr
  | .ok (.ret obj), hr =>
    obtain ⟨rfl, rfl⟩ := hr
    have atS : (s.heap.push (bareSet w)).get? s.heap.objs.size = some (bareSet w) := Heap.get?_push_size _ rfl
    have isSet : Shared.TypeIs { s with heap := s.heap.push (bareSet w) } (.ref s.heap.objs.size) "set" := ⟨_, atS, rfl⟩
    have initBound := F.called_set.init.bind (.ref s.heap.objs.size)
    repeat (any_goals (first | assumption | wp_step))
    refine codeAny_mono (codeAny_call_builtin (R := wants (fun r s₂ => r = .none ∧ FilledI w s ns s₂) E) F.called_set.init.plain F.entry_set_init (check_set_init_1 isSet ?_)) fun r₂ s₂ hr₂ => ?_
    · have bare := s.heap.size_push (bareSet w)
      have old : ∀ b, s.heap.objs.size ≤ b → s.heap.get? b = none := fun b hb => Option.eq_none_iff_forall_not_mem.mpr fun o ho => absurd (Nat.lt_of_lt_of_le (Heap.lt_size ho) hb) (Nat.lt_irrefl _)
      have lst1 : (s.heap.push (bareSet w)).IsList l items := by
        obtain ⟨o, ho, hc, n, hd⟩ := hl
        exact ⟨o, Heap.get?_push_of_some _ ho, hc, n, hd⟩
      have below : l < s.heap.objs.size := by
        obtain ⟨o, ho, _⟩ := hl
        exact Heap.lt_size ho
      obtain ⟨⟨oc, od, ov, os⟩, ho, hc, nt, hd⟩ := id lst1
      simp only at hc hd
      subst hc hd
      have subSet := F.sub_list_set
      have subFrozen := F.sub_list_frozenset
      have noDict : (Value.type "list" == Value.type "dict") = false := by decide
      unfold Builtin.«set.__init__» noKeywords Builtin.Frozenset.updateFrom
      generalize hPI : pyIter = PI
      wp_walk
      subst hPI
      refine wpAny_pyIter_list lst1 (wpAny_bind (wpAny_runValue ?_))
      have quiet3 : A.in1.in1.in1.handled = none := by simp [hh]
      have lne : l ≠ (s.heap.push (bareSet w)).objs.size := by
        rw [bare]
        exact Nat.ne_of_lt (Nat.lt_succ_of_lt below)
      have away : s.heap.objs.size ∉ [(s.heap.push (bareSet w)).objs.size, l] := by
        rw [bare]
        simp only [List.mem_cons, List.not_mem_nil, or_false, not_or]
        exact ⟨Nat.ne_of_lt (Nat.lt_succ_self _), Nat.ne_of_gt below⟩
      refine set_update_ints ((Walks.list quiet3 _ l lne items).toS) s.heap.objs.size away ns len hb (fun i v hv => ?_) (items.size - 0) 0 _ (by omega) (Nat.zero_le _) ⟨⟨_, Heap.get?_push_size _ rfl, rfl, rfl⟩, lst1.push _⟩ ⟨0, Nat.le_refl 0, setR_new_at (Heap.get?_push_of_some _ atS)⟩ ?_
      · have hi : i < ns.length := by rw [← len]; exact (Array.getElem?_eq_some_iff.mp hv).1
        obtain ⟨t, e⟩ := PyProof.Rows.IntsAre.int_at hit i v (by rw [Array.getElem?_toList]; exact hv)
        refine ⟨ns[i], t, List.getElem?_eq_getElem hi, ?_⟩
        rw [e, List.getD_eq_getElem?_getD, List.getElem?_eq_getElem hi]
        rfl
      · rintro ⟨h', g', d', tk', o'⟩ c moved hc R
        cases (show g' = s.gens from moved.gens)
        cases (show d' = s.drawn from moved.drawn)
        cases (show o' = s.os from moved.os)
        refine wpAny_pure ?_
        refine wpAny_pure ⟨rfl, h', tk', c, rfl, R, by omega, fun b o e => ?_⟩
        have b0 := Heap.lt_size e
        refine moved.heap b o ?_ (Heap.get?_push_of_some _ (Heap.get?_push_of_some _ e))
        simp only [List.mem_cons, List.not_mem_nil, or_false, not_or]
        exact ⟨Nat.ne_of_lt b0, by rw [bare]; exact Nat.ne_of_lt (Nat.lt_succ_of_lt b0)⟩
    · match r₂, hr₂ with
      | .error _, hr₂ => exact hr₂
      | .ok (.ret _), hr₂ =>
        obtain ⟨rfl, f⟩ := hr₂
        repeat (any_goals (first | assumption | wp_step))
        exact hq _ f
end
end L2
namespace DL
open PySem PySem.Spec PyProof.Rows L2
/-- set(x), to be sorted, x a list or a tuple -/
def rSetU (K : PySem.W.Frag) (w : World) : List V → Hp → VK → Prop := fun xs H Q => ∃ (l : Addr) (ns : List Int), xs = [V.ref l] ∧ (SqL K H l (ns.map V.int) ∨ SqT K H l (ns.map V.int)) ∧ ns.length < 64 ∧ ∀ a c, H a = none → c ≤ ns.length → Q (.ref a) (upd H a (SetO w a (fun j => decide (j ∈ ns)) c))
section
variable {X : Cx}
theorem cr_setU (hc : X.calm = true) : CallR X (.type "set") (rSetU X.K X.w) := by
  rintro pins s σ H vs us Q I r ⟨l, ns, rfl, hs, hz, q⟩
  rcases hs with hs | hs
  · obtain ⟨its, rv, hl, _⟩ := I.list hs
    rw [Vals.ref1 r]
    have hz2 : ns.length + 1 < scanBound := by unfold scanBound; omega
    refine set_of_lstI ns (I.ok.hd hc) hl.isList (by simpa using rv.ints) hz2 ?_
    rintro s' ⟨h', tk, c, rfl, hS, hcl, hk⟩
    refine ⟨.ref s.heap.objs.size, _, inv_news I hk (fun b hb => upd_ne (Nat.ne_of_lt hb)) (fun a o ha e => ?_), rfl, q _ c (I.hok.fresh (Nat.le_refl _)) hcl⟩
    by_cases ea : a = s.heap.objs.size
    · subst ea
      rw [upd_same] at e
      cases e
      exact setO_new hS
    · rw [upd_ne ea, I.hok.fresh ha] at e
      cases e
  · exact cr_setS hc pins s σ H _ us Q I r ⟨l, ns, rfl, hs, hz, q⟩
end
def setIs (ds : List PyData) (q : PyData → Prop) : Prop := ∃ ns, intsD ds = some ns ∧ ns.length < 64 ∧ ∀ ns' : List Int, ns'.Pairwise (· < ·) → (∀ k, k ∈ ns' ↔ k ∈ ns) → q (.list (ns'.map .int))
def sortSetI : PyData → (PyData → Prop) → Prop
  | .tuple ds, q => setIs ds q
  | .list ds, q => setIs ds q
  | _, _ => False
section
variable {X : Cx} {G : GH} {e : Expr} {es : List Expr} {ds : DA} {p p2 p3 pos : Pos}
theorem px_sortSetI (hc : X.calm = true) (hm : X.mg "sorted" = none) (hm2 : X.mg "set" = none) (ha : PXA X G (e :: es) ds) (hg : Gl X "sorted" := by rfl) (hg2 : Gl X "set" := by rfl)
    (he : starEach (e :: es) X.env = (false, eval e X.env) :: starEach es X.env := by rfl) (hpl : (backTo p3 (starEach es X.env)).any (·.1) = false := by rfl)
    (he2 : starEach [.Call (.Name "set" p2) (e :: es) [] p3] X.env = (false, eval (.Call (.Name "set" p2) (e :: es) [] p3) X.env) :: starEach [] X.env := by rfl) (hpl2 : (backTo pos (starEach [] X.env)).any (·.1) = false := by rfl) :
    PX X G (.Call (.Name "sorted" p) [.Call (.Name "set" p2) (e :: es) [] p3] [] pos) (dCB (d1 sortSetI) ds) := by
  refine pe_imp (pe_callB (cr_sortedSet hc) hg hm boot_sorted (pa_cons (pe_callTy (cr_setU hc) hg2 hm2 boot_set ha (by decide) (by decide) he hpl) pa_nil he2) (by decide) (by decide) he2 hpl2) ?_
  rintro σ H Q ⟨F, R, η, M, q, hG, A, E, h, c⟩
  refine la_bind hG A E h fun ls M1 vs H1 F1 g1 s1 A1 E1 r1 h1 => ?_
  obtain ⟨a, x, rfl, e, h⟩ := h1
  obtain ⟨v, rfl, r⟩ := lrs1 r1
  have fin : ∀ (l : Addr) (ns : List Int), v = .ref l → (SqL X.K H1 l (ns.map V.int) ∨ SqT X.K H1 l (ns.map V.int)) → ns.length < 64 → (∀ ns' : List Int, ns'.Pairwise (· < ·) → (∀ k, k ∈ ns' ↔ k ∈ ns) → q (.d (.list (ns'.map .int))) M1) → rSetU X.K X.w [v] H1 fun v H2 => rSortedSet X.w [v] H2 Q := by
    rintro l ns rfl hs hz hq
    refine ⟨l, ns, rfl, hs, hz, fun a n ha hn => ⟨a, _, n, rfl, upd_same, by omega, fun ns' b h1 h2 h3 hb => ?_⟩⟩
    refine (c.mono (s1.trans (same_new (A1.freeF ha)))).lst (A1.frz ha) hb (ds := ns'.map PyData.int) ?_ (hq ns' h1 fun k => by rw [h2 k]; simp)
    clear h1 h2 h3
    induction ns' with
    | nil => exact .nil
    | cons z zs ih => exact .cons (.int z) ih
  cases x with
  | tuple ds =>
    obtain ⟨ns, e1, hz, h⟩ := h
    obtain ⟨p, vs, rfl, s, r2⟩ := rd_tuple A1 r e
    have := intsD_rep e1 r2
    subst this
    exact fin p ns rfl (.inr s) hz h
  | list ds =>
    obtain ⟨ns, e1, hz, h⟩ := h
    obtain ⟨p, vs, rfl, s, r2⟩ := rd_list A1 r e
    have := intsD_rep e1 r2
    subst this
    exact fin p ns rfl (.inl s.l) hz h
  | _ => exact h.elim
end
end DL
end
section
/-! perm(n, k) of the module math -/
namespace DL
open PySem PySem.Spec PyProof.Rows L2
def rPerm : List V → Hp → VK → Prop := fun xs H Q => ∃ n k : Int, xs = [.int n, .int k] ∧ 0 ≤ n ∧ n < 1000 ∧ 0 ≤ k ∧ k < 1000 ∧ Q (.int (W.mcPerm n k)) H
def permW : List L → Ms → DQ → Prop := fun ls M q => ∃ n k : Int, ls = [.d (.int n), .d (.int k)] ∧ 0 ≤ n ∧ n < 1000 ∧ 0 ≤ k ∧ k < 1000 ∧ q (.d (.int (W.mcPerm n k))) M
section
variable {X : Cx} {G : GH} {e : Expr} {es : List Expr} {ds : DA} {p pos : Pos}
theorem cr_perm : CallR X (.builtin "math.perm") rPerm := by
  rintro pins s σ H vs us Q I r ⟨n, k, rfl, n0, n1, k0, k1, q⟩
  cases r with
  | cons r rr =>
    obtain ⟨u, rfl, r'⟩ := Vals.one rr
    obtain ⟨t, rfl⟩ := r
    obtain ⟨t', rfl⟩ := r'
    exact W.mc_perm n0 k0 (by omega) (by omega) fun _ => ⟨.int _, H, I.tok _, ⟨_, rfl⟩, q⟩
theorem cd_perm : CallD X.K rPerm permW := by
  rintro F R M H xs ls q Q A rr ⟨n, k, rfl, n0, n1, k0, k1, h⟩ c
  obtain ⟨v, w, rfl, r1, r2⟩ := lrs2 rr
  cases r1
  cases r2
  exact ⟨n, k, rfl, n0, n1, k0, k1, c.plain A (.int _) h⟩
/-- a function that a module brings -/
theorem px_callM {id : String} {x : Str} {r : List V → Hp → VK → Prop} {dr : List L → Ms → DQ → Prop} (hc : CallR X (.builtin id) r) (o : CallD X.K r dr) (hm : X.mg x = some (.builtin id)) (ha : PXA X G (e :: es) ds) (hg : Gl X x := by rfl)
    (hdb : (x == ("__debug__" : Str)) = false := by decide)
    (he : starEach (e :: es) X.env = (false, eval e X.env) :: starEach es X.env := by rfl) (hpl : (backTo pos (starEach es X.env)).any (·.1) = false := by rfl) : PX X G (.Call (.Name x p) (e :: es) [] pos) (dCB dr ds) := by
  refine pe_imp (t := tCB r (LA X.K G ds)) ⟨fun pins s σ H Q I h => ?_⟩ fun _ _ _ h => le_cb o h
  refine wpAny_Call_Name_kw (ld_glob I hg hm ?_ hdb)
  exact PyProof.Rows.callWith_builtin1 (thn (ha.run pos pins s σ H _ I h) fun us s1 ⟨vs, H1, I1, r1, q1⟩ => hc pins s1 σ H1 vs us Q I1 r1 q1) he hpl
theorem px_perm (hm : X.mg "perm" = some (.builtin "math.perm")) (ha : PXA X G (e :: es) ds) (hg : Gl X "perm" := by rfl)
    (he : starEach (e :: es) X.env = (false, eval e X.env) :: starEach es X.env := by rfl) (hpl : (backTo pos (starEach es X.env)).any (·.1) = false := by rfl) : PX X G (.Call (.Name "perm" p) (e :: es) [] pos) (dCB permW ds) :=
  px_callM cr_perm cd_perm hm ha hg (by decide) he hpl
end
end DL
end
section
set_option maxHeartbeats 2000000
/-! list(it) of an iterator that hands out new tuples and writes more cells than its own -/
namespace ZL
open PySem PySem.Spec PyProof.Rows
open Sem (wp)
open CB (tupO Got)
/-- an iterator that hands out new tuples; fp: the cells that it needs, wr: those that it writes -/
structure SrcW (prog : Program) (w : World) (A : Around) (T : String) (it : Addr) (n : Nat) (V : Nat → List Value) (fp wr : List Addr) (St : Nat → Heap → Prop) : Prop where
  mem : it ∈ wr
  sub : ∀ b ∈ wr, b ∈ fp
  frame : ∀ i h h', St i h → (∀ b o, (b ∈ fp ∨ o.cls ≠ .type "list") → h.get? b = some o → h'.get? b = some o) → St i h'
  there : ∀ i h, St i h → ∀ b ∈ fp, b < h.objs.size
  type : ∀ i (s : Shared), St i s.heap → s.TypeIs (.ref it) T
  notList : (Value.type T == Value.type "list") = false
  notTuple : (Value.type T == Value.type "tuple") = false
  nolen : typeLookup (.type T) "__len__" = pure none
  nohint : typeLookup (.type T) "__length_hint__" = pure none
  self : ∀ i (s : Shared) (B : Around) (Q : Value → Shared → Prop) (E : Value → Shared → Prop), St i s.heap → Q (.ref it) s → wpAny (model prog w) B (pyIter (.ref it)) Q E s
  item : ∀ i (s : Shared) (Q : Option Value → Shared → Prop) (E : Value → Shared → Prop), i < n → St i s.heap →
    (∀ h', St (i + 1) h' → h'.get? s.heap.objs.size = some (tupO (V i)) → (∀ b o, b ∉ wr → s.heap.get? b = some o → h'.get? b = some o) → Q (some (.ref s.heap.objs.size)) { s with heap := h' }) →
    wpAny (model prog w) A (pyNext (.ref it)) Q E s
  done : ∀ (s : Shared) (Q : Option Value → Shared → Prop) (E : Value → Shared → Prop), St n s.heap → (∀ h', (∀ b o, b ∉ wr → s.heap.get? b = some o → h'.get? b = some o) → Q none { s with heap := h' }) → wpAny (model prog w) A (pyNext (.ref it)) Q E s
section
variable {prog : Program} {w : World} {A : Around} {s : Shared} {R : Result → Shared → Prop} {T : String} {n : Nat} {V : Nat → List Value} {fp wr : List Addr} {St : Nat → Heap → Prop}
theorem srcw_loop {S I : Addr} (W : SrcW prog w A.in1 T I n V fp wr St) (hSf : S ∉ fp) (hn : n ≤ sizeLine) (res : Value) {h₁ : Heap} {lo : Addr} (hlS : S ≤ lo) (hlI : ∀ b ∈ wr, b ≤ lo)
    (hR : ∀ h' tk acc c as, (∀ b o, b ≠ S → b ∉ wr → h₁.get? b = some o → h'.get? b = some o) → h'.get? S = some { cls := .type "list", dict := none, data := .seq acc c, slots := #[] } → as.length = n → Got V lo h' as →
      acc.toList = as.map Value.ref → R (.ok (.ret res)) { s with heap := h', toks := tk }) :
    ∀ (k i : Nat) (h : Heap) (tk c : Nat) (acc : Array Value) (as : List Addr), n - i = k → i ≤ n → St i h → (∀ b o, b ≠ S → b ∉ wr → h₁.get? b = some o → h.get? b = some o) →
      h.get? S = some { cls := .type "list", dict := none, data := .seq acc c, slots := #[] } → acc.toList = as.map Value.ref → as.length = i → Got V lo h as → lo < h.objs.size →
      codeAny (model prog w) A (.builtin "list.extend.loop" ⟨[.ref S, .ref I, res], []⟩) R { s with heap := h, toks := tk } := by
  have hne : S ∉ wr := fun z => hSf (W.sub S z)
  have big : ∀ b, lo < b → b ∉ wr := fun b hb z => Nat.lt_irrefl _ (Nat.lt_of_lt_of_le hb (hlI b z))
  intro k
  induction k with
  | zero =>
    intro i h tk c acc as hk hi hst hkeep hS hacc hal hG hIs
    have hin : i = n := by omega
    subst hin
    refine codeAny_builtin PySem.F.entry_extend_loop ?_
    rw [Around.under_plainId PySem.F.plain_extend_loop _]
    show wpAny _ A.in1 (pyNext (.ref I) >>= _) _ _ _
    refine wpAny_bind (W.done { s with heap := h, toks := tk } _ _ hst fun h' he => ?_)
    refine wpAny_pure (hR h' tk acc c as (fun b o h1 h2 e => he b o h2 (hkeep b o h1 h2 e)) (he S _ hne hS) hal ⟨hG.rise, hG.above, fun j a hj => ?_⟩ hacc)
    exact he a _ (big a (hG.above a (List.mem_of_getElem? hj))) (hG.tups j a hj)
  | succ k ih =>
    intro i h tk c acc as hk hi hst hkeep hS hacc hal hG hIs
    have hlt : i < n := by omega
    have hsz : acc.size = i := by rw [← Array.length_toList, hacc, List.length_map, hal]
    refine codeAny_builtin PySem.F.entry_extend_loop ?_
    rw [Around.under_plainId PySem.F.plain_extend_loop _]
    show wpAny _ A.in1 (pyNext (.ref I) >>= _) _ _ _
    refine wpAny_bind (W.item i { s with heap := h, toks := tk } _ _ hlt hst fun h' hst' ht hkp => ?_)
    dsimp only at ht hkp ⊢
    have hS' := hkp S _ hne hS
    have up : ∀ b o, b ≠ S → h'.get? b = some o → (h'.update S (Obj.mapSeq (·.push (Value.ref h.objs.size)))).get? b = some o := fun b o hb e => (Heap.get?_update_other _ _ (Ne.symm hb)).trans e
    have hSl : S < h.objs.size := Heap.lt_size hS
    have away : ∀ b o, (b ∈ fp ∨ o.cls ≠ .type "list") → h'.get? b = some o → b ≠ S := fun b o hb e z => by
      subst z
      rcases hb with hb | hb
      · exact hSf hb
      · rw [hS'] at e
        cases e
        exact hb rfl
    show wpAny _ A.in1 (updateSeq S (·.push (Value.ref h.objs.size)) >>= _) _ _ _
    refine wpAny_bind ?_
    refine wpAny_updateSeq hS' rfl (wpAny_pure ⟨plainId_quiet PySem.F.plain_extend_loop _, ih (i + 1) _ tk _ (acc.push (Value.ref h.objs.size)) (as ++ [h.objs.size]) (by omega) hlt (W.frame _ _ _ hst' fun b o hb e => up b o (away b o hb e) e)
      (fun b o h1 h2 e => up b o h1 (hkp b o h2 (hkeep b o h1 h2 e))) (Heap.get?_update_self _ hS' rfl) (by rw [Array.toList_push, hacc, List.map_append]; rfl) (by rw [List.length_append, hal]; rfl) ⟨?_, ?_, ?_⟩ ?_⟩) (by rw [hsz]; omega) (by show (acc.push (Value.ref h.objs.size)).size ≤ sizeLine + 1; rw [Array.size_push, hsz]; omega)
    · refine List.pairwise_append.mpr ⟨hG.rise, List.pairwise_singleton _ _, fun a ha b hb => ?_⟩
      rw [List.mem_singleton.mp hb]
      exact hG.there ha
    · intro a ha
      rcases List.mem_append.mp ha with ha | ha
      · exact hG.above a ha
      · rw [List.mem_singleton.mp ha]; exact hIs
    · intro j b hj
      rcases Nat.lt_trichotomy j as.length with h1 | h1 | h1
      · rw [List.getElem?_append_left h1] at hj
        have hb := hG.above b (List.mem_of_getElem? hj)
        exact up b _ (Nat.ne_of_gt (Nat.lt_of_le_of_lt hlS hb)) (hkp b _ (big b hb) (hG.tups j b hj))
      · subst h1
        have hb : h.objs.size = b := by simpa using hj
        subst hb
        rw [hal]
        exact up _ _ (Nat.ne_of_gt hSl) ht
      · have hnone : (as ++ [h.objs.size])[j]? = none := List.getElem?_eq_none (by rw [List.length_append, List.length_singleton]; omega)
        rw [hnone] at hj; cases hj
    · have e : (h'.update S (Obj.mapSeq (·.push (Value.ref h.objs.size)))).get? h.objs.size = _ := up _ _ (Nat.ne_of_gt hSl) ht
      exact Nat.lt_trans hIs (Heap.lt_size e)
end
section
variable {prog : Program} {w : World} {A : Around} {E : Value → Shared → Prop} {s : Shared} {T : String} {r : Addr} {n : Nat} {V : Nat → List Value} {fp wr : List Addr} {St : Nat → Heap → Prop}
theorem srcw_extend {R : Result → Shared → Prop} (W : SrcW prog w A.in1 T r n V fp wr St) (hst : St 0 s.heap) (S : Addr) (hSf : S ∉ fp) (res : Value) (c₀ : Nat) (hS : s.heap.get? S = some { cls := .type "list", data := .seq #[] c₀ }) (hlI : ∀ b ∈ wr, b ≤ S)
    (hR : ∀ h' tk acc c as, (∀ b o, b ≠ S → b ∉ wr → s.heap.get? b = some o → h'.get? b = some o) → h'.get? S = some { cls := .type "list", dict := none, data := .seq acc c, slots := #[] } → as.length = n → Got V S h' as →
      acc.toList = as.map Value.ref → R (.ok (.ret res)) { s with heap := h', toks := tk }) (hn : n ≤ sizeLine) :
    wpAny (model prog w) A.in1 (Builtin.List.listExtendWith (.ref S) (.ref r) res)
      (fun fin s' => match fin with | .done f => R (.ok f) s' | .again c' => c'.quiet = true ∧ codeAny (model prog w) A c' R s') (fun e s' => R (.error e) s') s := by
  have hSr : S ≠ r := fun e => hSf (e ▸ W.sub r W.mem)
  have key : ∀ (h : Heap) (c₁ tk : Nat), (∀ b o, b ≠ S → s.heap.get? b = some o → h.get? b = some o) →
      h.get? S = some { cls := .type "list", data := .seq #[] c₁ } → codeAny (model prog w) A (.builtin "list.extend.loop" ⟨[.ref S, .ref r, res], []⟩) R { s with heap := h, toks := tk } := by
    intro h c₁ tk hk hS₁
    refine srcw_loop (s := s) (h₁ := s.heap) W hSf hn res (Nat.le_refl S) hlI (fun h' tk' acc c as hk' hS' hl hG hacc => hR h' tk' acc c as hk' hS' hl hG hacc)
      n 0 h tk c₁ #[] [] (Nat.sub_zero _) (Nat.zero_le _) (W.frame _ _ h hst fun b o hb e => hk b o (fun z => by
        subst z
        rcases hb with hb | hb
        · exact hSf hb
        · rw [hS] at e
          cases e
          exact hb rfl) e) (fun b o hb _ e => hk b o hb e) hS₁ rfl rfl
      ⟨List.Pairwise.nil, (fun _ ha => nomatch ha), (fun j a hj => by simp at hj)⟩ (Heap.lt_size hS₁)
  unfold Builtin.List.listExtendWith
  refine wpAny_bind (wpAny_typeOf (T := T) (W.type 0 s hst) ?_)
  have h1 : Builtin.List.listSameRef (.ref S) (.ref r) = false := by simp [Builtin.List.listSameRef, hSr]
  have h2 := W.notList
  have h3 := W.notTuple
  simp only [h1, h2, h3, Bool.or_false, Bool.false_eq_true, if_false]
  refine wpAny_bind (W.self 0 s _ _ _ hst ?_)
  refine wpAny_bind (wpAny_holding ?_)
  unfold Builtin.List.listLengthHint
  refine wpAny_bind (wpAny_specialOf (W.type 0 s hst) W.nolen ?_)
  show wpAny _ A.in1 (specialOf (Value.ref r) (Str.ofString "__length_hint__") >>= _) _ _ _
  refine wpAny_bind (wpAny_specialOf (W.type 0 s hst) W.nohint ?_)
  refine wpAny_pure ?_
  show wpAny _ A.in1 (rule "list.extend.makes-room" >>= fun _ => Builtin.List.listTouch (.ref S) >>= fun _ =>
    again (.builtin "list.extend.loop" ⟨[.ref S, .ref r, res], []⟩)) _ _ _
  refine wpAny_bind (wpAny_rule ?_)
  refine wpAny_bind ?_
  show wpAny _ _ (updateSeq S (·.push .none) >>= fun _ => updateSeq S (·.pop)) _ _ _
  refine wpAny_bind (wpAny_updateSeq hS rfl ?_)
  have hS₂ := Heap.get?_update_self (Obj.mapSeq (·.push Value.none)) hS rfl
  refine wpAny_updateSeq (hz := by seq_fits) hS₂ rfl ?_
  have hS₃ := Heap.get?_update_self (Obj.mapSeq (·.pop)) hS₂ rfl
  refine wpAny_pure ⟨plainId_quiet PySem.F.plain_extend_loop _, key _ _ _ (fun b o hb e => ?_) hS₃⟩
  exact (Heap.get?_update_other _ _ (Ne.symm hb)).trans ((Heap.get?_update_other _ _ (Ne.symm hb)).trans e)
theorem srcw_call {Q : Value → Shared → Prop} (W : SrcW prog w A.in1.in1 T r n V fp wr St) (hst : St 0 s.heap) (hn : n ≤ sizeLine)
    (hQ : ∀ h' tk acc c as, (∀ b o, b ∉ wr → s.heap.get? b = some o → h'.get? b = some o) → h'.get? s.heap.objs.size = some { cls := .type "list", dict := none, data := .seq acc c, slots := #[] } → as.length = n → Got V s.heap.objs.size h' as →
      acc.toList = as.map Value.ref → Q (.ref s.heap.objs.size) { s with heap := h', toks := tk }) :
    wpAny (model prog w) A (call (.type "list") [.ref r]) Q E s := by
  refine callType_codes (Q₁ := fun obj s₁ => obj = .ref s.heap.objs.size ∧ s₁ = { s with heap := s.heap.push { cls := .type "list", data := .seq #[] } }) PySem.F.called_list (PySem.F.typeCall_list_1 _) PySem.F.entry_list_init
    (code_list_new _ ⟨rfl, rfl⟩) fun obj s₁ h₁ => ?_
  obtain ⟨rfl, rfl⟩ := h₁
  have hS : (s.heap.push { cls := .type "list", data := .seq #[] }).get? s.heap.objs.size = some { cls := .type "list", data := .seq #[] } := Heap.get?_push_size _ rfl
  have hr : r < s.heap.objs.size := W.there 0 _ hst r (W.sub r W.mem)
  have hSf : s.heap.objs.size ∉ fp := fun z => Nat.lt_irrefl _ (W.there 0 _ hst _ z)
  refine ⟨⟨_, hS, rfl⟩, PySem.F.args_list_init_2 _ _, ?_⟩
  show wpAny _ _ (do let old ← Builtin.List.listItems (.ref s.heap.objs.size); Builtin.List.listUpdate (.ref s.heap.objs.size) (fun _ => #[]); letGo old.toList.reverse; Builtin.List.listExtendWith (.ref s.heap.objs.size) (.ref r) .none) _ _ _
  refine wpAny_bind ?_
  unfold Builtin.List.listItems
  refine wpAny_bind (wpAny_seqItems hS rfl (wpAny_pure ?_))
  show wpAny _ _ (updateSeq s.heap.objs.size (fun _ => #[]) >>= fun _ => letGo (#[] : Array Value).toList.reverse >>= fun _ => Builtin.List.listExtendWith (.ref s.heap.objs.size) (.ref r) .none) _ _ _
  refine wpAny_bind (wpAny_updateSeq hS rfl ?_)
  have hS₂ := Heap.get?_update_self (Obj.mapSeq (fun _ => (#[] : Array Value))) hS rfl
  have oth : ∀ b o, b ≠ s.heap.objs.size → (s.heap.push { cls := .type "list", data := .seq #[] }).get? b = some o → ((s.heap.push { cls := .type "list", data := .seq #[] }).update s.heap.objs.size (Obj.mapSeq (fun _ => (#[] : Array Value)))).get? b = some o :=
    fun b o hb e => (Heap.get?_update_other _ _ (Ne.symm hb)).trans e
  refine wpAny_bind (wpAny_letGo ?_)
  refine srcw_extend (A := A.in1) W (W.frame _ _ _ hst fun b o hb e => oth b o (Nat.ne_of_lt (Heap.lt_size e)) (Heap.get?_push_of_some _ e)) _ hSf .none _ hS₂ (fun b hb => Nat.le_of_lt (W.there 0 _ hst b (W.sub b hb))) (fun h' tk acc c as hk hS' hl hG hacc => ?_) hn
  refine ⟨rfl, hQ h' tk acc c as (fun b o hb e => hk b o (Nat.ne_of_lt (Heap.lt_size e)) hb (oth b o (Nat.ne_of_lt (Heap.lt_size e)) (Heap.get?_push_of_some _ e))) hS' hl hG hacc⟩
end
end ZL
end
section
set_option maxHeartbeats 2000000
/-! zip of two tuples while its first pair is still out; zip as an iterator whose pairs are kept -/
namespace ZL
open PySem PySem.Spec PyProof.Rows
open Sem (wp)
open CB (tupO)
theorem nolen_zip : typeLookup (.type "zip") "__len__" = pure none := am_miss_of_fast (by decide +kernel)
theorem nohint_zip : typeLookup (.type "zip") "__length_hint__" = pure none := am_miss_of_fast (by decide +kernel)
section
variable {prog : Program} {w : World} {A : Around} {E : Value → Shared → Prop} {s : Shared} {z TI TO T i1 i2 l1 l2 : Addr} {f : Bool} {oT : Obj} {k1 k2 : Nat} {xs ys : Array Value} {x y : Value}
theorem heldT_item {Q : Value → Shared → Prop} (D : ZipApart z TI TO i1 i2 l1 l2) (hz : IsZipHeld s.heap z TI TO T f) (hT : s.heap.get? T = some oT) (hTI : IsPair s.heap TI (.ref i1) (.ref i2))
    (h1 : s.heap.IsTupleIter i1 l1 k1) (h2 : s.heap.IsTupleIter i2 l2 k2) (hl1 : s.heap.IsTuple l1 xs) (hl2 : s.heap.IsTuple l2 ys) (hx : xs[k1]? = some x) (hy : ys[k2]? = some y)
    (hQ : ∀ g, IsZipHeld g z TI TO T true → g.IsTupleIter i1 l1 (k1 + 1) → g.IsTupleIter i2 l2 (k2 + 1) → g.get? s.heap.objs.size = some (tupO [x, y]) →
      (∀ c o, c ≠ z → c ≠ i1 → c ≠ i2 → s.heap.get? c = some o → g.get? c = some o) → Q (.ref s.heap.objs.size) { s with heap := g }) :
    wpAny (model prog w) A (Builtin.«zip.__next__» ⟨[.ref z], []⟩) (fun fin s' => ∃ v, fin = .done (.ret v) ∧ Q v s') E s := by
  show wpAny _ _ (field (.ref z) 2 >>= _) _ _ _; refine wpAny_bind (wpAny_field hz rfl (x := .bool false) rfl ?_)
  show wpAny _ _ (field (.ref z) 3 >>= _) _ _ _; refine wpAny_bind (wpAny_field hz rfl (x := .ref TI) rfl ?_); refine wpAny_bind (wpAny_seqItems hTI rfl ?_)
  show wpAny _ _ (Builtin.SmallTypes.ownedTupleIsFree (.ref z) >>= _) _ _ _; refine wpAny_bind (wpAny_tupleHeld_zip hz hT fun g1 zg1 sb1 => ?_); simp only [Bool.false_eq_true, if_false]
  refine wpAny_bind ?_; rw [← Array.forIn_toList]; simp only [List.forIn_cons, List.forIn_nil]; refine wpAny_bind (wpAny_bind (wpAny_holding ?_))
  show wpAny _ _ (Builtin.SmallTypes.nextOf (.ref i1) >>= _) _ _ _; refine wpAny_bind (RZ.nextOf_tuple_item (s := { s with heap := g1 }) (h1.extBut sb1.extBut D.i1z) (hl1.extBut sb1.extBut D.l1z) hx fun g2 it2 sb2 => wpAny_pure (wpAny_pure ?_))
  refine wpAny_bind (wpAny_bind (wpAny_holding ?_)); show wpAny _ _ (Builtin.SmallTypes.nextOf (.ref i2) >>= _) _ _ _
  refine wpAny_bind (RZ.nextOf_tuple_item (s := { s with heap := g2 }) ((h2.extBut sb1.extBut D.i2z).extBut sb2.extBut D.i12.symm) ((hl2.extBut sb1.extBut D.l2z).extBut sb2.extBut D.l2i1) hy fun g3 it3 sb3 => wpAny_pure (wpAny_pure (wpAny_pure ?_)))
  show wpAny _ _ (newTuple [x, y] >>= _) _ _ _; refine wpAny_bind (wpAny_newTuple (wpAny_pure ⟨_, rfl, ?_⟩))
  have size : g3.objs.size = s.heap.objs.size := (sb3.1.trans sb2.1).trans sb1.1
  have zg3 : IsZipHeld g3 z TI TO T true := sb3.extBut _ _ D.i2z.symm (sb2.extBut _ _ D.i1z.symm zg1)
  have kept : ∀ c o, c ≠ z → c ≠ i1 → c ≠ i2 → s.heap.get? c = some o → g3.get? c = some o := fun c o nz n1 n2 e => sb3.extBut _ _ n2 (sb2.extBut _ _ n1 (sb1.extBut _ _ nz e))
  have it1 : g3.IsTupleIter i1 l1 (k1 + 1) := it2.extBut sb3.extBut D.i12
  show Q (.ref g3.objs.size) _
  have new : (g3.push { cls := .type "tuple", data := .seq #[x, y] }).get? g3.objs.size = some (tupO [x, y]) := Heap.get?_push_size _ rfl
  rw [size] at new ⊢
  exact hQ _ (Heap.get?_push_of_some _ zg3) (it1.at fun o e => Heap.get?_push_of_some _ e) (it3.at fun o e => Heap.get?_push_of_some _ e) new fun c o nz n1 n2 e => Heap.get?_push_of_some _ (kept c o nz n1 n2 e)
theorem heldT_end {Q : Fin → Shared → Prop} (hh : A.handled = none) (D : ZipApart z TI TO i1 i2 l1 l2) (hz : IsZipHeld s.heap z TI TO T f) (hT : s.heap.get? T = some oT) (hTI : IsPair s.heap TI (.ref i1) (.ref i2))
    (h1 : s.heap.IsTupleIter i1 l1 k1) (h2 : s.heap.IsTupleIter i2 l2 k2) (hl1 : s.heap.IsTuple l1 xs) (hl2 : s.heap.IsTuple l2 ys) (hend : xs[k1]? = none ∨ ys[k2]? = none)
    (hE : ∀ g e, (∀ c o, c ≠ z → c ≠ i1 → c ≠ i2 → s.heap.get? c = some o → g.get? c = some o) → (∃ o, g.get? e = some o ∧ o.cls = .type "StopIteration") → E (.ref e) { s with heap := g }) :
    wpAny (model prog w) A (Builtin.«zip.__next__» ⟨[.ref z], []⟩) Q E s := by
  show wpAny _ _ (field (.ref z) 2 >>= _) _ _ _; refine wpAny_bind (wpAny_field hz rfl (x := .bool false) rfl ?_)
  show wpAny _ _ (field (.ref z) 3 >>= _) _ _ _; refine wpAny_bind (wpAny_field hz rfl (x := .ref TI) rfl ?_); refine wpAny_bind (wpAny_seqItems hTI rfl ?_)
  show wpAny _ _ (Builtin.SmallTypes.ownedTupleIsFree (.ref z) >>= _) _ _ _; refine wpAny_bind (wpAny_tupleHeld_zip hz hT fun g1 zg1 sb1 => ?_); simp only [Bool.false_eq_true, if_false]
  refine wpAny_bind ?_; rw [← Array.forIn_toList]; simp only [List.forIn_cons, List.forIn_nil]; refine wpAny_bind (wpAny_bind (wpAny_holding ?_))
  show wpAny _ _ (Builtin.SmallTypes.nextOf (.ref i1) >>= _) _ _ _; cases hx : xs[k1]? with
  | none => exact wpAny_bind (RZ.nextOf_tuple_end (s := { s with heap := g1 }) hh (h1.extBut sb1.extBut D.i1z) (hl1.extBut sb1.extBut D.l1z) hx fun g2 e sb2 he => hE g2 e (fun c o nz n1 _ q => sb2 _ _ n1 (sb1.extBut _ _ nz q)) he)
  | some x =>
    have hy : ys[k2]? = none := hend.resolve_left (by rw [hx]; simp)
    refine wpAny_bind (RZ.nextOf_tuple_item (s := { s with heap := g1 }) (h1.extBut sb1.extBut D.i1z) (hl1.extBut sb1.extBut D.l1z) hx fun g2 it2 sb2 => wpAny_pure (wpAny_pure ?_))
    refine wpAny_bind (wpAny_bind (wpAny_holding ?_)); show wpAny _ _ (Builtin.SmallTypes.nextOf (.ref i2) >>= _) _ _ _
    exact wpAny_bind (RZ.nextOf_tuple_end (s := { s with heap := g2 }) hh ((h2.extBut sb1.extBut D.i2z).extBut sb2.extBut D.i12.symm) ((hl2.extBut sb1.extBut D.l2z).extBut sb2.extBut D.l2i1) hy fun g3 e sb3 he => hE g3 e (fun c o nz n1 n2 q => sb3 _ _ n2 (sb2.extBut _ _ n1 (sb1.extBut _ _ nz q))) he)
end
theorem next_heldT_item {prog : Program} {w : World} {A : Around} {E : Value → Shared → Prop} {s : Shared} {z TI TO T i1 i2 l1 l2 : Addr} {f : Bool} {oT : Obj} {k1 k2 : Nat} {xs ys : Array Value} {x y : Value} {Q : Option Value → Shared → Prop} (D : ZipApart z TI TO i1 i2 l1 l2) (hz : IsZipHeld s.heap z TI TO T f) (hT : s.heap.get? T = some oT) (hTI : IsPair s.heap TI (.ref i1) (.ref i2))
    (h1 : s.heap.IsTupleIter i1 l1 k1) (h2 : s.heap.IsTupleIter i2 l2 k2) (hl1 : s.heap.IsTuple l1 xs) (hl2 : s.heap.IsTuple l2 ys) (hx : xs[k1]? = some x) (hy : ys[k2]? = some y)
    (hQ : ∀ g, IsZipHeld g z TI TO T true → g.IsTupleIter i1 l1 (k1 + 1) → g.IsTupleIter i2 l2 (k2 + 1) → g.get? s.heap.objs.size = some (tupO [x, y]) →
      (∀ c o, c ≠ z → c ≠ i1 → c ≠ i2 → s.heap.get? c = some o → g.get? c = some o) → Q (some (.ref s.heap.objs.size)) { s with heap := g }) :
    wpAny (model prog w) A (pyNext (.ref z)) Q E s := by
  have ty : s.TypeIs (.ref z) "zip" := ⟨_, hz, rfl⟩
  unfold pyNext
  exact wpAny_bind (wpAny_attempt (wpAny_callSpecial?_slot (name := Str.ofString "__next__") ty F.slot_zip_next (wpAny_call_entry F.slot_zip_next ty F.entry_zip_next (heldT_item D hz hT hTI h1 h2 hl1 hl2 hx hy fun g b1 b2 b3 b4 b5 => wpAny_pure (hQ g b1 b2 b3 b4 b5)) (F.args_zip_next_1 _))))
theorem next_heldT_end {prog : Program} {w : World} {A : Around} {E : Value → Shared → Prop} {s : Shared} {z TI TO T i1 i2 l1 l2 : Addr} {f : Bool} {oT : Obj} {k1 k2 : Nat} {xs ys : Array Value} {Q : Option Value → Shared → Prop} (hh : A.handled = none) (D : ZipApart z TI TO i1 i2 l1 l2) (hz : IsZipHeld s.heap z TI TO T f) (hT : s.heap.get? T = some oT) (hTI : IsPair s.heap TI (.ref i1) (.ref i2))
    (h1 : s.heap.IsTupleIter i1 l1 k1) (h2 : s.heap.IsTupleIter i2 l2 k2) (hl1 : s.heap.IsTuple l1 xs) (hl2 : s.heap.IsTuple l2 ys) (hend : xs[k1]? = none ∨ ys[k2]? = none)
    (hQ : ∀ g, (∀ c o, c ≠ z → c ≠ i1 → c ≠ i2 → s.heap.get? c = some o → g.get? c = some o) → Q none { s with heap := g }) : wpAny (model prog w) A (pyNext (.ref z)) Q E s := by
  have ty : s.TypeIs (.ref z) "zip" := ⟨_, hz, rfl⟩
  unfold pyNext
  refine wpAny_bind (wpAny_attempt (wpAny_callSpecial?_slot (name := Str.ofString "__next__") ty F.slot_zip_next (wpAny_call_entry F.slot_zip_next ty F.entry_zip_next (heldT_end hh D hz hT hTI h1 h2 hl1 hl2 hend fun g e hk ⟨o, ho, hc⟩ => ?_) (F.args_zip_next_1 _))))
  exact wpAny_bind (wpAny_isInstance (T := "StopIteration") (b := true) ⟨o, ho, hc⟩ isSubtype_stop (wpAny_pure (hQ _ hk)))
/-- where a zip of two lists stands whose pairs are all kept -/
def StzL (z TI TO i1 i2 l1 l2 : Addr) (xs ys : Array Value) (i : Nat) (h : Heap) : Prop :=
  (IsZip h z TI TO .none ∨ ∃ T f, IsZipHeld h z TI TO T f ∧ ∃ o, h.get? T = some o ∧ o.cls = .type "tuple") ∧ IsPair h TI (.ref i1) (.ref i2) ∧ (∃ a b, IsPair h TO a b) ∧ h.IsListIter i1 l1 i ∧ h.IsListIter i2 l2 i ∧ h.IsList l1 xs ∧ h.IsList l2 ys
theorem stzL_type {s : Shared} {z TI TO i1 i2 l1 l2 : Addr} {xs ys : Array Value} {i : Nat} (h : StzL z TI TO i1 i2 l1 l2 xs ys i s.heap) : s.TypeIs (.ref z) "zip" := by
  rcases h.1 with h | ⟨_, _, h, _⟩ <;> exact ⟨_, h, rfl⟩
theorem src_zipL {prog : Program} {w : World} {A : Around} {z TI TO i1 i2 l1 l2 : Addr} {xs ys : Array Value} (hh : A.handled = none) (D : ZipApart z TI TO i1 i2 l1 l2) :
    SrcW prog w A "zip" z (min xs.size ys.size) (fun i => [xs.getD i .none, ys.getD i .none]) [z, TI, TO, i1, i2, l1, l2] [z, TO, i1, i2] (StzL z TI TO i1 i2 l1 l2 xs ys) where
  mem := by simp
  sub := fun b hb => by
    simp only [List.mem_cons, List.not_mem_nil, or_false] at hb
    rcases hb with h | h | h | h <;> simp [h]
  frame := fun i h h' st hk => by
    obtain ⟨hz, hTI, ⟨a, b, hTO⟩, h1, h2, hl1, hl2⟩ := st
    have hk' : ∀ c ∈ [z, TI, TO, i1, i2, l1, l2], ∀ o, h.get? c = some o → h'.get? c = some o := fun c hc o e => hk c o (.inl hc) e
    refine ⟨?_, hk' TI (by simp) _ hTI, ⟨a, b, hk' TO (by simp) _ hTO⟩, h1.at fun o e => hk' i1 (by simp) o e, h2.at fun o e => hk' i2 (by simp) o e, ?_, ?_⟩
    · rcases hz with hz | ⟨T, f, hz, o, ho, hc⟩
      · exact .inl (hk' z (by simp) _ hz)
      · exact .inr ⟨T, f, hk' z (by simp) _ hz, o, hk T o (.inr fun e => by rw [hc] at e; simp at e) ho, hc⟩
    · obtain ⟨o, ho, r⟩ := hl1
      exact ⟨o, hk' l1 (by simp) o ho, r⟩
    · obtain ⟨o, ho, r⟩ := hl2
      exact ⟨o, hk' l2 (by simp) o ho, r⟩
  there := fun i h st b hb => by
    obtain ⟨hz, hTI, ⟨x, y, hTO⟩, ⟨o1, e1, _⟩, ⟨o2, e2, _⟩, ⟨o3, e3, _⟩, ⟨o4, e4, _⟩⟩ := st
    have hb' : b = z ∨ b = TI ∨ b = TO ∨ b = i1 ∨ b = i2 ∨ b = l1 ∨ b = l2 := by simpa using hb
    rcases hb' with rfl | rfl | rfl | rfl | rfl | rfl | rfl
    · rcases hz with hz | ⟨_, _, hz, _⟩ <;> exact Heap.lt_size hz
    · exact Heap.lt_size hTI
    · exact Heap.lt_size hTO
    · exact Heap.lt_size e1
    · exact Heap.lt_size e2
    · exact Heap.lt_size e3
    · exact Heap.lt_size e4
  type := fun i s st => stzL_type st
  notList := by decide
  notTuple := by decide
  nolen := nolen_zip
  nohint := nohint_zip
  self := fun i s B Q E st hQ => by
    have hT := stzL_type st
    refine wpAny_pyIter_slot hT F.slot_zip_iter (wpAny_call_entry F.slot_zip_iter hT F.entry_zip_iter ?_ (F.args_zip_iter_1 _))
    show wpAny _ _ (ret (.ref z)) _ _ s; exact wpAny_pure ⟨_, rfl, "zip", _, hT, F.slot_zip_next.lookup, hQ⟩
  item := fun i s Q E hi st hQ => by
    have hT := stzL_type st
    obtain ⟨hz, hTI, ⟨x0, y0, hTO⟩, h1, h2, hl1, hl2⟩ := st
    have hx : xs[i]? = some (xs.getD i .none) := by rw [Array.getElem?_eq_getElem (by omega), Array.getD, dif_pos (by omega)]; rfl
    have hy : ys[i]? = some (ys.getD i .none) := by rw [Array.getElem?_eq_getElem (by omega), Array.getD, dif_pos (by omega)]; rfl
    have e1 := hl1
    have e2 := hl2
    obtain ⟨o1, ho1, _⟩ := hl1
    obtain ⟨o2, ho2, _⟩ := hl2
    rcases hz with hz | ⟨T, f, hz, o, ho, hc⟩
    · refine wpAny_pyNext_zip_item D hz hTI hTO h1 h2 e1 e2 hx hy fun g gz gO g1 g2 gT gs gk => hQ g ⟨.inr ⟨s.heap.objs.size, false, gz, _, gT, rfl⟩, gk TI _ D.TIz D.TITO D.TIi1 D.TIi2 hTI, ⟨_, _, gO⟩, g1, g2, ⟨o1, gk l1 o1 D.l1z D.l1TO D.l1i1 D.l1i2 ho1, ?_⟩, ⟨o2, gk l2 o2 D.l2z D.l2TO D.l2i1 D.l2i2 ho2, ?_⟩⟩ gT fun b o hb e => ?_
      · assumption
      · assumption
      · simp only [List.mem_cons, List.not_mem_nil, or_false, not_or] at hb
        exact gk b o hb.1 hb.2.1 hb.2.2.1 hb.2.2.2 e
    · have nz : T ≠ z := fun e => by
        rw [e, hz] at ho
        cases ho
        simp at hc
      have n1 : T ≠ i1 := fun e => by
        obtain ⟨o', ho', c', _⟩ := h1
        rw [e, ho'] at ho
        cases ho
        rw [c'] at hc
        simp at hc
      have n2 : T ≠ i2 := fun e => by
        obtain ⟨o', ho', c', _⟩ := h2
        rw [e, ho'] at ho
        cases ho
        rw [c'] at hc
        simp at hc
      refine wpAny_pyNext_zip_item_held D hz ho hTI h1 h2 e1 e2 hx hy fun g gz g1 g2 gT _ gk => hQ g ⟨.inr ⟨T, true, gz, o, gk T o nz n1 n2 ho, hc⟩, gk TI _ D.TIz D.TIi1 D.TIi2 hTI, ⟨_, _, gk TO _ D.TOz D.TOi1 D.TOi2 hTO⟩, g1, g2, ⟨o1, gk l1 o1 D.l1z D.l1i1 D.l1i2 ho1, ?_⟩, ⟨o2, gk l2 o2 D.l2z D.l2i1 D.l2i2 ho2, ?_⟩⟩ gT fun b o hb e => ?_
      · assumption
      · assumption
      · simp only [List.mem_cons, List.not_mem_nil, or_false, not_or] at hb
        exact gk b o hb.1 hb.2.2.1 hb.2.2.2 e
  done := fun s Q E st hQ => by
    have hT := stzL_type st
    obtain ⟨hz, hTI, ⟨x0, y0, hTO⟩, h1, h2, hl1, hl2⟩ := st
    have he : xs[min xs.size ys.size]? = none ∨ ys[min xs.size ys.size]? = none := by
      rcases Nat.le_total xs.size ys.size with h | h
      · exact .inl (Array.getElem?_eq_none (by omega))
      · exact .inr (Array.getElem?_eq_none (by omega))
    have far : ∀ b, b ∉ [z, TO, i1, i2] → b ≠ z ∧ b ≠ TO ∧ b ≠ i1 ∧ b ≠ i2 := fun b hb => by simpa using hb
    rcases hz with hz | ⟨T, f, hz, o, ho, hc⟩
    · exact wpAny_pyNext_zip_end hh D hz hTI hTO h1 h2 hl1 hl2 he fun g gk => hQ g fun b o hb e => gk b o (far b hb).1 (far b hb).2.1 (far b hb).2.2.1 (far b hb).2.2.2 e
    · exact wpAny_pyNext_zip_end_held hh D hz ho hTI h1 h2 hl1 hl2 he fun g gk => hQ g fun b o hb e => gk b o (far b hb).1 (far b hb).2.2.1 (far b hb).2.2.2 e
/-- where a zip of two tuples stands whose pairs are all kept -/
def StzT (z TI TO i1 i2 l1 l2 : Addr) (xs ys : Array Value) (i : Nat) (h : Heap) : Prop :=
  (IsZip h z TI TO .none ∨ ∃ T f, IsZipHeld h z TI TO T f ∧ ∃ o, h.get? T = some o ∧ o.cls = .type "tuple") ∧ IsPair h TI (.ref i1) (.ref i2) ∧ (∃ a b, IsPair h TO a b) ∧ h.IsTupleIter i1 l1 i ∧ h.IsTupleIter i2 l2 i ∧ h.IsTuple l1 xs ∧ h.IsTuple l2 ys
theorem stzT_type {s : Shared} {z TI TO i1 i2 l1 l2 : Addr} {xs ys : Array Value} {i : Nat} (h : StzT z TI TO i1 i2 l1 l2 xs ys i s.heap) : s.TypeIs (.ref z) "zip" := by
  rcases h.1 with h | ⟨_, _, h, _⟩ <;> exact ⟨_, h, rfl⟩
theorem src_zipT {prog : Program} {w : World} {A : Around} {z TI TO i1 i2 l1 l2 : Addr} {xs ys : Array Value} (hh : A.handled = none) (D : ZipApart z TI TO i1 i2 l1 l2) :
    SrcW prog w A "zip" z (min xs.size ys.size) (fun i => [xs.getD i .none, ys.getD i .none]) [z, TI, TO, i1, i2, l1, l2] [z, TO, i1, i2] (StzT z TI TO i1 i2 l1 l2 xs ys) where
  mem := by simp
  sub := fun b hb => by
    simp only [List.mem_cons, List.not_mem_nil, or_false] at hb
    rcases hb with h | h | h | h <;> simp [h]
  frame := fun i h h' st hk => by
    obtain ⟨hz, hTI, ⟨a, b, hTO⟩, h1, h2, hl1, hl2⟩ := st
    have hk' : ∀ c ∈ [z, TI, TO, i1, i2, l1, l2], ∀ o, h.get? c = some o → h'.get? c = some o := fun c hc o e => hk c o (.inl hc) e
    refine ⟨?_, hk' TI (by simp) _ hTI, ⟨a, b, hk' TO (by simp) _ hTO⟩, h1.at fun o e => hk' i1 (by simp) o e, h2.at fun o e => hk' i2 (by simp) o e, ?_, ?_⟩
    · rcases hz with hz | ⟨T, f, hz, o, ho, hc⟩
      · exact .inl (hk' z (by simp) _ hz)
      · exact .inr ⟨T, f, hk' z (by simp) _ hz, o, hk T o (.inr fun e => by rw [hc] at e; simp at e) ho, hc⟩
    · obtain ⟨o, ho, r⟩ := hl1
      exact ⟨o, hk' l1 (by simp) o ho, r⟩
    · obtain ⟨o, ho, r⟩ := hl2
      exact ⟨o, hk' l2 (by simp) o ho, r⟩
  there := fun i h st b hb => by
    obtain ⟨hz, hTI, ⟨x, y, hTO⟩, ⟨o1, e1, _⟩, ⟨o2, e2, _⟩, ⟨o3, e3, _⟩, ⟨o4, e4, _⟩⟩ := st
    have hb' : b = z ∨ b = TI ∨ b = TO ∨ b = i1 ∨ b = i2 ∨ b = l1 ∨ b = l2 := by simpa using hb
    rcases hb' with rfl | rfl | rfl | rfl | rfl | rfl | rfl
    · rcases hz with hz | ⟨_, _, hz, _⟩ <;> exact Heap.lt_size hz
    · exact Heap.lt_size hTI
    · exact Heap.lt_size hTO
    · exact Heap.lt_size e1
    · exact Heap.lt_size e2
    · exact Heap.lt_size e3
    · exact Heap.lt_size e4
  type := fun i s st => stzT_type st
  notList := by decide
  notTuple := by decide
  nolen := nolen_zip
  nohint := nohint_zip
  self := fun i s B Q E st hQ => by
    have hT := stzT_type st
    refine wpAny_pyIter_slot hT F.slot_zip_iter (wpAny_call_entry F.slot_zip_iter hT F.entry_zip_iter ?_ (F.args_zip_iter_1 _))
    show wpAny _ _ (ret (.ref z)) _ _ s; exact wpAny_pure ⟨_, rfl, "zip", _, hT, F.slot_zip_next.lookup, hQ⟩
  item := fun i s Q E hi st hQ => by
    have hT := stzT_type st
    obtain ⟨hz, hTI, ⟨x0, y0, hTO⟩, h1, h2, hl1, hl2⟩ := st
    have hx : xs[i]? = some (xs.getD i .none) := by rw [Array.getElem?_eq_getElem (by omega), Array.getD, dif_pos (by omega)]; rfl
    have hy : ys[i]? = some (ys.getD i .none) := by rw [Array.getElem?_eq_getElem (by omega), Array.getD, dif_pos (by omega)]; rfl
    have e1 := hl1
    have e2 := hl2
    obtain ⟨o1, ho1, _⟩ := hl1
    obtain ⟨o2, ho2, _⟩ := hl2
    rcases hz with hz | ⟨T, f, hz, o, ho, hc⟩
    · refine RZ.pyNext_zipT_item D hz hTI hTO h1 h2 e1 e2 hx hy fun g gz gO g1 g2 gT gs gk => hQ g ⟨.inr ⟨s.heap.objs.size, false, gz, _, gT, rfl⟩, gk TI _ D.TIz D.TITO D.TIi1 D.TIi2 hTI, ⟨_, _, gO⟩, g1, g2, ⟨o1, gk l1 o1 D.l1z D.l1TO D.l1i1 D.l1i2 ho1, ?_⟩, ⟨o2, gk l2 o2 D.l2z D.l2TO D.l2i1 D.l2i2 ho2, ?_⟩⟩ gT fun b o hb e => ?_
      · assumption
      · assumption
      · simp only [List.mem_cons, List.not_mem_nil, or_false, not_or] at hb
        exact gk b o hb.1 hb.2.1 hb.2.2.1 hb.2.2.2 e
    · have nz : T ≠ z := fun e => by
        rw [e, hz] at ho
        cases ho
        simp at hc
      have n1 : T ≠ i1 := fun e => by
        obtain ⟨o', ho', c', _⟩ := h1
        rw [e, ho'] at ho
        cases ho
        rw [c'] at hc
        simp at hc
      have n2 : T ≠ i2 := fun e => by
        obtain ⟨o', ho', c', _⟩ := h2
        rw [e, ho'] at ho
        cases ho
        rw [c'] at hc
        simp at hc
      refine next_heldT_item D hz ho hTI h1 h2 e1 e2 hx hy fun g gz g1 g2 gT gk => hQ g ⟨.inr ⟨T, true, gz, o, gk T o nz n1 n2 ho, hc⟩, gk TI _ D.TIz D.TIi1 D.TIi2 hTI, ⟨_, _, gk TO _ D.TOz D.TOi1 D.TOi2 hTO⟩, g1, g2, ⟨o1, gk l1 o1 D.l1z D.l1i1 D.l1i2 ho1, ?_⟩, ⟨o2, gk l2 o2 D.l2z D.l2i1 D.l2i2 ho2, ?_⟩⟩ gT fun b o hb e => ?_
      · assumption
      · assumption
      · simp only [List.mem_cons, List.not_mem_nil, or_false, not_or] at hb
        exact gk b o hb.1 hb.2.2.1 hb.2.2.2 e
  done := fun s Q E st hQ => by
    have hT := stzT_type st
    obtain ⟨hz, hTI, ⟨x0, y0, hTO⟩, h1, h2, hl1, hl2⟩ := st
    have he : xs[min xs.size ys.size]? = none ∨ ys[min xs.size ys.size]? = none := by
      rcases Nat.le_total xs.size ys.size with h | h
      · exact .inl (Array.getElem?_eq_none (by omega))
      · exact .inr (Array.getElem?_eq_none (by omega))
    have far : ∀ b, b ∉ [z, TO, i1, i2] → b ≠ z ∧ b ≠ TO ∧ b ≠ i1 ∧ b ≠ i2 := fun b hb => by simpa using hb
    rcases hz with hz | ⟨T, f, hz, o, ho, hc⟩
    · exact RZ.pyNext_zipT_end hh D hz hTI hTO h1 h2 hl1 hl2 he fun g gk => hQ g fun b o hb e => gk b o (far b hb).1 (far b hb).2.1 (far b hb).2.2.1 (far b hb).2.2.2 e
    · exact next_heldT_end hh D hz ho hTI h1 h2 hl1 hl2 he fun g gk => hQ g fun b o hb e => gk b o (far b hb).1 (far b hb).2.2.1 (far b hb).2.2.2 e
end ZL
end
section
set_option maxHeartbeats 2000000
/-! list(zip(x, y)): of two lists, of two tuples -/
namespace L2
open PySem PySem.Spec PyProof.Rows CB ZL
def tupsZ (xs ys : List V) : List (List V) := List.zipWith (fun x y => [x, y]) xs ys
theorem tupsZ_len (xs ys : List V) : (tupsZ xs ys).length = min xs.length ys.length := List.length_zipWith ..
theorem tupsZ_at {xs ys : List V} {j : Nat} {x y : V} (h1 : xs[j]? = some x) (h2 : ys[j]? = some y) : (tupsZ xs ys)[j]? = some [x, y] := by
  unfold tupsZ
  rw [List.getElem?_zipWith, h1, h2]
def NewPairs (H1 : Hp) (xs ys : List V) (Q : V → Hp → Prop) : Prop := ∀ (as : List Addr) q (os : Addr → Obj), (∀ a, os a = { os a with cls := .type "tuple", dict := none }) → as.Nodup → as.length = min xs.length ys.length → (∀ x ∈ as, H1 x = none) → H1 q = none → q ∉ as → Q (.ref q) (upd (updT os H1 as (tupsZ xs ys)) q (.lst (as.map V.ref)))
def tLstZip (K : PySem.W.Frag) (ta : TA) : TE := fun σ H Q => ta σ H fun vs H1 => ∃ a b xs ys, vs = [.ref a, .ref b] ∧ ((SqL K H1 a xs ∧ SqL K H1 b ys) ∨ (SqT K H1 a xs ∧ SqT K H1 b ys)) ∧ NewPairs H1 xs ys Q
section
variable {X : Cx} {e e2 : Expr} {ta : TA} {p p1 p2 pos : Pos}
theorem zip_fin {pins : List (Addr × Obj)} {σ : St} {H1 : Hp} {s : Shared} {Q : V → Hp → Prop} {g : Heap} {fp wr : List Addr} {stt : Nat → Heap → Prop} {xs ys : List V} {us vs : List Value} (I : Inv X pins σ H1 s) (hk : ∀ c o, s.heap.get? c = some o → g.get? c = some o) (hS : g.objs.size = s.heap.objs.size + 5)
    (hw : ∀ b ∈ wr, s.heap.objs.size ≤ b) (r1 : Vals xs us) (r2 : Vals ys vs) (hz : xs.length ≤ sizeLine) (W : SrcW X.prog X.w X.A.in1.in1 "zip" (s.heap.objs.size + 4) (min us.toArray.size vs.toArray.size) (fun i => [us.toArray.getD i .none, vs.toArray.getD i .none]) fp wr stt) (hst : stt 0 g) (q : NewPairs H1 xs ys Q) :
    wpAny (model X.prog X.w) X.A (call (.type "list") [.ref (s.heap.objs.size + 4)]) (EP X pins σ Q) X.xe { s with heap := g } := by
  have l1 := r1.length
  have l2 := r2.length
  have en : min us.toArray.size vs.toArray.size = min xs.length ys.length := by rw [List.size_toArray, List.size_toArray]; omega
  have I2 : Inv X pins σ H1 { s with heap := g } := I.kept (t' := s.toks) hk
  refine srcw_call (W := W) hst (by omega) fun h3 tk3 acc3 c3 as hk3 hL hl hG hacc3 => ?_
  dsimp only at hk3 hL hG ⊢
  rw [hS] at hL hG ⊢
  rw [en] at hl
  have nd : as.Nodup := hG.rise.imp fun h => Nat.ne_of_lt h
  have hab : ∀ x ∈ as, s.heap.objs.size + 5 < x := hG.above
  have hL0 : s.heap.objs.size + 5 ∉ as := fun z => Nat.lt_irrefl _ (hab _ z)
  have big : ∀ b, b < s.heap.objs.size → b ∉ as ∧ b ≠ s.heap.objs.size + 5 := fun b hb => ⟨fun z => by have := hab b z; omega, by omega⟩
  refine ⟨.ref (s.heap.objs.size + 5), _, inv_news (s := s) I (h' := h3) (t' := tk3) (fun b o e => hk3 b o (fun z => Nat.lt_irrefl _ (Nat.lt_of_lt_of_le (Heap.lt_size e) (hw b z))) (hk b o e)) (fun b hb => ?_) (fun x o hx e => ?_), rfl, q as _ (fun x => (h3.get? x).getD (tupO []) |> fun o => { o with cls := .type "tuple", dict := none }) (fun _ => rfl) nd hl (fun x hx => I.hok.fresh ?_) (I.hok.fresh ?_) hL0⟩
  · have := big b hb
    rw [upd_ne this.2, updT_other _ _ _ _ this.1]
  · by_cases hxL : x = s.heap.objs.size + 5
    · subst hxL
      rw [upd_same] at e
      cases e
      refine ⟨by rw [List.length_map, hl]; omega, acc3.toList, c3, ?_, ?_⟩
      · rw [hacc3]; exact vals_refs' as
      · rw [Array.toArray_toList]; exact hL
    · rw [upd_ne hxL] at e
      by_cases hxa : x ∈ as
      · obtain ⟨j, hj⟩ := List.mem_iff_getElem?.mp hxa
        have hjl : j < as.length := (List.getElem?_eq_some_iff.mp hj).1
        have j1 : j < xs.length := by omega
        have j2 : j < ys.length := by omega
        obtain ⟨u, hu, ru⟩ := r1.get (List.getElem?_eq_getElem j1)
        obtain ⟨v, hv, rv⟩ := r2.get (List.getElem?_eq_getElem j2)
        have ht := updT_at (os := fun x => (h3.get? x).getD (tupO []) |> fun o => { o with cls := .type "tuple", dict := none }) as (tupsZ xs ys) H1 j x [xs[j], ys[j]] nd hj (tupsZ_at (List.getElem?_eq_getElem j1) (List.getElem?_eq_getElem j2))
        rw [ht] at e
        cases e
        have hx3 := hG.tups j x hj
        have eu : us.toArray.getD j .none = u := by
          rw [Array.getD_eq_getD_getElem?, List.getElem?_toArray, hu]
          rfl
        have ev : vs.toArray.getD j .none = v := by
          rw [Array.getD_eq_getD_getElem?, List.getElem?_toArray, hv]
          rfl
        rw [eu, ev] at hx3
        refine ⟨?_, by show 2 ≤ sizeLine; decide, [u, v], .cons ru (.cons rv .nil), ?_⟩
        · rw [hx3]; rfl
        · exact ⟨_, hx3, rfl, _, rfl⟩
      · rw [updT_other _ _ _ _ hxa, I.hok.fresh hx] at e
        cases e
  · have := hab x hx
    omega
  · omega
theorem pe_listZip (hc : X.calm = true) (hg : Gl X "list") (hm : X.mg "list" = none) (hg2 : Gl X "zip") (hm2 : X.mg "zip" = none) (ha : PA X [e, e2] ta)
    (hs : starEach [e, e2] X.env = (false, eval e X.env) :: starEach [e2] X.env := by rfl) (hpl : (backTo p2 (starEach [e2] X.env)).any (·.1) = false := by rfl)
    (nc : starEach [.Call (.Name "zip" p1) [e, e2] [] p2] X.env = (false, eval (.Call (.Name "zip" p1) [e, e2] [] p2) X.env) :: starEach [] X.env := by rfl) :
    PE X (.Call (.Name "list" p) [.Call (.Name "zip" p1) [e, e2] [] p2] [] pos) (tLstZip X.K ta) := by
  refine ⟨fun pins s σ H Q I h => ?_⟩
  refine Call_ (ld_blt I hg hm boot_list (PyProof.Rows.callWith_type1 (args_cons (Call_ (ld_blt I hg2 hm2 PyProof.Rows.boot_zip (PyProof.Rows.callWith_type1 (thn (ha.run p2 pins s σ H _ I h) fun us s1 ⟨vs, H1, I1, r1, q1⟩ => ?_) hs hpl))) nc) nc))
  obtain ⟨a, b, xs, ys, rfl, hq, q1⟩ := q1
  cases r1 with
  | cons r rr =>
    obtain ⟨u, rfl, r'⟩ := Vals.one rr
    cases r
    cases r'
    have hw : ∀ c ∈ [s1.heap.objs.size + 4, s1.heap.objs.size + 3, s1.heap.objs.size, s1.heap.objs.size + 1], s1.heap.objs.size ≤ c := fun c hc => by
      simp only [List.mem_cons, List.not_mem_nil, or_false] at hc
      omega
    rcases hq with ⟨hqx, hqy⟩ | ⟨hqx, hqy⟩
    · obtain ⟨its, rv, p3, z3⟩ := I1.list hqx
      obtain ⟨its2, rv2, p4, _⟩ := I1.list hqy
      refine call_zip_2 p3.isList p4.isList fun g gz gI gO g1 g2 gs gk => args_nil ?_
      obtain ⟨o1, ho1, q3⟩ := id p3.isList
      obtain ⟨o2, ho2, q4⟩ := id p4.isList
      exact zip_fin I1 gk gs hw rv rv2 z3 (src_zipL (I1.ok.hd hc) (PySem.W.ktu_apart _ a b p3.lt p4.lt)) ⟨.inl gz, gI, ⟨_, _, gO⟩, g1, g2, ⟨o1, gk _ _ ho1, q3⟩, ⟨o2, gk _ _ ho2, q4⟩⟩ q1
    · obtain ⟨its, rv, p3, z3⟩ := I1.tuple hqx
      obtain ⟨its2, rv2, p4, _⟩ := I1.tuple hqy
      have p5 : s1.heap.IsTuple a its.toArray := p3
      have p6 : s1.heap.IsTuple b its2.toArray := p4
      refine RZ.call_zipT p5 p6 fun g gz gI gO g1 g2 gs gk => args_nil ?_
      obtain ⟨o1, ho1, q3⟩ := id p5
      obtain ⟨o2, ho2, q4⟩ := id p6
      exact zip_fin I1 gk gs hw rv rv2 z3 (src_zipT (I1.ok.hd hc) (PySem.W.ktu_apart _ a b (Heap.lt_size ho1) (Heap.lt_size ho2))) ⟨.inl gz, gI, ⟨_, _, gO⟩, g1, g2, ⟨o1, gk _ _ ho1, q3⟩, ⟨o2, gk _ _ ho2, q4⟩⟩ q1
end
end L2
namespace DL
open PySem PySem.Spec PyProof.Rows L2
def zipD (xs ys : List PyData) : List PyData := List.zipWith (fun x y => .tuple [x, y]) xs ys
def zipLW : List L → Ms → DQ → Prop := fun ls M q => ∃ xs ys, (ls = [.d (.list xs), .d (.list ys)] ∨ ls = [.d (.tuple xs), .d (.tuple ys)]) ∧ q (.d (.list (zipD xs ys))) M
section
variable {X : Cx} {G : GH} {e e2 : Expr} {ds : DA} {p p1 p2 pos : Pos}
theorem rpa_pairs {K : PySem.W.Frag} {F : Hp} {os : Addr → Obj} {as : List Addr} {vs ws : List V} {xs ys : List PyData} (hos : ∀ a, os a = { os a with cls := .type "tuple", dict := none }) (nd : as.Nodup) (hl : as.length = min vs.length ws.length) (s : Same F (updT os F as (tupsZ vs ws))) (r1 : RpA K F vs xs) (r2 : RpA K F ws ys) :
    RpA K (updT os F as (tupsZ vs ws)) (as.map V.ref) (zipD xs ys) := by
  have e1 := r1.length
  have e2 := r2.length
  refine rpa_at ?_ fun j v d h1 h2 => ?_
  · unfold zipD
    rw [List.length_map, hl, List.length_zipWith, e1, e2]
  · rw [List.getElem?_map] at h1
    cases ea : as[j]? with
    | none => rw [ea] at h1; cases h1
    | some y =>
      rw [ea] at h1
      cases h1
      have hj : j < as.length := (List.getElem?_eq_some_iff.mp ea).1
      have j1 : j < vs.length := by omega
      have j2 : j < ws.length := by omega
      obtain ⟨x, hx, rx⟩ := r1.getV (List.getElem?_eq_getElem j1)
      obtain ⟨z, hz, rz⟩ := r2.getV (List.getElem?_eq_getElem j2)
      unfold zipD at h2
      rw [List.getElem?_zipWith, hx, hz] at h2
      cases h2
      have ht := updT_at (os := os) as (tupsZ vs ws) F j y [vs[j], ws[j]] nd ea (tupsZ_at (List.getElem?_eq_getElem j1) (List.getElem?_eq_getElem j2))
      exact .tup ⟨_, ht, by rw [hos y]; exact ⟨rfl, rfl⟩⟩ (.cons (rx.mono s) (.cons (rz.mono s) .nil))
theorem px_listZip (hc : X.calm = true) (hm : X.mg "list" = none) (hm2 : X.mg "zip" = none) (ha : PXA X G [e, e2] ds) (hg : Gl X "list" := by rfl) (hg2 : Gl X "zip" := by rfl)
    (hs : starEach [e, e2] X.env = (false, eval e X.env) :: starEach [e2] X.env := by rfl) (hpl : (backTo p2 (starEach [e2] X.env)).any (·.1) = false := by rfl)
    (nc : starEach [.Call (.Name "zip" p1) [e, e2] [] p2] X.env = (false, eval (.Call (.Name "zip" p1) [e, e2] [] p2) X.env) :: starEach [] X.env := by rfl) :
    PX X G (.Call (.Name "list" p) [.Call (.Name "zip" p1) [e, e2] [] p2] [] pos) (dCB zipLW ds) := by
  refine pe_imp (pe_listZip hc hg hm hg2 hm2 ha hs hpl nc) ?_
  rintro σ H Q ⟨F, R, η, M, q, hG, A, E, h, c⟩
  refine la_bind hG A E h fun ls M1 vs H1 F1 g1 s1 A1 E1 r1 h1 => ?_
  obtain ⟨xs, ys, hl, h1⟩ := h1
  have fin : ∀ (v1 v2 : V) (a b : Addr) (us ws : List V), vs = [v1, v2] → v1 = .ref a → v2 = .ref b → ((SqL X.K H1 a us ∧ SqL X.K H1 b ws) ∨ (SqT X.K H1 a us ∧ SqT X.K H1 b ws)) → RpA X.K F1 us xs → RpA X.K F1 ws ys → ∃ a b xs ys, vs = [.ref a, .ref b] ∧ ((SqL X.K H1 a xs ∧ SqL X.K H1 b ys) ∨ (SqT X.K H1 a xs ∧ SqT X.K H1 b ys)) ∧ NewPairs H1 xs ys Q := by
    rintro _ _ a b us ws rfl rfl rfl hq ra rb
    refine ⟨a, b, us, ws, rfl, hq, fun as q0 os hos nd hl hf hq0 hqa => ?_⟩
    obtain ⟨A2, s2⟩ := abs_tups (os := os) as (tupsZ us ws) F1 H1 A1 nd hf
    exact (c.mono (s1.trans s2)).lst A2 (by rw [updT_other _ _ _ _ hqa]; exact hq0) (rpa_pairs hos nd hl s2 ra rb) h1
  rcases hl with rfl | rfl
  · obtain ⟨v, w, rfl, ra, rb⟩ := lrs2 r1
    obtain ⟨a, us, e1, sa, ra⟩ := rd_list A1 ra rfl
    obtain ⟨b, ws, e2, sb, rb⟩ := rd_list A1 rb rfl
    exact fin v w a b us ws rfl e1 e2 (.inl ⟨sa.l, sb.l⟩) ra rb
  · obtain ⟨v, w, rfl, ra, rb⟩ := lrs2 r1
    obtain ⟨a, us, e1, sa, ra⟩ := rd_tuple A1 ra rfl
    obtain ⟨b, ws, e2, sb, rb⟩ := rd_tuple A1 rb rfl
    exact fin v w a b us ws rfl e1 e2 (.inr ⟨sa, sb⟩) ra rb
end
end DL
end
section
set_option maxHeartbeats 2000000
/-! for a, b in zip(x, y): of two lists, of two tuples -/
namespace DL
open PySem PySem.Spec PyProof.Rows L2
theorem nadd_ne (N : Nat) {i j : Nat} (h : i ≠ j) : N + i ≠ N + j := by omega
theorem nadd_ne0 (N : Nat) {i : Nat} (h : 0 < i) : N + i ≠ N := by omega
theorem nadd_le (N : Nat) {i j : Nat} (h : i ≤ j) : N + i ≤ N + j := by omega

/-- the two at a and b, side by side, in a new pair -/
def IteZT (K : PySem.W.Frag) (a b : Addr) : It where
  go := fun i H => ∃ (xs ys : List V) (x y : V), SqT K H a xs ∧ SqT K H b ys ∧ xs[i]? = some x ∧ ys[i]? = some y
  yld := fun i H v H' => ∃ T x y o, v = .ref T ∧ PlT o ∧ H T = none ∧ H' = upd H T (.frz o (.tup [x, y])) ∧ ∀ xs ys, SqT K H a xs → SqT K H b ys → xs[i]? = some x ∧ ys[i]? = some y
  stop := fun i H => ∃ xs ys : List V, SqT K H a xs ∧ SqT K H b ys ∧ min xs.length ys.length = i
theorem zipT_turn {P : Program} {w : World} {K : PySem.W.Frag} {elts : List Expr} {kk : Nat} {tpos : Pos} (a b N : Addr) (ha : a < N) (hb : b < N) :
    Turn P w K (.Tuple elts kk tpos) (IteZT K a b) [N + 4, N + 2, N + 3, N, N + 1] (N + 4) (fun i h => IsZip h (N + 4) (N + 2) (N + 3) .none ∧ IsTupOf2 h (N + 2) (.ref N) (.ref (N + 1)) ∧ (∃ a1 a2, IsTupOf2 h (N + 3) a1 a2) ∧ h.IsTupleIter N a i ∧ h.IsTupleIter (N + 1) b i) where
  mem := List.mem_cons_self
  obj := by
    rintro i h ⟨hz, hTI, ⟨a1, a2, hTO⟩, s1, s2⟩ c hc
    simp only [List.mem_cons, List.not_mem_nil, or_false] at hc
    rcases hc with rfl | rfl | rfl | rfl | rfl
    · exact ⟨_, hz, fun v q => nomatch q⟩
    · exact ⟨_, hTI, fun v q => nomatch q⟩
    · exact ⟨_, hTO, fun v q => nomatch q⟩
    · obtain ⟨o, ho, hc, hd⟩ := s1
      exact ⟨o, ho, fun v q => by rw [hd] at q; cases q⟩
    · obtain ⟨o, ho, hc, hd⟩ := s2
      exact ⟨o, ho, fun v q => by rw [hd] at q; cases q⟩
  keep := by
    rintro i h h' ⟨hz, hTI, ⟨a1, a2, hTO⟩, s1, s2⟩ k
    exact ⟨k _ (by simp) _ hz, k _ (by simp) _ hTI, ⟨a1, a2, k _ (by simp) _ hTO⟩, s1.at fun o q => k _ (by simp) o q, s2.at fun o q => k _ (by simp) o q⟩
  item := by
    intro X hP hw hK hc i pins s σ H E I hf st hg
    subst hP hw hK
    obtain ⟨hz, hTI, ⟨a1, a2, hTO⟩, st1, st2⟩ := st
    obtain ⟨xs, ys, x, y, hq1, hq2, hx, hy⟩ := hg
    obtain ⟨its1, rv1, p1, hz1⟩ := I.tuple hq1
    obtain ⟨its2, rv2, p2, hz2⟩ := I.tuple hq2
    have lt1 : i < its1.toArray.size := by
      have h1 := (List.getElem?_eq_some_iff.mp hx).1
      have h2 := rv1.length
      rw [List.size_toArray]
      omega
    have lt2 : i < its2.toArray.size := by
      have h1 := (List.getElem?_eq_some_iff.mp hy).1
      have h2 := rv2.length
      rw [List.size_toArray]
      omega
    have hzl : N + 4 < s.heap.objs.size := Heap.lt_size hz
    have D1 := Draws.tuple (prog := X.prog) (w := X.w) (A := X.A.in1) (I.ok.hd hc) N a (Nat.ne_of_lt ha) its1.toArray
    have D2 := Draws.tuple (prog := X.prog) (w := X.w) (A := X.A.in1) (I.ok.hd hc) (N + 1) b (Nat.ne_of_lt (Nat.lt_succ_of_lt hb)) its2.toArray
    have S : ZipSep2 (N + 4) (N + 2) (N + 3) N (N + 1) (N :: [a]) ((N + 1) :: [b]) := zip_sep2 (fun c hc => by rw [List.mem_singleton.mp hc]; exact ha) fun c hc => by rw [List.mem_singleton.mp hc]; exact hb
    refine wpAny_pyNext_zipD2_item S D1 D2 hz hTI hTO ⟨st1, p1⟩ ⟨st2, p2⟩ lt1 lt2 fun u1 u2 h' tk hP1 hP2 hz' hTO' st1' st2' hT hsz hk => ?_
    obtain ⟨y1, hy1, ry1⟩ : ∃ y, xs[i]? = some y ∧ RelV y u1 := by
      obtain ⟨u', hu', ru'⟩ := rv1.get hx
      have hP' : its1[i]? = some u1 := by simpa using hP1
      rw [hu'] at hP'
      cases hP'
      exact ⟨x, hx, ru'⟩
    obtain ⟨y2, hy2, ry2⟩ : ∃ y, ys[i]? = some y ∧ RelV y u2 := by
      obtain ⟨u', hu', ru'⟩ := rv2.get hy
      have hP' : its2[i]? = some u2 := by simpa using hP2
      rw [hu'] at hP'
      cases hP'
      exact ⟨y, hy, ru'⟩
    refine ⟨_, rfl, wpAny_letOwnedTupleGo_zip (s := { s with heap := h', toks := tk }) hz' fun h'' hz'' sb => ?_⟩
    have hT2 : h''.get? s.heap.objs.size = some { cls := .type "tuple", data := .seq #[u1, u2] } := (sb.2 _ (Nat.ne_of_gt hzl)).trans hT
    let po : Obj := { cls := .type "tuple", data := .seq #[u1, u2] }
    have new : ObjOk X.prog X.w (upd H s.heap.objs.size (.frz po (.tup [y1, y2]))) h'' s.heap.objs.size (.frz po (.tup [y1, y2])) :=
      ⟨hT2, by show 2 ≤ sizeLine; decide, [u1, u2], .cons ry1 (.cons ry2 .nil), ⟨_, hT2, rfl, _, rfl⟩⟩
    have hf4 : ∀ c ∈ [N + 4, N + 3, N, N + 1], FpOk X pins H c := fun c hc => hf c (by
      simp only [List.mem_cons, List.not_mem_nil, or_false] at hc ⊢
      rcases hc with rfl | rfl | rfl | rfl <;> simp)
    have kk : ∀ c o, c ∉ [N + 4, N + 3, N, N + 1] → s.heap.get? c = some o → h''.get? c = some o := fun c o hc e => by
      simp only [List.mem_cons, List.not_mem_nil, or_false, not_or] at hc
      exact (sb.2 c hc.1).trans (hk c o hc.1 hc.2.1 hc.2.2.1 hc.2.2.2 e)
    have I1 : L2.Inv X pins σ (upd H s.heap.objs.size (.frz po (.tup [y1, y2]))) { s with heap := h'', toks := tk } := I.turnedNew (ch := [N + 4, N + 3, N, N + 1]) kk hf4 (Nat.le_refl _) new
    have sm : ∀ c o, c ≠ N + 4 → h'.get? c = some o → h''.get? c = some o := fun c o hc e => (sb.2 c hc).trans e
    have n1 : ∀ j : Nat, j < 4 → (N + j : Nat) ≠ N + 4 := fun j hj => nadd_ne N (Nat.ne_of_lt hj)
    refine ⟨.ref s.heap.objs.size, _, I1, rfl, ⟨_, y1, y2, po, rfl, ⟨rfl, rfl⟩, I.fresh, rfl, fun zs ws h1 h2 => by rw [I.tuple_inj h1 hq1, I.tuple_inj h2 hq2]; exact ⟨hy1, hy2⟩⟩, ⟨hz'', kk _ _ ?_ hTI, ⟨_, _, sm _ _ (n1 3 (by decide)) hTO'⟩, st1'.1.at fun o q => sm _ _ (n1 0 (by decide)) q, st2'.1.at fun o q => sm _ _ (n1 1 (by decide)) q⟩, fun c hc => ?_⟩
    · have e1 : (N + 2 : Nat) ≠ N + 4 := n1 2 (by decide)
      have e2 : (N + 2 : Nat) ≠ N + 3 := nadd_ne N (by decide)
      have e3 : (N + 2 : Nat) ≠ N := nadd_ne0 N (by decide)
      have e4 : (N + 2 : Nat) ≠ N + 1 := nadd_ne N (by decide)
      simp only [List.mem_cons, List.not_mem_nil, or_false, not_or]
      exact ⟨e1, e2, e3, e4⟩
    · have hc' : c < s.heap.objs.size := by
        have : c ≤ N + 4 := by
          simp only [List.mem_cons, List.not_mem_nil, or_false] at hc
          rcases hc with e | e | e | e | e <;> rw [e]
          · exact Nat.le_refl _
          · exact nadd_le N (by decide)
          · exact nadd_le N (by decide)
          · exact Nat.le_add_right N 4
          · exact nadd_le N (by decide)
        exact Nat.lt_of_le_of_lt this hzl
      rw [upd_ne (Nat.ne_of_lt hc')]
      exact (hf c hc).1
  done := by
    intro X hP hw hK hc i pins s σ H E I hf st hg
    subst hP hw hK
    obtain ⟨hz, hTI, ⟨a1, a2, hTO⟩, st1, st2⟩ := st
    obtain ⟨xs, ys, hq1, hq2, hm⟩ := hg
    obtain ⟨its1, rv1, p1, hz1⟩ := I.tuple hq1
    obtain ⟨its2, rv2, p2, hz2⟩ := I.tuple hq2
    have l1 : its1.toArray.size = xs.length := by rw [List.size_toArray]; exact rv1.length.symm
    have l2 : its2.toArray.size = ys.length := by rw [List.size_toArray]; exact rv2.length.symm
    have D1 := Draws.tuple (prog := X.prog) (w := X.w) (A := X.A.in1) (I.ok.hd hc) N a (Nat.ne_of_lt ha) its1.toArray
    have D2 := Draws.tuple (prog := X.prog) (w := X.w) (A := X.A.in1) (I.ok.hd hc) (N + 1) b (Nat.ne_of_lt (Nat.lt_succ_of_lt hb)) its2.toArray
    have S : ZipSep2 (N + 4) (N + 2) (N + 3) N (N + 1) (N :: [a]) ((N + 1) :: [b]) := zip_sep2 (fun c hc => by rw [List.mem_singleton.mp hc]; exact ha) fun c hc => by rw [List.mem_singleton.mp hc]; exact hb
    refine wpAny_pyNext_zipD2_end S D1 D2 hz hTI hTO ⟨st1, p1⟩ ⟨st2, p2⟩ (by rw [l1]; omega) (by rw [l2]; omega) (by rw [l1, l2]; omega) fun h' tk hk => ⟨rfl, ?_⟩
    have hf4 : ∀ c ∈ [N + 4, N + 3, N, N + 1], FpOk X pins H c := fun c hc => hf c (by
      simp only [List.mem_cons, List.not_mem_nil, or_false] at hc ⊢
      rcases hc with rfl | rfl | rfl | rfl <;> simp)
    refine I.turnedL (ch := [N + 4, N + 3, N, N + 1]) (fun c o hc e => ?_) hf4
    simp only [List.mem_cons, List.not_mem_nil, or_false, not_or] at hc
    exact hk c o hc.1 hc.2.1 hc.2.2.1 hc.2.2.2 e
  self := fun A i s Q E st h => wpAny_pyIter_zip st.1 h
theorem jd_zipT {K : PySem.W.Frag} {F0 : Hp} {a b : Addr} {vs ws : List V} {xs ys : List PyData} (h : SqT K F0 a vs) (h2 : SqT K F0 b ws) (r : RpA K F0 vs xs) (r2 : RpA K F0 ws ys) : JD K F0 (IteZT K a b) (zipD xs ys) := by
  have hlen : (zipD xs ys).length = min vs.length ws.length := by unfold zipD; rw [List.length_zipWith, r.length, r2.length]
  refine ⟨fun F R M H s A => ⟨vs, ws, sqT_same (s.trans A.fz) h, sqT_same (s.trans A.fz) h2, hlen.symm⟩, fun F R M H i s A hi => ?_, fun F R M H i x H' d s A hd hy => ?_⟩
  · have h1 : i < vs.length := by omega
    have h3 : i < ws.length := by omega
    exact ⟨vs, ws, vs[i], ws[i], sqT_same (s.trans A.fz) h, sqT_same (s.trans A.fz) h2, List.getElem?_eq_getElem h1, List.getElem?_eq_getElem h3⟩
  · obtain ⟨T, y, z, o, rfl, ho, hT, rfl, hy⟩ := hy
    obtain ⟨e1, e2⟩ := hy vs ws (sqT_same (s.trans A.fz) h) (sqT_same (s.trans A.fz) h2)
    obtain ⟨d1, hd1, q1⟩ := r.getV e1
    obtain ⟨d2, hd2, q2⟩ := r2.getV e2
    unfold zipD at hd
    rw [List.getElem?_zipWith, hd1, hd2] at hd
    cases hd
    have s2 := same_new (o := .frz o (.tup [y, z])) (A.freeF hT)
    exact ⟨_, s2, A.frz hT, .tup ⟨o, upd_same, ho⟩ (.cons ((q1.mono s).mono s2) (.cons ((q2.mono s).mono s2) .nil))⟩

/-- the two at a and b, side by side, in a new pair -/
def IteZL (K : PySem.W.Frag) (a b : Addr) : It where
  go := fun i H => ∃ (xs ys : List V) (x y : V), SqL K H a xs ∧ SqL K H b ys ∧ xs[i]? = some x ∧ ys[i]? = some y
  yld := fun i H v H' => ∃ T x y o, v = .ref T ∧ PlT o ∧ H T = none ∧ H' = upd H T (.frz o (.tup [x, y])) ∧ ∀ xs ys, SqL K H a xs → SqL K H b ys → xs[i]? = some x ∧ ys[i]? = some y
  stop := fun i H => ∃ xs ys : List V, SqL K H a xs ∧ SqL K H b ys ∧ min xs.length ys.length = i
theorem zipL_turn {P : Program} {w : World} {K : PySem.W.Frag} {elts : List Expr} {kk : Nat} {tpos : Pos} (a b N : Addr) (ha : a < N) (hb : b < N) :
    Turn P w K (.Tuple elts kk tpos) (IteZL K a b) [N + 4, N + 2, N + 3, N, N + 1] (N + 4) (fun i h => IsZip h (N + 4) (N + 2) (N + 3) .none ∧ IsTupOf2 h (N + 2) (.ref N) (.ref (N + 1)) ∧ (∃ a1 a2, IsTupOf2 h (N + 3) a1 a2) ∧ h.IsListIter N a i ∧ h.IsListIter (N + 1) b i) where
  mem := List.mem_cons_self
  obj := by
    rintro i h ⟨hz, hTI, ⟨a1, a2, hTO⟩, s1, s2⟩ c hc
    simp only [List.mem_cons, List.not_mem_nil, or_false] at hc
    rcases hc with rfl | rfl | rfl | rfl | rfl
    · exact ⟨_, hz, fun v q => nomatch q⟩
    · exact ⟨_, hTI, fun v q => nomatch q⟩
    · exact ⟨_, hTO, fun v q => nomatch q⟩
    · obtain ⟨o, ho, hc, hd⟩ := s1
      exact ⟨o, ho, fun v q => by rw [hd] at q; cases q⟩
    · obtain ⟨o, ho, hc, hd⟩ := s2
      exact ⟨o, ho, fun v q => by rw [hd] at q; cases q⟩
  keep := by
    rintro i h h' ⟨hz, hTI, ⟨a1, a2, hTO⟩, s1, s2⟩ k
    exact ⟨k _ (by simp) _ hz, k _ (by simp) _ hTI, ⟨a1, a2, k _ (by simp) _ hTO⟩, s1.at fun o q => k _ (by simp) o q, s2.at fun o q => k _ (by simp) o q⟩
  item := by
    intro X hP hw hK hc i pins s σ H E I hf st hg
    subst hP hw hK
    obtain ⟨hz, hTI, ⟨a1, a2, hTO⟩, st1, st2⟩ := st
    obtain ⟨xs, ys, x, y, hq1, hq2, hx, hy⟩ := hg
    obtain ⟨its1, rv1, p1, hz1⟩ := I.list hq1
    obtain ⟨its2, rv2, p2, hz2⟩ := I.list hq2
    have lt1 : i < its1.toArray.size := by
      have h1 := (List.getElem?_eq_some_iff.mp hx).1
      have h2 := rv1.length
      rw [List.size_toArray]
      omega
    have lt2 : i < its2.toArray.size := by
      have h1 := (List.getElem?_eq_some_iff.mp hy).1
      have h2 := rv2.length
      rw [List.size_toArray]
      omega
    have hzl : N + 4 < s.heap.objs.size := Heap.lt_size hz
    have D1 := Draws.list (prog := X.prog) (w := X.w) (A := X.A.in1) (I.ok.hd hc) N a (Nat.ne_of_lt ha) its1.toArray
    have D2 := Draws.list (prog := X.prog) (w := X.w) (A := X.A.in1) (I.ok.hd hc) (N + 1) b (Nat.ne_of_lt (Nat.lt_succ_of_lt hb)) its2.toArray
    have S : ZipSep2 (N + 4) (N + 2) (N + 3) N (N + 1) (N :: [a]) ((N + 1) :: [b]) := zip_sep2 (fun c hc => by rw [List.mem_singleton.mp hc]; exact ha) fun c hc => by rw [List.mem_singleton.mp hc]; exact hb
    refine wpAny_pyNext_zipD2_item S D1 D2 hz hTI hTO ⟨st1, p1.isList⟩ ⟨st2, p2.isList⟩ lt1 lt2 fun u1 u2 h' tk hP1 hP2 hz' hTO' st1' st2' hT hsz hk => ?_
    obtain ⟨y1, hy1, ry1⟩ : ∃ y, xs[i]? = some y ∧ RelV y u1 := by
      obtain ⟨u', hu', ru'⟩ := rv1.get hx
      have hP' : its1[i]? = some u1 := by simpa using hP1
      rw [hu'] at hP'
      cases hP'
      exact ⟨x, hx, ru'⟩
    obtain ⟨y2, hy2, ry2⟩ : ∃ y, ys[i]? = some y ∧ RelV y u2 := by
      obtain ⟨u', hu', ru'⟩ := rv2.get hy
      have hP' : its2[i]? = some u2 := by simpa using hP2
      rw [hu'] at hP'
      cases hP'
      exact ⟨y, hy, ru'⟩
    refine ⟨_, rfl, wpAny_letOwnedTupleGo_zip (s := { s with heap := h', toks := tk }) hz' fun h'' hz'' sb => ?_⟩
    have hT2 : h''.get? s.heap.objs.size = some { cls := .type "tuple", data := .seq #[u1, u2] } := (sb.2 _ (Nat.ne_of_gt hzl)).trans hT
    let po : Obj := { cls := .type "tuple", data := .seq #[u1, u2] }
    have new : ObjOk X.prog X.w (upd H s.heap.objs.size (.frz po (.tup [y1, y2]))) h'' s.heap.objs.size (.frz po (.tup [y1, y2])) :=
      ⟨hT2, by show 2 ≤ sizeLine; decide, [u1, u2], .cons ry1 (.cons ry2 .nil), ⟨_, hT2, rfl, _, rfl⟩⟩
    have hf4 : ∀ c ∈ [N + 4, N + 3, N, N + 1], FpOk X pins H c := fun c hc => hf c (by
      simp only [List.mem_cons, List.not_mem_nil, or_false] at hc ⊢
      rcases hc with rfl | rfl | rfl | rfl <;> simp)
    have kk : ∀ c o, c ∉ [N + 4, N + 3, N, N + 1] → s.heap.get? c = some o → h''.get? c = some o := fun c o hc e => by
      simp only [List.mem_cons, List.not_mem_nil, or_false, not_or] at hc
      exact (sb.2 c hc.1).trans (hk c o hc.1 hc.2.1 hc.2.2.1 hc.2.2.2 e)
    have I1 : L2.Inv X pins σ (upd H s.heap.objs.size (.frz po (.tup [y1, y2]))) { s with heap := h'', toks := tk } := I.turnedNew (ch := [N + 4, N + 3, N, N + 1]) kk hf4 (Nat.le_refl _) new
    have sm : ∀ c o, c ≠ N + 4 → h'.get? c = some o → h''.get? c = some o := fun c o hc e => (sb.2 c hc).trans e
    have n1 : ∀ j : Nat, j < 4 → (N + j : Nat) ≠ N + 4 := fun j hj => nadd_ne N (Nat.ne_of_lt hj)
    refine ⟨.ref s.heap.objs.size, _, I1, rfl, ⟨_, y1, y2, po, rfl, ⟨rfl, rfl⟩, I.fresh, rfl, fun zs ws h1 h2 => by rw [I.list_inj h1 hq1, I.list_inj h2 hq2]; exact ⟨hy1, hy2⟩⟩, ⟨hz'', kk _ _ ?_ hTI, ⟨_, _, sm _ _ (n1 3 (by decide)) hTO'⟩, st1'.1.at fun o q => sm _ _ (n1 0 (by decide)) q, st2'.1.at fun o q => sm _ _ (n1 1 (by decide)) q⟩, fun c hc => ?_⟩
    · have e1 : (N + 2 : Nat) ≠ N + 4 := n1 2 (by decide)
      have e2 : (N + 2 : Nat) ≠ N + 3 := nadd_ne N (by decide)
      have e3 : (N + 2 : Nat) ≠ N := nadd_ne0 N (by decide)
      have e4 : (N + 2 : Nat) ≠ N + 1 := nadd_ne N (by decide)
      simp only [List.mem_cons, List.not_mem_nil, or_false, not_or]
      exact ⟨e1, e2, e3, e4⟩
    · have hc' : c < s.heap.objs.size := by
        have : c ≤ N + 4 := by
          simp only [List.mem_cons, List.not_mem_nil, or_false] at hc
          rcases hc with e | e | e | e | e <;> rw [e]
          · exact Nat.le_refl _
          · exact nadd_le N (by decide)
          · exact nadd_le N (by decide)
          · exact Nat.le_add_right N 4
          · exact nadd_le N (by decide)
        exact Nat.lt_of_le_of_lt this hzl
      rw [upd_ne (Nat.ne_of_lt hc')]
      exact (hf c hc).1
  done := by
    intro X hP hw hK hc i pins s σ H E I hf st hg
    subst hP hw hK
    obtain ⟨hz, hTI, ⟨a1, a2, hTO⟩, st1, st2⟩ := st
    obtain ⟨xs, ys, hq1, hq2, hm⟩ := hg
    obtain ⟨its1, rv1, p1, hz1⟩ := I.list hq1
    obtain ⟨its2, rv2, p2, hz2⟩ := I.list hq2
    have l1 : its1.toArray.size = xs.length := by rw [List.size_toArray]; exact rv1.length.symm
    have l2 : its2.toArray.size = ys.length := by rw [List.size_toArray]; exact rv2.length.symm
    have D1 := Draws.list (prog := X.prog) (w := X.w) (A := X.A.in1) (I.ok.hd hc) N a (Nat.ne_of_lt ha) its1.toArray
    have D2 := Draws.list (prog := X.prog) (w := X.w) (A := X.A.in1) (I.ok.hd hc) (N + 1) b (Nat.ne_of_lt (Nat.lt_succ_of_lt hb)) its2.toArray
    have S : ZipSep2 (N + 4) (N + 2) (N + 3) N (N + 1) (N :: [a]) ((N + 1) :: [b]) := zip_sep2 (fun c hc => by rw [List.mem_singleton.mp hc]; exact ha) fun c hc => by rw [List.mem_singleton.mp hc]; exact hb
    refine wpAny_pyNext_zipD2_end S D1 D2 hz hTI hTO ⟨st1, p1.isList⟩ ⟨st2, p2.isList⟩ (by rw [l1]; omega) (by rw [l2]; omega) (by rw [l1, l2]; omega) fun h' tk hk => ⟨rfl, ?_⟩
    have hf4 : ∀ c ∈ [N + 4, N + 3, N, N + 1], FpOk X pins H c := fun c hc => hf c (by
      simp only [List.mem_cons, List.not_mem_nil, or_false] at hc ⊢
      rcases hc with rfl | rfl | rfl | rfl <;> simp)
    refine I.turnedL (ch := [N + 4, N + 3, N, N + 1]) (fun c o hc e => ?_) hf4
    simp only [List.mem_cons, List.not_mem_nil, or_false, not_or] at hc
    exact hk c o hc.1 hc.2.1 hc.2.2.1 hc.2.2.2 e
  self := fun A i s Q E st h => wpAny_pyIter_zip st.1 h
theorem jd_zipL {K : PySem.W.Frag} {F0 : Hp} {a b : Addr} {vs ws : List V} {xs ys : List PyData} (h : SqM K F0 a vs) (h2 : SqM K F0 b ws) (r : RpA K F0 vs xs) (r2 : RpA K F0 ws ys) : JD K F0 (IteZL K a b) (zipD xs ys) := by
  have hlen : (zipD xs ys).length = min vs.length ws.length := by unfold zipD; rw [List.length_zipWith, r.length, r2.length]
  refine ⟨fun F R M H s A => ⟨vs, ws, (sqM_same (s.trans A.fz) h).l, (sqM_same (s.trans A.fz) h2).l, hlen.symm⟩, fun F R M H i s A hi => ?_, fun F R M H i x H' d s A hd hy => ?_⟩
  · have h1 : i < vs.length := by omega
    have h3 : i < ws.length := by omega
    exact ⟨vs, ws, vs[i], ws[i], (sqM_same (s.trans A.fz) h).l, (sqM_same (s.trans A.fz) h2).l, List.getElem?_eq_getElem h1, List.getElem?_eq_getElem h3⟩
  · obtain ⟨T, y, z, o, rfl, ho, hT, rfl, hy⟩ := hy
    obtain ⟨e1, e2⟩ := hy vs ws ((sqM_same (s.trans A.fz) h).l) ((sqM_same (s.trans A.fz) h2).l)
    obtain ⟨d1, hd1, q1⟩ := r.getV e1
    obtain ⟨d2, hd2, q2⟩ := r2.getV e2
    unfold zipD at hd
    rw [List.getElem?_zipWith, hd1, hd2] at hd
    cases hd
    have s2 := same_new (o := .frz o (.tup [y, z])) (A.freeF hT)
    exact ⟨_, s2, A.frz hT, .tup ⟨o, upd_same, ho⟩ (.cons ((q1.mono s).mono s2) (.cons ((q2.mono s).mono s2) .nil))⟩

def iZp (dd : DA) : DI := fun η M q => dd η M fun ls M1 => match ls with
  | [.d (.list xs), .d (.list ys)] => q (zipD xs ys) M1
  | [.d (.tuple xs), .d (.tuple ys)] => q (zipD xs ys) M1
  | _ => False
section
variable {X : Cx} {G : GH} {e e2 : Expr} {dd : DA} {p pos : Pos}
theorem pxi_zip {elts : List Expr} {kk : Nat} {tpos : Pos} (hc : X.calm = true) (hm : X.mg "zip" = none) (ha : PXA X G [e, e2] dd) (hg : Gl X "zip" := by rfl)
    (hs : starEach [e, e2] X.env = (false, eval e X.env) :: starEach [e2] X.env := by rfl) (hpl : (backTo pos (starEach [e2] X.env)).any (·.1) = false := by rfl) :
    PXI X G (.Tuple elts kk tpos) (.Call (.Name "zip" p) [e, e2] [] pos) (iZp dd) := by
  refine ⟨fun pins s σ H R I hw => ?_⟩
  obtain ⟨F, Ra, η, M, q, hG, A, E, hw, k⟩ := hw
  have step := ha.run pos pins s σ H (fun vs H' => ∃ v w xs ys l m M' F', vs = [v, w] ∧ q (zipD xs ys) M' ∧ ((l = .d (.list xs) ∧ m = .d (.list ys)) ∨ (l = .d (.tuple xs) ∧ m = .d (.tuple ys))) ∧ LR X.K F' v l ∧ LR X.K F' w m ∧ Abs X.K F' Ra M' H' ∧ Same F F') I
    ⟨F, Ra, η, M, _, hG, A, E, hw, fun ls M' vs H' F' s' A' r' h' => by
      match ls, r', h' with
      | [.d (.list xs), .d (.list ys)], r', h' =>
        obtain ⟨v, w, e, r1, r2⟩ := lrs2 r'
        exact ⟨v, w, xs, ys, _, _, M', F', e, h', .inl ⟨rfl, rfl⟩, r1, r2, A', s'⟩
      | [.d (.tuple xs), .d (.tuple ys)], r', h' =>
        obtain ⟨v, w, e, r1, r2⟩ := lrs2 r'
        exact ⟨v, w, xs, ys, _, _, M', F', e, h', .inr ⟨rfl, rfl⟩, r1, r2, A', s'⟩⟩
  refine Call_ (ld_blt I hg hm PyProof.Rows.boot_zip (PyProof.Rows.callWith_type1 (thn step ?_) hs hpl))
  rintro us s1 ⟨vs, H1, I1, r1, v, w, xs, ys, l, m, M1, F1, rfl, q1, hl, rl, rm, A1, sm⟩
  cases r1 with
  | cons ru rr =>
  obtain ⟨u2, rfl, ru2⟩ := Vals.one rr
  have fp : ∀ b ∈ [s1.heap.objs.size + 4, s1.heap.objs.size + 2, s1.heap.objs.size + 3, s1.heap.objs.size, s1.heap.objs.size + 1], FpOk X pins H1 b := by
    intro b hb
    have hle : s1.heap.objs.size ≤ b := by
      simp only [List.mem_cons, List.not_mem_nil, or_false] at hb
      rcases hb with rfl | rfl | rfl | rfl | rfl
      · exact Nat.le_add_right _ 4
      · exact Nat.le_add_right _ 2
      · exact Nat.le_add_right _ 3
      · exact Nat.le_refl _
      · exact Nat.le_add_right _ 1
    exact I1.fpOk hle (I1.hok.fresh hle)
  rcases hl with ⟨rfl, rfl⟩ | ⟨rfl, rfl⟩
  · cases rl with
    | lst hs1 ha1 =>
      cases rm with
      | lst hs2 ha2 =>
        cases ru
        cases ru2
        obtain ⟨its1, rv1, p1, _⟩ := I1.list (sqM_same A1.fz hs1).l
        obtain ⟨its2, rv2, p2, _⟩ := I1.list (sqM_same A1.fz hs2).l
        have t1 := (show Heap.IsList _ _ _ from p1.isList).elim fun _ z => Heap.lt_size z.1
        have t2 := (show Heap.IsList _ _ _ from p2.isList).elim fun _ z => Heap.lt_size z.1
        refine zip_begins2 (begins_list _ its1.toArray) (begins_list _ its2.toArray) p1.isList p2.isList fun h' hz hTI hTO g1 g2 hsz hk => ?_
        refine wpAny_pyIter_zip hz ?_
        exact ⟨s1.heap.objs.size + 4, _, _, _, H1, rfl, I1.kept (t' := s1.toks) hk, zipL_turn _ _ s1.heap.objs.size t1 t2, ⟨hz, hTI, ⟨_, _, hTO⟩, ⟨_, g1, rfl, rfl⟩, ⟨_, g2, rfl, rfl⟩⟩, fp, k _ M1 _ H1 F1 sm A1 (jd_zipL hs1 hs2 ha1 ha2) q1⟩
  · cases rl with
    | tup hs1 ha1 =>
      cases rm with
      | tup hs2 ha2 =>
        cases ru
        cases ru2
        obtain ⟨its1, rv1, p1, _⟩ := I1.tuple (sqT_same A1.fz hs1.sq)
        obtain ⟨its2, rv2, p2, _⟩ := I1.tuple (sqT_same A1.fz hs2.sq)
        refine zip_begins2 (begins_tuple _ its1.toArray) (begins_tuple _ its2.toArray) p1 p2 fun h' hz hTI hTO g1 g2 hsz hk => ?_
        refine wpAny_pyIter_zip hz ?_
        exact ⟨s1.heap.objs.size + 4, _, _, _, H1, rfl, I1.kept (t' := s1.toks) hk, zipT_turn _ _ s1.heap.objs.size p1.lt p2.lt, ⟨hz, hTI, ⟨_, _, hTO⟩, ⟨_, g1, rfl, rfl⟩, ⟨_, g2, rfl, rfl⟩⟩, fp, k _ M1 _ H1 F1 sm A1 (jd_zipT hs1.sq hs2.sq ha1 ha2) q1⟩
end
end DL
end
section
set_option maxHeartbeats 3200000
/-! len(set(x)), x a tuple of texts and ints -/
namespace L2
open PySem PySem.Spec PyProof.Rows
/-- so many unlike ones -/
def IsCntK (ks : List Leaf) (c : Nat) : Prop := ∃ ms : List Leaf, ms.Nodup ∧ (∀ k, k ∈ ms ↔ k ∈ ks) ∧ ms.length = c
theorem cntK_next {ks : List Leaf} {i c : Nat} {k : Leaf} (h : IsCntK (ks.take i) c) (hk : ks[i]? = some k) : IsCntK (ks.take (i + 1)) (if decide (k ∈ ks.take i) = true then c else c + 1) := by
  obtain ⟨ms, nd, hm, hl⟩ := h
  have e : ks.take (i + 1) = ks.take i ++ [k] := by rw [List.take_add_one, hk]; rfl
  rw [e]
  by_cases hin : k ∈ ks.take i
  · rw [if_pos (decide_eq_true hin)]
    refine ⟨ms, nd, fun j => ?_, hl⟩
    rw [hm j, List.mem_append, List.mem_singleton]
    exact ⟨.inl, fun h => h.elim id fun e => by rw [e]; exact hin⟩
  · rw [if_neg (by rw [decide_eq_false hin]; exact Bool.false_ne_true)]
    refine ⟨ms ++ [k], ?_, fun j => ?_, by rw [List.length_append, hl]; rfl⟩
    · refine List.nodup_append.mpr ⟨nd, by simp, fun y hy z hz eyz => hin ?_⟩
      rw [List.mem_singleton] at hz
      rw [← hz, ← eyz]
      exact (hm y).mp hy
    · rw [List.mem_append, List.mem_append, hm j]
section
variable {P : Program} {w : World} {A : Around} {E : Value → Shared → Prop} {s : Shared}
theorem set_update_leaves {I : Addr} {fp wr : List Addr} {G : Array GenState → Array GenState → Prop} {n : Nat} {Pv : Nat → Value → Prop} {St : Nat → Shared → Prop} {R : Result → Shared → Prop}
    (W : WalksS P w A.in1 I fp wr G n Pv St) (S : Addr) (away : S ∉ fp) (ks : List Leaf) (hn : n = ks.length) (few : ks.length + 1 < scanBound) (val : ∀ i v, Pv i v → ∃ k, ks[i]? = some k ∧ (leafKind P w).is k v = true ∧ v.scannable = true) :
    ∀ (left i : Nat) (s : Shared), n - i = left → i ≤ n → St i s → (∃ c, c ≤ i ∧ IsCntK (ks.take i) c ∧ s.heap.SetOf (leafKind P w) S (fun j => decide (j ∈ ks.take i)) c) →
      (∀ s' c, Moved (S :: wr) G s s' → IsCntK ks c → (∃ T, s'.heap.SetOf (leafKind P w) S T c) → R (.ok (.ret .none)) s') →
      codeAny (model P w) A (.builtin "set.update.loop" ⟨[.ref S, .ref I], []⟩) R s := by
  have notW : S ∉ wr := fun h => away (W.sub _ h)
  have more : ∀ b ∈ wr, b ∈ S :: wr := fun b hb => List.mem_cons_of_mem _ hb
  have carry : ∀ {s1 s2 : Shared} {T : Leaf → Bool} {c : Nat}, s1.heap.SetOf (leafKind P w) S T c → (∀ o, s1.heap.get? S = some o → s2.heap.get? S = some o) → s2.heap.SetOf (leafKind P w) S T c := fun h k => by
    obtain ⟨o, es, ep, t, ho, r⟩ := h
    exact ⟨o, es, ep, t, k o ho, r⟩
  intro left
  induction left with
  | zero =>
    intro i s hl hi st ⟨c, hc, cnt, isS⟩ fin
    have e : i = n := by omega
    subst e
    refine codeAny_builtin F.entry_set_update_loop ?_
    rw [Around.under_plainId F.plain_set_update_loop _]
    refine wpAny_bind (W.done s _ _ st fun s' mv => ?_)
    have all : ks.take i = ks := List.take_of_length_le (by omega)
    rw [all] at cnt isS
    exact wpAny_pure (fin s' c (mv.mono more) cnt ⟨_, carry isS fun o e => mv.heap S o notW e⟩)
  | succ left ih =>
    intro i s hl hi st ⟨c, hc, cnt, isS⟩ fin
    have lt : i < n := by omega
    refine codeAny_builtin F.entry_set_update_loop ?_
    rw [Around.under_plainId F.plain_set_update_loop _]
    refine wpAny_bind (W.item i s _ _ lt st fun v s' hP st' mv => ?_)
    obtain ⟨k, hk, hv, sc⟩ := val i v hP
    have isS' := carry isS fun o e => mv.heap S o notW e
    refine wpAny_bind (wpAny_holding ?_)
    unfold setAdd
    refine wpAny_holding (wpAny_bind ((leafKind P w).pyHash (k := k) hv ?_))
    refine wpAny_setAddHashed_of (knd := leafKind P w) (s := { s' with toks := s'.toks + 1 }) hv sc isS' (by omega) fun h' same isS2 => ?_
    have next := cntK_next cnt hk
    have isS3 : h'.SetOf (leafKind P w) S (fun j => decide (j ∈ ks.take (i + 1))) (if decide (k ∈ ks.take i) = true then c else c + 1) := by
      refine SetOf_congr isS2 (fun j => ?_) rfl
      rw [List.take_add_one, hk]
      simp [List.mem_append]
    refine wpAny_pure ⟨plainId_quiet F.plain_set_update_loop _, ih (i + 1) _ (by omega) lt (W.frame _ s' _ _ st' (Nat.le_succ _) fun b hb o e => ?_) ⟨_, by split <;> omega, next, isS3⟩ fun s'' c2 mv2 cnt2 isS4 => ?_⟩
    · rw [same.2 b fun h : b = S => away (by rw [← h]; exact hb)]
      exact e
    · refine fin s'' c2 (Moved.trans W.gtrans ((mv.mono more).then_heap (Nat.le_succ _) fun b o hb e => ?_) mv2) cnt2 isS4
      rw [same.2 b fun h : b = S => hb (by rw [h]; exact List.mem_cons_self)]
      exact e

/-- what has come of filling it with texts and ints -/
def FilledK (P : Program) (w : World) (s : Shared) (ks : List Leaf) (s' : Shared) : Prop := ∃ h' tk c, s' = { s with heap := h', toks := tk } ∧ (∃ T, h'.SetOf (leafKind P w) s.heap.objs.size T c) ∧ IsCntK ks c ∧ ∀ b o, s.heap.get? b = some o → h'.get? b = some o
theorem set_of_tupK {l : Addr} {items : Array Value} (ks : List Leaf) {Q : Value → Shared → Prop} (hh : A.handled = none) (hl : s.heap.IsTuple l items) (len : items.size = ks.length)
    (val : ∀ (i : Nat) (v : Value), items[i]? = some v → ∃ k : Leaf, ks[i]? = some k ∧ (leafKind P w).is k v = true ∧ v.scannable = true)
    (hb : ks.length + 1 < scanBound) (hq : ∀ s', FilledK P w s ks s' → Q (.ref s.heap.objs.size) s') : wpAny (model P w) A (call (.type "set") [.ref l]) Q E s := by
  obtain ⟨mroHead, mroTail, mroIs⟩ := F.called_set.mro
  have made := F.called_set.made
  have sub := F.called_set.sub
  have notType := F.called_set.notType
  have canCreate := F.called_set.canCreate
  have typeCall := F.typeCall_set_1 (.ref l)
  have initFound := F.called_set.init.lookup
  refine wpAny_call (codeAny_of_tree (wpAny_pure ⟨Code.quiet_builtin _ (by decide +kernel), codeAny_builtin F.entry_type_call ?_⟩))
  rw [Around.under_plain (weight_type_call_type "set" [.ref l] []) rfl]
  repeat (any_goals (first | assumption | wp_step))
  refine codeAny_mono (code_set_led1 (.ref l) (E := E) (Q₁ := fun obj s₁ => obj = .ref s.heap.objs.size ∧ s₁ = { s with heap := s.heap.push (bareSet w) }) ⟨rfl, rfl⟩) fun r s₁ hr => ?_
  match r, hr with
  | .error _, hr => exact hr
  | .ok (.ret obj), hr =>
    obtain ⟨rfl, rfl⟩ := hr
    have atS : (s.heap.push (bareSet w)).get? s.heap.objs.size = some (bareSet w) := Heap.get?_push_size _ rfl
    have isSet : Shared.TypeIs { s with heap := s.heap.push (bareSet w) } (.ref s.heap.objs.size) "set" := ⟨_, atS, rfl⟩
    have initBound := F.called_set.init.bind (.ref s.heap.objs.size)
    repeat (any_goals (first | assumption | wp_step))
    refine codeAny_mono (codeAny_call_builtin (R := wants (fun r s₂ => r = .none ∧ FilledK P w s ks s₂) E) F.called_set.init.plain F.entry_set_init (check_set_init_1 isSet ?_)) fun r₂ s₂ hr₂ => ?_
    · have bare := s.heap.size_push (bareSet w)
      have tup1 : (s.heap.push (bareSet w)).IsTuple l items := by
        obtain ⟨o, ho, hc, n, hd⟩ := hl
        exact ⟨o, Heap.get?_push_of_some _ ho, hc, n, hd⟩
      have below : l < s.heap.objs.size := by
        obtain ⟨o, ho, _⟩ := hl
        exact Heap.lt_size ho
      obtain ⟨⟨oc, od, ov, os⟩, ho, hc, nt, hd⟩ := id tup1
      simp only at hc hd
      subst hc hd
      have subSet := F.sub_tuple_set
      have subFrozen := F.sub_tuple_frozenset
      have noDict : (Value.type "tuple" == Value.type "dict") = false := by decide
      unfold Builtin.«set.__init__» noKeywords Builtin.Frozenset.updateFrom
      generalize hPI : pyIter = PI
      wp_walk
      subst hPI
      refine wpAny_pyIter_tuple tup1 (wpAny_bind (wpAny_runValue ?_))
      have quiet3 : A.in1.in1.in1.handled = none := by simp [hh]
      have lne : l ≠ (s.heap.push (bareSet w)).objs.size := by
        rw [bare]
        exact Nat.ne_of_lt (Nat.lt_succ_of_lt below)
      have away : s.heap.objs.size ∉ [(s.heap.push (bareSet w)).objs.size, l] := by
        rw [bare]
        simp only [List.mem_cons, List.not_mem_nil, or_false, not_or]
        exact ⟨Nat.ne_of_lt (Nat.lt_succ_self _), Nat.ne_of_gt below⟩
      have none0 : ((s.heap.push (bareSet w)).push { cls := .type "tuple_iterator", data := .fields #[.ref l, .int 0 0] }).SetOf (leafKind P w) s.heap.objs.size (fun j => decide (j ∈ ks.take 0)) 0 :=
        SetOf_congr ((setObjOf_fresh (knd := leafKind P w) _).setOf (Heap.get?_push_of_some _ atS) (by unfold scanBound; omega)) (fun _ => by simp) rfl
      refine set_update_leaves ((Walks.tuple quiet3 _ l lne items).toS) s.heap.objs.size away ks len hb (fun i v hv => val i v hv) (items.size - 0) 0 _ (by omega) (Nat.zero_le _) ⟨⟨_, Heap.get?_push_size _ rfl, rfl, rfl⟩, tup1.push _⟩ ⟨0, Nat.le_refl 0, ⟨[], List.nodup_nil, by simp, rfl⟩, none0⟩ ?_
      rintro ⟨h', g', d', tk', o'⟩ c moved cnt isS
      cases (show g' = s.gens from moved.gens)
      cases (show d' = s.drawn from moved.drawn)
      cases (show o' = s.os from moved.os)
      refine wpAny_pure ?_
      refine wpAny_pure ⟨rfl, h', tk', c, rfl, isS, cnt, fun b o e => ?_⟩
      have b0 := Heap.lt_size e
      refine moved.heap b o ?_ (Heap.get?_push_of_some _ (Heap.get?_push_of_some _ e))
      simp only [List.mem_cons, List.not_mem_nil, or_false, not_or]
      exact ⟨Nat.ne_of_lt b0, by rw [bare]; exact Nat.ne_of_lt (Nat.lt_succ_of_lt b0)⟩
    · match r₂, hr₂ with
      | .error _, hr₂ => exact hr₂
      | .ok (.ret _), hr₂ =>
        obtain ⟨rfl, f⟩ := hr₂
        repeat (any_goals (first | assumption | wp_step))
        exact hq _ f
end
end L2
namespace DL
open PySem PySem.Spec PyProof.Rows L2
/-- a set of texts and ints that only its length is asked of -/
def SetKO (P : Program) (w : World) (a : Addr) (n : Nat) : HO := .ext fun h => ∃ S : Leaf → Bool, Heap.SetOf (leafKind P w) h a S n
theorem setKO_new {w : World} {P : Program} {H : Hp} {h : Heap} {a : Addr} {n : Nat} (hS : ∃ S, Heap.SetOf (leafKind P w) h a S n) : ObjOk P w H h a (SetKO P w a n) := by
  show _ ∧ _ ∧ _
  refine ⟨hS, ?_, fun h1 h2 => ?_⟩
  · obtain ⟨S, o, _, _, _, e, _⟩ := hS
    exact ⟨o, e⟩
  · rintro ⟨S, o, es, ep, t, e, r⟩ k
    exact ⟨S, o, es, ep, t, k _ e, r⟩
theorem setKO_get {X : Cx} {pins : List (Addr × Obj)} {σ : L2.St} {H : Hp} {s : Shared} {a : Addr} {n : Nat} (I : L2.Inv X pins σ H s) (e : H a = some (SetKO X.prog X.w a n)) : ∃ S, Heap.SetOf (leafKind X.prog X.w) s.heap a S n := by
  have := I.hok a _ e
  exact this.1
/-- a text or an int -/
def lfV : L2.Key → V
  | .inl i => .int i
  | .inr x => .str x
def lfK : L2.Key → Leaf
  | .inl i => .num i
  | .inr x => .text x
def lfD : L2.Key → PyData
  | .inl i => .int i
  | .inr x => .str x
def rSetK (K : PySem.W.Frag) (P : Program) (w : World) : List V → Hp → VK → Prop := fun xs H Q => ∃ (l : Addr) (ks : List L2.Key), xs = [V.ref l] ∧ SqT K H l (ks.map lfV) ∧ ks.length < 1000 ∧ ∀ a c, H a = none → IsCntK (ks.map lfK) c → Q (.ref a) (upd H a (SetKO P w a c))
def rLenK (P : Program) (w : World) : List V → Hp → VK → Prop := fun xs H Q => ∃ (a : Addr) (c : Nat), xs = [V.ref a] ∧ H a = some (SetKO P w a c) ∧ Q (.int c) H
section
variable {X : Cx}
theorem cr_setK (hc : X.calm = true) : CallR X (.type "set") (rSetK X.K X.prog X.w) := by
  rintro pins s σ H vs us Q I r ⟨l, ks, rfl, hs, hz, q⟩
  have hz2 : (ks.map lfK).length + 1 < scanBound := by rw [List.length_map]; unfold scanBound; omega
  obtain ⟨its, rv, hl, _⟩ := I.tuple hs
  rw [Vals.ref1 r]
  have len : its.toArray.size = (ks.map lfK).length := by
    rw [List.size_toArray, List.length_map, ← rv.length, List.length_map]
  refine set_of_tupK (ks.map lfK) (I.ok.hd hc) hl len (fun i v hv => ?_) hz2 ?_
  · have hv : its[i]? = some v := by simpa using hv
    have hi : i < ks.length := by
      have h1 := (List.getElem?_eq_some_iff.mp hv).1
      have h2 := rv.length
      rw [List.length_map] at h2
      omega
    obtain ⟨u, hu, ru⟩ := rv.get (show (ks.map lfV)[i]? = some (lfV ks[i]) by rw [List.getElem?_map, List.getElem?_eq_getElem hi]; rfl)
    rw [hv] at hu
    cases hu
    refine ⟨lfK ks[i], by rw [List.getElem?_map, List.getElem?_eq_getElem hi]; rfl, ?_⟩
    generalize ks[i] = k at ru
    cases k with
    | inl j =>
      obtain ⟨t, rfl⟩ := ru
      exact ⟨by show decide (j = j) = true; simp, rfl⟩
    | inr x =>
      obtain ⟨t, rfl⟩ := ru
      exact ⟨by show Value.isStrOf x (.str x t) = true; simp [Value.isStrOf], rfl⟩
  · rintro s' ⟨h', tk, c, rfl, isS, cnt, hk⟩
    refine ⟨.ref s.heap.objs.size, _, inv_news I hk (fun b hb => upd_ne (Nat.ne_of_lt hb)) (fun a o ha e => ?_), rfl, q _ c (I.hok.fresh (Nat.le_refl _)) cnt⟩
    by_cases ea : a = s.heap.objs.size
    · subst ea
      rw [upd_same] at e
      cases e
      exact setKO_new isS
    · rw [upd_ne ea, I.hok.fresh ha] at e
      cases e
theorem cr_lenK : CallR X (.builtin "len") (rLenK X.prog X.w) := by
  rintro pins s σ H vs us Q I r ⟨a, c, rfl, e, q⟩
  obtain ⟨S, o, es, ep, t, ho, hx, hd, _, _, hb, hf, hz⟩ := setKO_get I e
  rw [Vals.ref1 r]
  refine call_len_set ho hx hd hf (by unfold scanBound at hb; omega) ?_
  refine ⟨.int es.size, H, I.tok _, ⟨_, rfl⟩, ?_⟩
  rw [hz]
  exact q
end
def keysD : List PyData → Option (List L2.Key)
  | [] => some []
  | .int i :: ds => (keysD ds).map fun ks => .inl i :: ks
  | .str x :: ds => (keysD ds).map fun ks => .inr x :: ks
  | _ => none
theorem keysD_rep {K : PySem.W.Frag} {F : Hp} : ∀ {ds : List PyData} {ks : List L2.Key} {vs : List V}, keysD ds = some ks → RpA K F vs ds → vs = ks.map lfV
  | [], ks, _, e, .nil => by
    cases e
    rfl
  | d :: ds, ks, _, e, .cons (v := v) r t => by
    cases d with
    | int i =>
      unfold keysD at e
      obtain ⟨ks', e', rfl⟩ := Option.map_eq_some_iff.mp e
      cases r
      rw [keysD_rep e' t]
      rfl
    | str x =>
      unfold keysD at e
      obtain ⟨ks', e', rfl⟩ := Option.map_eq_some_iff.mp e
      cases r
      rw [keysD_rep e' t]
      rfl
    | _ => unfold keysD at e; cases e
def lenSetK : PyData → (PyData → Prop) → Prop
  | .tuple ds, q => ∃ ks, keysD ds = some ks ∧ ks.length < 1000 ∧ ∀ c, IsCntK (ks.map lfK) c → q (.int (c : Nat))
  | _, _ => False
section
variable {X : Cx} {G : GH} {e : Expr} {es : List Expr} {ds : DA} {p p2 p3 pos : Pos}
theorem px_lenSetK (hc : X.calm = true) (hm : X.mg "len" = none) (hm2 : X.mg "set" = none) (ha : PXA X G (e :: es) ds) (hg : Gl X "len" := by rfl) (hg2 : Gl X "set" := by rfl)
    (he : starEach (e :: es) X.env = (false, eval e X.env) :: starEach es X.env := by rfl) (hpl : (backTo p3 (starEach es X.env)).any (·.1) = false := by rfl)
    (he2 : starEach [.Call (.Name "set" p2) (e :: es) [] p3] X.env = (false, eval (.Call (.Name "set" p2) (e :: es) [] p3) X.env) :: starEach [] X.env := by rfl) (hpl2 : (backTo pos (starEach [] X.env)).any (·.1) = false := by rfl) :
    PX X G (.Call (.Name "len" p) [.Call (.Name "set" p2) (e :: es) [] p3] [] pos) (dCB (d1 lenSetK) ds) := by
  refine pe_imp (pe_callB cr_lenK hg hm PySem.boot_len (pa_cons (pe_callTy (cr_setK hc) hg2 hm2 boot_set ha (by decide) (by decide) he hpl) pa_nil he2) (by decide) (by decide) he2 hpl2) ?_
  rintro σ H Q ⟨F, R, η, M, q, hG, A, E, h, c⟩
  refine la_bind hG A E h fun ls M1 vs H1 F1 g1 s1 A1 E1 r1 h1 => ?_
  obtain ⟨a, x, rfl, e, h⟩ := h1
  obtain ⟨v, rfl, r⟩ := lrs1 r1
  cases x with
  | tuple ds =>
    obtain ⟨ks, e1, hz, h⟩ := h
    obtain ⟨p, vs, rfl, s, r2⟩ := rd_tuple A1 r e
    have := keysD_rep e1 r2
    subst this
    refine ⟨p, ks, rfl, s, hz, fun a n ha hn => ⟨a, n, rfl, upd_same, ?_⟩⟩
    exact (c.mono (s1.trans (same_new (A1.freeF ha)))).plain (A1.frz ha) (.int n) (h n hn)
  | _ => exact h.elim
end
/-- a word and ints: so many unlike as the ints are, and one -/
theorem cntK_word {w : Str} {ns : List Int} {c : Nat} (h : IsCntK ((Sum.inr w :: ns.map Sum.inl : List L2.Key).map lfK) c) : ∃ k, IsCnt ns k ∧ c = k + 1 := by
  obtain ⟨ms, nd, hm, rfl⟩ := h
  have hw : Leaf.text w ∈ ms := (hm _).mpr (by simp [lfK])
  have hp := List.perm_cons_erase hw
  refine ⟨(ms.erase (.text w)).length, ⟨(ms.erase (.text w)).map fun x => match x with | .num i => i | _ => 0, ?_, fun k => ?_, List.length_map _⟩, by rw [hp.length_eq, List.length_cons]⟩
  · have isN : ∀ x ∈ ms.erase (.text w), ∃ i, x = Leaf.num i := fun x hx => by
      have h1 := (hm x).mp (List.mem_of_mem_erase hx)
      have h2 : x ≠ .text w := fun e => by
        subst e
        exact (List.Nodup.not_mem_erase nd) hx
      simp only [List.map_cons, List.map_map, List.mem_cons, List.mem_map] at h1
      rcases h1 with h1 | ⟨i, _, rfl⟩
      · exact absurd h1 h2
      · exact ⟨i, rfl⟩
    have nd2 := nd.erase (.text w)
    unfold List.Nodup
    rw [List.pairwise_map]
    refine List.Pairwise.imp_of_mem (fun {x y} hx hy hne e => hne ?_) nd2
    obtain ⟨i, rfl⟩ := isN x hx
    obtain ⟨j, rfl⟩ := isN y hy
    exact congrArg Leaf.num e
  · rw [List.mem_map]
    constructor
    · rintro ⟨x, hx, rfl⟩
      have h1 := (hm x).mp (List.mem_of_mem_erase hx)
      have h2 : x ≠ .text w := fun e => by
        subst e
        exact (List.Nodup.not_mem_erase nd) hx
      simp only [List.map_cons, List.map_map, List.mem_cons, List.mem_map] at h1
      rcases h1 with h1 | ⟨i, hi, rfl⟩
      · exact absurd h1 h2
      · exact hi
    · intro hk
      refine ⟨.num k, ?_, rfl⟩
      have : Leaf.num k ∈ ms := (hm _).mpr (by simp [lfK]; exact hk)
      exact (List.mem_erase_of_ne (by simp)).mpr this
end DL
end
section
/-! list(range(n)) that will be changed -/
namespace DL
open PySem PySem.Spec PyProof.Rows L2
theorem rg_lrs {K : PySem.W.Frag} {F : Hp} (n : Nat) : LRs K F (rgV 0 n) ((rangeD 0 n).map L.d) := by
  unfold rgV rangeD
  rw [show ((n : Int) - 0).toNat = n by omega]
  generalize List.range n = ks
  induction ks with
  | nil => exact .nil
  | cons z zs ih => exact .cons (.int _) ih
section
variable {X : Cx} {G : GH} {a b e : Expr} {da db : DE} {p p0 p2 pos : Pos}
def dListRM (da : DE) : DE := fun η M q => da η M fun l M1 => ∃ n : Nat, l = .d (.int n) ∧ n ≤ 16777216 ∧ ∀ a, M1 a = none → q (.p a) (updM M1 a (.lst ((rangeD 0 n).map L.d)))
theorem px_listRM (hc : X.calm = true) (hm : X.mg "list" = none) (hr : X.mg "range" = none) (ha : PX X G a da) (hg : Gl X "list" := by rfl) (hg2 : Gl X "range" := by rfl)
    (na : starEach [a] X.env = (false, eval a X.env) :: starEach [] X.env := by rfl) (na2 : starEach [.Call (.Name "range" p0) [a] [] p2] X.env = (false, eval (.Call (.Name "range" p0) [a] [] p2) X.env) :: starEach [] X.env := by rfl) :
    PX X G (.Call (.Name "list" p) [.Call (.Name "range" p0) [a] [] p2] [] pos) (dListRM da) := by
  refine pe_imp (pe_listRg hc hg hm (prg_1 hg2 hr ha na) na2) ?_
  rintro σ H Q ⟨F, R, η, M, q, hG, A, E, h, c⟩
  refine le_bind hG A E h fun l M1 v H1 F1 g1 s1 A1 E1 r1 h1 => ?_
  obtain ⟨n, rfl, hn, h1⟩ := h1
  obtain rfl : v = .int n := by cases r1; rfl
  refine ⟨n, rfl, RgOk.of_le (Int.le_refl _) (by omega) (by omega) (by omega), fun p' hp => ?_⟩
  exact c (.p p') _ (.ref p') _ F1 s1 (A1.new (m := .lst ((rangeD 0 n).map L.d)) hp ⟨_, upd_same, rg_lrs n⟩) rfl (h1 p' (A1.freeM hp))
end
end DL
end
section
set_option maxHeartbeats 1000000
/-! max of a list of data of one kind -/
namespace DL
open PySem PySem.Spec PyProof.Rows L2 PySem.W
def rMaxE (K : PySem.W.Frag) : List V → Hp → VK → Prop := fun vs H Q => ∃ (a : Addr) (xs : List V) (d : PyData) (ds : List PyData) (F : Hp), vs = [V.ref a] ∧ SqL K H a xs ∧ Same F H ∧ RpA K F xs (d :: ds) ∧ AlikeAll (d :: ds) ∧ PyData.depthAll (d :: ds) ≤ 40 ∧ ∀ x, x ∈ xs → Rp K F x (maxD d ds) → Q x H
section
variable {X : Cx}
theorem cr_maxE (hc : X.calm = true) (hr : RoomG 0 X.A) : CallR X (.builtin "max") (rMaxE X.K) := by
  rintro pins s σ H vs us Q I r ⟨a, xs, d, ds, F, rfl, hs, sF, ha, hal, hd, q⟩
  have hu : X.A.units + 200 < cLine := by have := hr.rm.un; omega
  rw [Vals.ref1 r]
  obtain ⟨its, rv, hl, _⟩ := I.list hs
  have l1 : its.length = xs.length := rv.length.symm
  have l2 : (d :: ds).length = xs.length := ha.length.symm
  obtain ⟨as, rd⟩ : ∃ as, ReadsAll s.heap its (d :: ds) as := by
    have := (ha.mono sF)
    obtain ⟨as, h, _⟩ := RpA.reads I this rv
    exact ⟨as, h⟩
  refine max_list_data (I.ok.hd hc) hl.isList (by simpa using rd) hal (by omega) fun i v h' tk bs hv r k => ?_
  have hv : its[i]? = some v := by simpa using hv
  have hi : i < xs.length := by
    have := (List.getElem?_eq_some_iff.mp hv).1
    omega
  have ex : xs[i]? = some xs[i] := List.getElem?_eq_getElem hi
  have ed : (d :: ds)[i]? = some (d :: ds)[i] := List.getElem?_eq_getElem (by omega)
  have rp := rpa_get ha ex ed
  have rl := vals_get rv ex hv
  obtain ⟨as2, r2, _⟩ := Rp.reads I (rp.mono sF) rl
  have e := (reads_det (fun b o e _ => k b o e) r2 r).1
  refine ⟨xs[i], H, I.kept (h' := h') (t' := tk) k, rl, q _ (List.getElem_mem hi) ?_⟩
  rw [e]
  exact rp
end
/-- min: of data of one kind -/
def maxTW : PyData → (PyData → Prop) → Prop
  | .list (d :: ds), q => AlikeAll (d :: ds) ∧ PyData.depthAll (d :: ds) ≤ 40 ∧ q (maxD d ds)
  | _, _ => False
section
variable {X : Cx}
theorem cd_maxT : CallD X.K (rMaxE X.K) (d1 maxTW) := by
  rintro F R M H xs ls q Q A rr ⟨a, x, rfl, e, h⟩ c
  obtain ⟨v, rfl, r⟩ := lrs1 rr
  cases x with
  | list ds =>
    cases ds with
    | nil => exact h.elim
    | cons d ds =>
      obtain ⟨h1, h2, h⟩ := h
      obtain ⟨p, vs, rfl, s, r2⟩ := rd_list A r e
      exact ⟨p, vs, d, ds, F, rfl, s.l, A.fz, r2, h1, h2, fun x hx rp => c.plain A rp h⟩
  | _ => exact h.elim
end
end DL
end
section
/-! a comprehension over a list that changes, but not within it -/
namespace DL
open PySem PySem.Spec PyProof.Rows L2
section
variable {K : PySem.W.Frag} {F R H : Hp} {M : Ms} {p : Addr}
theorem Abs.asideM {m : MO} {o : HO} (A : Abs K F R M H) (e : M p = some m) (hv : H p = some o) : R p = none ∧ Abs K F (upd R p o) (delM M p) H := by
  obtain ⟨hf, hr, _⟩ := A.mu p m e
  refine ⟨hr, A.fz, fun a n en => ?_, fun a x ex => ?_⟩
  · have ne : a ≠ p := fun z => by rw [z, delM_same] at en; cases en
    rw [delM_ne ne] at en
    obtain ⟨z1, z2, z3⟩ := A.mu a n en
    exact ⟨z1, by rw [upd_ne ne]; exact z2, z3⟩
  · by_cases c : a = p
    · subst c
      rw [upd_same] at ex
      cases ex
      exact ⟨hf, hv⟩
    · rw [upd_ne c] at ex
      exact A.rs a x ex
end
theorem updM_del {M : Ms} {p : Addr} {o : MO} (h : M p = some o) : updM (delM M p) p o = M := by
  funext b
  by_cases c : b = p
  · subst c
    rw [updM_same, h]
  · rw [updM_ne c, delM_ne c]
/-- the list stands still while it is walked: nobody else can see it there -/
def dLcS (dx : DE) (g : DG) (t : DT) (e : DE) (vs : List Nat) : DE := fun η M q => dx η M fun l M1 => ∃ p ds, l = .p p ∧ M1 p = some (.lst (ds.map L.d)) ∧
  dLcN g t e (wipeD η vs) (fun ys M2 => M2 p = none → q (.d (.list ys)) (updM M2 p (.lst (ds.map L.d)))) ds [] (delM M1 p)
theorem le_lcS {K : PySem.W.Frag} {G : GH} {dx de : DE} {g : DG} {t : DT} {tgH : TG} {vs : List Nat} (gw : GWk K tgH g vs) {σ : L2.St} {H : Hp} {Q : VK} (h : LE K G (dLcS dx g t de vs) σ H Q) : tLc (iList K (LE K G dx)) tgH (LT K G t) (LE K G de) vs σ H Q := by
  obtain ⟨F, R, η, M, q, hG, A, E, h, c⟩ := h
  refine le_bind hG A E h fun l M1 v H1 F1 g1 s1 A1 E1 r1 h1 => ?_
  obtain ⟨p, xs, rfl, hm, h1⟩ := h1
  obtain rfl : v = .ref p := r1
  obtain ⟨_, _, vs0, hv, lr⟩ := A1.mu p _ hm
  obtain ⟨hr, A1'⟩ := A1.asideM hm hv
  have ra0 := lr.data
  refine ⟨p, rfl, ⟨vs0, SqM.l (.inl (.inl hv))⟩, fun D hD => ?_⟩
  have rD := A1'.freeR hD
  have nD : p ≠ D := fun z => by rw [← z, hv] at hD; cases hD
  have g1' : SG G F1 (upd R p (.lst vs0)) := g1.more hr
  have at2 : ∀ {F2 : Hp} {va : List V} {M2 : Ms} {H2 : Hp}, Abs K F2 (upd (upd R p (.lst vs0)) D (.lst va)) M2 H2 → H2 p = some (.lst vs0) := fun A2 => (A2.rs p _ (by rw [upd_ne nD, upd_same])).2
  refine ⟨fun i m H => m = xs.length - i ∧ i ≤ xs.length ∧ ∃ F2 M2 va acc, Same F1 F2 ∧ Abs K F2 (upd (upd R p (.lst vs0)) D (.lst va)) M2 H ∧ RpA K F2 va acc ∧ dLcN g t de (wipeD η vs) (fun ys M2 => M2 p = none → q (.d (.list ys)) (updM M2 p (.lst (xs.map L.d)))) (xs.drop i) acc M2,
    ⟨xs.length, rfl, Nat.zero_le _, F1, _, [], [], Same.refl F1, A1'.aside hD, .nil, h1⟩, ?_⟩
  rintro i m H2 ⟨rfl, hi, F2, M2, va, acc, s2, A2, ra, h2⟩
  have sq2 : SqL K H2 p vs0 := SqM.l (.inl (.inl (at2 A2)))
  by_cases hlt : i < xs.length
  · have hv0 : i < vs0.length := by rw [ra0.length]; exact hlt
    refine .inr ⟨⟨vs0, vs0[i], sq2, List.getElem?_eq_getElem hv0⟩, fun H' => i + 1 ≤ xs.length ∧ ∃ F3 M3 va acc, Same F1 F3 ∧ Abs K F3 (upd (upd R p (.lst vs0)) D (.lst va)) M3 H' ∧ RpA K F3 va acc ∧ dLcN g t de (wipeD η vs) (fun ys M2 => M2 p = none → q (.d (.list ys)) (updM M2 p (.lst (xs.map L.d)))) (xs.drop (i + 1)) acc M3, ?_, ?_⟩
    · rintro H' ⟨hi', z⟩
      exact ⟨xs.length - (i + 1), by omega, rfl, hi', z⟩
    · rintro x H3 ⟨rfl, hy⟩
      have e := hy vs0 sq2
      obtain ⟨d', hd', r'⟩ := ra0.getV e
      rw [List.getElem?_eq_getElem hlt] at hd'
      cases hd'
      have h2' : dLcN g t de (wipeD η vs) (fun ys M2 => M2 p = none → q (.d (.list ys)) (updM M2 p (.lst (xs.map L.d)))) (xs[i] :: xs.drop (i + 1)) acc M2 := by
        rw [← List.drop_eq_getElem_cons hlt]
        exact h2
      refine gw F2 _ M2 _ _ _ x (.d xs[i]) _ _ A2 (er_wipe ((E1).mono s2) vs) (Rp.mono s2 r') h2' fun η4 M4 σ4 E4 w4 A4 h4 => ?_
      refine ⟨by rw [w4, wipe_wipe], lt_bind (g1'.more (vs := va) rD |>.trans s2) A4 E4 h4 fun b M5 H5 F5 g5 s5 A5 E5 h5 => ?_⟩
      cases b with
      | false => exact iteF ⟨hlt, F5, M5, va, acc, s2.trans s5, A5, RpA.mono s5 ra, h5⟩
      | true =>
        refine iteT (le_bind g5 A5 E5 h5 fun l M6 v H6 F6 g6 s6 A6 E6 r6 h6 => ?_)
        obtain ⟨y, rfl, hz, h6⟩ := h6
        have r' := RpA.mono (s5.trans s6) ra
        exact ⟨va, (A6.rs D _ upd_same).2, by rw [r'.length]; exact hz, hlt, F6, M6, va ++ [v], acc ++ [y], (s2.trans s5).trans s6, A6.again, r'.append (.cons r6 .nil), h6⟩
  · have e : i = xs.length := by omega
    subst e
    rw [List.drop_length] at h2
    refine .inl ⟨⟨vs0, sq2, Nat.le_of_eq ra0.length⟩, ?_⟩
    have A3 := A2.keep rD
    have s3 := same_new (o := .lst va) (A2.rs D _ upd_same).1
    obtain ⟨mn, A4⟩ := A3.keepM hr (m := .lst (xs.map L.d)) ⟨vs0, at2 A2, LRs.mono (s2.trans s3) lr⟩
    exact c (.d (.list acc)) _ (.ref D) _ _ ((s1.trans s2).trans s3) A4 (.lst (.inl (.inl upd_same)) (RpA.mono s3 ra)) (h2 mn)
section
variable {X : Cx} {G : GH} {tg iter e : Expr} {pos : Pos} {dx de : DE} {t : DT}
theorem px_lcS {ifs : List Expr} {scope : Scope} (own : List (Str × Nat)) {g : DG} {tgH : TG} (gw : GWk X.K tgH g (own.map (·.2))) (hc : X.calm = true) (hN : X.N.Nodup) (hi : PX X G iter dx) (ok : blkC X.N X.env.scope scope own = true)
    (hg : ∀ s H C cl fp, PG (bk X scope s H C cl fp) tg tgH) (ht : ∀ s H C cl fp, PTs (bk X scope s H C cl fp) ifs (LT X.K G t))
    (he : ∀ s H C cl fp, PX (bk X scope s H C cl fp) G e de) (hs : ∀ x, foldedSetIterable iter X.env x = pure x := by intro _; rfl) :
    PX X G (.ListComp e [⟨tg, iter, ifs, 0⟩] scope pos) (dLcS dx g t de (own.map (·.2))) :=
  pe_imp (pe_lc (te := LE X.K G de) hc hN (pi_list hi) (blkOk_by ok) hg ht he hs) fun _ _ _ h => le_lcS gw h
theorem pxs_setLcS (i : Nat) {y : Str} {py spos : Pos} {ifs : List Expr} {scope : Scope} (own : List (Str × Nat)) {g : DG} {tgH : TG} (gw : GWk X.K tgH g (own.map (·.2))) (hc : X.calm = true) (hN : X.N.Nodup) (hi : PX X G iter dx) (ok : blkC X.N X.env.scope scope own = true)
    (hg : ∀ s H C cl fp, PG (bk X scope s H C cl fp) tg tgH) (ht : ∀ s H C cl fp, PTs (bk X scope s H C cl fp) ifs (LT X.K G t))
    (he : ∀ s H C cl fp, PX (bk X scope s H C cl fp) G e de) (hsw : swapsWith (.ListComp e [⟨tg, iter, ifs, 0⟩] scope pos) (some (.Name y py)) spos.line X.env = pure true) (hy : X.N[i]? = some y := by rfl) (hyl : X.env.scope.names.lookup y = some .local := by rfl) (hs : ∀ x, foldedSetIterable iter X.env x = pure x := by intro _; rfl) :
    PXS X G (.Assign [.Name y py] (.ListComp e [⟨tg, iter, ifs, 0⟩] scope pos) spos) (dSet i (dLcS dx g t de (own.map (·.2)))) := by
  refine ps_imp (ps_setLc (te := LE X.K G de) hc hN hy hyl hsw (pi_list hi) (blkOk_by ok) hg ht he hs) ?_
  rintro D σ H ⟨F, R, η, M, d, hG, A, E, h, k⟩
  exact le_lcS gw (le_bind hG A E h fun l M1 v H1 F1 g1 s1 A1 E1 r1 h1 => k.nx _ M1 _ H1 F1 s1 A1 (E1.set i r1) h1)
end
end DL
end
section
/-! texts: join, split, partition, f'..' -/
namespace DL
open PySem PySem.Spec PyProof.Rows L2
section
variable {X : Cx} {pins : List (Addr × Obj)} {σ : L2.St} {H : Hp} {s : Shared} {Q : VK}
theorem laid_partsP {x y z : Str} {t u v : Tok} {k : Nat} (I : L2.Inv X pins σ H s) (h : ∀ p o, PlT o → H p = none → Q (.ref p) (upd H p (.frz o (.tup [.str x, .str y, .str z])))) :
    EP X pins σ Q (.ref s.heap.objs.size) { s with toks := k, heap := s.heap.push { cls := .type "tuple", data := .seq [Value.str x t, .str y u, .str z v].toArray } } := by
  have hp := I.hok.fresh (Nat.le_refl _)
  let po : Obj := { cls := .type "tuple", data := .seq [Value.str x t, .str y u, .str z v].toArray }
  exact ⟨.ref s.heap.objs.size, upd H s.heap.objs.size (.frz po (.tup [.str x, .str y, .str z])), I.laid (fun b u q => Heap.get?_push_of_some _ q) (Nat.le_refl _)
    ⟨Heap.get?_push_size _ rfl, by show 3 ≤ sizeLine; decide, [Value.str x t, .str y u, .str z v], .cons ⟨t, rfl⟩ (.cons ⟨u, rfl⟩ (.cons ⟨v, rfl⟩ .nil)), _, Heap.get?_push_size _ rfl, rfl, _, rfl⟩, rfl, h _ po ⟨rfl, rfl⟩ hp⟩
end
section
variable {X : Cx} {G : GH} {o e : Expr} {de dd : DE} {apos pos : Pos}
theorem mt_partP : MtR X "str.partition" (fun x xs H Q => ∃ a b, x = .str a ∧ xs = [.str b] ∧ (b.length == 0) = false ∧ a.length ≤ sizeLine ∧
    ∀ p o, PlT o → H p = none → Q (.ref p) (upd H p (.frz o (.tup [.str (Txt.partition a b).1, .str (Txt.partition a b).2.1, .str (Txt.partition a b).2.2])))) := by
  intro pins s σ H x xs v us Q I rx rs h
  obtain ⟨a, b, rfl, rfl, hb, hz, h⟩ := h
  obtain ⟨t, rfl⟩ := rx
  cases rs with
  | cons r1 rs =>
    cases rs
    obtain ⟨u, rfl⟩ := r1
    refine call_meets F.slot_str_partition (typeIs_str _ _ _) F.entry_str_partition (F.args_str_partition_2 _ _) (meets_str_partition a b t u hb hz) ?_
    unfold Txt.partition at h
    revert h
    cases Builtin.Str.occurrences a b 0 a.length 1 with
    | nil => intro h; exact laid_partsP I h
    | cons i r => intro h; exact laid_partsP I h
/-- s.partition(t) -/
def dPartn (de dd : DE) : DE := fun η M q => de η M fun l M1 => (∃ a, l = .d (.str a)) ∧ dd η M1 fun y M2 => ∃ a b : Str, l = .d (.str a) ∧ y = .d (.str b) ∧ (b.length == 0) = false ∧ a.length ≤ sizeLine ∧
  q (.d (.tuple [.str (Txt.partition a b).1, .str (Txt.partition a b).2.1, .str (Txt.partition a b).2.2])) M2
theorem px_partn (ho : PX X G o de) (he : PX X G e dd) (hs : starEach [e] X.env = [(false, eval e X.env)] := by rfl) (hbase : attributeBase o "partition" X.env (eval o X.env) = eval o X.env := by rfl) (hline : (apos.endLine == pos.line) = true := by rfl) :
    PX X G (.Call (.Attribute o "partition" apos) [e] [] pos) (dPartn de dd) := by
  refine pe_imp (pe_m1 F.slot_str_partition F.type_str_partition mt_partP ho he hs hbase hline) ?_
  rintro σ H Q ⟨F, R, η, M, q, hG, A, E, h, c⟩
  refine le_bind hG A E h fun l M1 v H1 F1 g1 s1 A1 E1 r1 h1 => ?_
  obtain ⟨⟨a, rfl⟩, h1⟩ := h1
  cases r1
  refine ⟨⟨a, rfl⟩, le_bind g1 A1 E1 h1 fun y M2 w H2 F2 g2 s2 A2 E2 r2 h2 => ?_⟩
  obtain ⟨a', b, e1, rfl, hb, hz, h2⟩ := h2
  cases e1
  cases r2
  exact ⟨a, b, rfl, rfl, hb, hz, fun p o ho hp => (c.mono (s1.trans s2)).tup A2 hp ho (.cons (.str _) (.cons (.str _) (.cons (.str _) .nil))) h2⟩
/-- s.split(t) -/
def dSplit (de dd : DE) : DE := fun η M q => de η M fun l M1 => (∃ a, l = .d (.str a)) ∧ dd η M1 fun y M2 => ∃ a b : Str, l = .d (.str a) ∧ y = .d (.str b) ∧ (b.length == 0) = false ∧ a.length + 2 ≤ sizeLine ∧
  q (.d (.list ((Txt.split a b).map .str))) M2
theorem rpa_strs {K : PySem.W.Frag} {F : Hp} : ∀ ys : List Str, RpA K F (ys.map V.str) (ys.map PyData.str)
  | [] => .nil
  | _ :: ys => .cons (.str _) (rpa_strs ys)
theorem rpa_strs' {K : PySem.W.Frag} {F : Hp} : ∀ {vs : List V} {ys : List Str}, RpA K F vs (ys.map PyData.str) → vs = ys.map V.str
  | [], [], _ => rfl
  | _ :: _, [], h => by cases h
  | [], _ :: _, h => by cases h
  | v :: vs, y :: ys, h => by
    cases h with
    | cons a b =>
      cases a
      rw [List.map_cons, ← rpa_strs' b]
theorem px_split (ho : PX X G o de) (he : PX X G e dd) (hs : starEach [e] X.env = [(false, eval e X.env)] := by rfl) (hbase : attributeBase o "split" X.env (eval o X.env) = eval o X.env := by rfl) (hline : (apos.endLine == pos.line) = true := by rfl) :
    PX X G (.Call (.Attribute o "split" apos) [e] [] pos) (dSplit de dd) := by
  refine pe_imp (pe_split ho he hs hbase hline) ?_
  rintro σ H Q ⟨F, R, η, M, q, hG, A, E, h, c⟩
  refine le_bind hG A E h fun l M1 v H1 F1 g1 s1 A1 E1 r1 h1 => ?_
  obtain ⟨⟨a, rfl⟩, h1⟩ := h1
  cases r1
  refine ⟨⟨a, rfl⟩, le_bind g1 A1 E1 h1 fun y M2 w H2 F2 g2 s2 A2 E2 r2 h2 => ?_⟩
  obtain ⟨a', b, e1, rfl, hb, hz, h2⟩ := h2
  cases e1
  cases r2
  exact ⟨a, b, rfl, rfl, hb, hz, fun p hp => (c.mono (s1.trans s2)).lst A2 hp (rpa_strs _) h2⟩
/-- s.join(xs) -/
def dJoin (de dd : DE) : DE := fun η M q => de η M fun l M1 => (∃ a, l = .d (.str a)) ∧ dd η M1 fun y M2 => ∃ (a : Str) (ys : List Str), l = .d (.str a) ∧ (rd M2 y = some (.list (ys.map .str)) ∨ rd M2 y = some (.tuple (ys.map .str))) ∧
  (ys.map (·.length)).sum + ys.length * a.length ≤ 16777216 ∧ q (.d (.str (Txt.join a ys))) M2
theorem px_join (ho : PX X G o de) (he : PX X G e dd) (hs : starEach [e] X.env = [(false, eval e X.env)] := by rfl) (hbase : attributeBase o "join" X.env (eval o X.env) = eval o X.env := by rfl) (hline : (apos.endLine == pos.line) = true := by rfl) :
    PX X G (.Call (.Attribute o "join" apos) [e] [] pos) (dJoin de dd) := by
  refine pe_imp (pe_join ho he hs hbase hline) ?_
  rintro σ H Q ⟨F, R, η, M, q, hG, A, E, h, c⟩
  refine le_bind hG A E h fun l M1 v H1 F1 g1 s1 A1 E1 r1 h1 => ?_
  obtain ⟨⟨a, rfl⟩, h1⟩ := h1
  cases r1
  refine ⟨⟨a, rfl⟩, le_bind g1 A1 E1 h1 fun y M2 w H2 F2 g2 s2 A2 E2 r2 h2 => ?_⟩
  obtain ⟨a', ys, e1, hr, hz, h2⟩ := h2
  cases e1
  rcases hr with hr | hr
  · obtain ⟨p, vs, rfl, sq, ra⟩ := rd_list A2 r2 hr
    have := rpa_strs' ra
    subst this
    exact ⟨a, p, ys, rfl, rfl, .inl sq.l, hz, (c.mono (s1.trans s2)).plain A2 (.str _) h2⟩
  · obtain ⟨p, vs, rfl, sq, ra⟩ := rd_tuple A2 r2 hr
    have := rpa_strs' ra
    subst this
    exact ⟨a, p, ys, rfl, rfl, .inr sq, hz, (c.mono (s1.trans s2)).plain A2 (.str _) h2⟩
/-- f'{e}' -/
def dFmt (de : DE) : DE := fun η M q => de η M fun l M1 => (∃ y : Str, l = .d (.str y) ∧ y.length ≤ sizeLine ∧ q (.d (.str y)) M1) ∨ ∃ i : Int, l = .d (.int i) ∧ i.natAbs.log2 < 1920 ∧ q (.d (.str (toString i))) M1
theorem px_fmt (he : PX X G e de) : PX X G (.FormattedValue e (-1) none pos) (dFmt de) := by
  refine pe_imp (pe_fmt he) ?_
  rintro σ H Q ⟨F, R, η, M, q, hG, A, E, h, c⟩
  refine le_bind hG A E h fun l M1 v H1 F1 g1 s1 A1 E1 r1 h1 => ?_
  rcases h1 with ⟨y, rfl, hz, h1⟩ | ⟨i, rfl, hz, h1⟩
  · cases r1
    exact .inl ⟨y, rfl, hz, (c.mono s1).plain A1 (.str _) h1⟩
  · cases r1
    exact .inr ⟨i, rfl, hz, (c.mono s1).plain A1 (.str _) h1⟩
def dJs : List DE → Str → Ev → Ms → (Str → Ms → Prop) → Prop
  | [], acc => fun _ M q => q acc M
  | d :: ds, acc => fun η M q => d η M fun l M1 => ∃ y : Str, l = .d (.str y) ∧ (acc ++ y).length ≤ sizeLine ∧ dJs ds (acc ++ y) η M1 q
def dFs (ds : List DE) : DE := fun η M q => dJs ds Str.empty η M fun out M1 => q (.d (.str out)) M1
inductive PXJ (X : Cx) (G : GH) : List Expr → List DE → Prop where
  | nil : PXJ X G [] []
  | cons {e : Expr} {d : DE} {es : List Expr} {ds : List DE} (h : PX X G e d) (r : PXJ X G es ds) : PXJ X G (e :: es) (d :: ds)
theorem PXJ.pj {es : List Expr} {ds : List DE} (h : PXJ X G es ds) : PJ X es (ds.map (LE X.K G)) := by
  induction h with
  | nil => exact .nil
  | cons h _ ih => exact .cons h ih
theorem js_le {K : PySem.W.Frag} {σ : L2.St} {η : Ev} : ∀ (ds : List DE) (acc : Str) {F R : Hp} {M : Ms} {H : Hp} {q : Str → Ms → Prop} {Q : Str → Hp → Prop}, SG G F R → Abs K F R M H → Er K F σ η → dJs ds acc η M q →
    (∀ out M' H' F', Same F F' → Abs K F' R M' H' → q out M' → Q out H') → tJs (ds.map (LE K G)) acc σ H Q
  | [], acc, F, R, M, H, q, Q, hG, A, E, h, c => c acc M H F (Same.refl F) A h
  | d :: ds, acc, F, R, M, H, q, Q, hG, A, E, h, c => by
    refine le_bind hG A E h fun l M1 v H1 F1 g1 s1 A1 E1 r1 h1 => ?_
    obtain ⟨y, rfl, hz, h1⟩ := h1
    cases r1
    exact ⟨y, rfl, hz, js_le ds (acc ++ y) g1 A1 E1 h1 fun out M' H' F' s' => c out M' H' F' (s1.trans s')⟩
theorem px_fs {v1 v2 : Expr} {rest : List Expr} {ds : List DE} (h : PXJ X G (v1 :: v2 :: rest) ds) : PX X G (.JoinedStr (v1 :: v2 :: rest) pos) (dFs ds) := by
  refine pe_imp (pe_joined h.pj) ?_
  rintro σ H Q ⟨F, R, η, M, q, hG, A, E, h, c⟩
  exact js_le ds Str.empty hG A E h fun out M' H' F' s' A' hq => (c.mono s').plain A' (.str _) hq
end
end DL
end
section
/-! x, *rest = a list; k in d, d.get(k), d.get(k, x), {k: v for ..} -/
namespace DL
open PySem PySem.Spec PyProof.Rows L2
theorem star_itemsL {prog : Program} {w : World} {A : Around} {E : Value → Shared → Prop} {s : Shared} {l : Addr} {items : Array Value} {i : Nat} {Q : List Value → Shared → Prop}
    (hh : A.handled = none) (hl : s.heap.IsList l items) (hi : i ≤ items.size) (hz : items.size ≤ 16384)
    (h : ∀ (D : Addr) (h' : Heap) (tk : Nat), s.heap.get? D = none → (∀ b o, s.heap.get? b = some o → h'.get? b = some o) → h'.get? D = some (W.listOf (items.toList.drop i).toArray 0) →
      Q (items.toList.take i ++ [.ref D]) { s with heap := h', toks := tk }) :
    wpAny (model prog w) A (unpackItems (.ref l) (i + 1) (some i)) Q E s := by
  have hlt : l < s.heap.objs.size := by obtain ⟨o, e, _⟩ := hl; exact Heap.lt_size e
  have hne : l ≠ s.heap.objs.size := Nat.ne_of_lt hlt
  unfold unpackItems
  refine wpAny_bind ?_
  unfold notIterableAtAll
  refine wpAny_bind (wpAny_specialOf hl.typeIs slot_list_iter.lookup ?_)
  refine wpAny_pure ?_
  simp only [Bool.false_eq_true, if_false]
  refine wpAny_bind (wpAny_holding (wpAny_pyIter_list hl ?_))
  refine wpAny_bind (wpAny_holding (W.kun_draw hne i 0 _ _ ⟨_, Heap.get?_push_size _ rfl, rfl, rfl⟩ (hl.push _) (by omega) fun h1 hI hS => ?_))
  rw [Nat.zero_add] at hI
  rw [List.drop_zero]
  have hl1 : (items.toList.take i).length = i := by rw [List.length_take, Array.length_toList]; omega
  rw [if_neg (show ¬ ((items.toList.take i).length < i) by rw [hl1]; omega)]
  have k1 : ∀ b o, s.heap.get? b = some o → h1.get? b = some o := fun b o e => by
    rw [hS.2 b (Nat.ne_of_lt (Heap.lt_size e))]
    exact Heap.get?_push_of_some _ e
  have hz1 : h1.objs.size = s.heap.objs.size + 1 := by
    rw [hS.1]
    exact Heap.size_push ..
  have a1 : s.heap.objs.size < h1.objs.size := by omega
  have a2 : l < h1.objs.size := Nat.lt_trans hlt a1
  have hl₁ : h1.IsList l items := hl.at fun o e => k1 _ o e
  refine wpAny_bind (wpAny_holding (W.kun_collect (s := { s with heap := h1 }) (T := "list_iterator") (.inr (.inr (.inl rfl))) (Walks.list (A := A.in1) hh s.heap.objs.size l hne items) (fun j u st => st.1.typeIs) (k := i) hi ⟨hI, hl₁⟩ a1 a2 (fun h2 tk k2 => ?_) (by rw [sizeLine_eq]; omega)))
  have hrl : (items.toList.drop i).length = items.size - i := by rw [List.length_drop, Array.length_toList]
  show wpAny _ _ (if (items.toList.drop i).length < i + 1 - 1 - i then _ else _) _ _ _
  rw [if_neg (by omega)]
  show wpAny _ _ (newList ((items.toList.drop i).take ((items.toList.drop i).length - (i + 1 - 1 - i))) >>= fun d => pure (items.toList.take i ++ [d] ++ (items.toList.drop i).drop ((items.toList.drop i).length - (i + 1 - 1 - i)))) _ _ _
  have e0 : (items.toList.drop i).length - (i + 1 - 1 - i) = (items.toList.drop i).length := by omega
  rw [e0, List.take_length, List.drop_length]
  have k3 : ∀ b o, s.heap.get? b = some o → h2.get? b = some o := fun b o e => k2 b o (Nat.ne_of_lt (Heap.lt_size e)) (k1 b o e)
  refine wpAny_bind (wpAny_newList ?_ (by rw [List.length_drop, Array.length_toList, sizeLine_eq]; omega))
  refine wpAny_pure ?_
  rw [List.append_nil]
  refine h h2.objs.size _ tk ?_ (fun b o e => Heap.get?_push_of_some _ (k3 b o e)) (Heap.get?_push_size _ rfl)
  cases e : s.heap.get? h2.objs.size with
  | none => rfl
  | some o => exact absurd (Heap.lt_size (k3 _ _ e)) (Nat.lt_irrefl _)
section
variable {X : Cx} {G : GH}
def gStarKL (K : PySem.W.Frag) (i : Nat) (t : TGs) : TG := fun v σ H Q => ∃ a xs, v = .ref a ∧ SqL K H a xs ∧ i ≤ xs.length ∧ xs.length ≤ 16384 ∧ ∀ p, H p = none → t (xs.take i ++ [.ref p]) σ (upd H p (.lst (xs.drop i))) Q
theorem pg_starL {es es' : List Expr} {k i : Nat} {t : TGs} {pos : Pos} (hc : X.calm = true) (h : PGs X es' t)
    (hn : (assignEach es X.env).length = i + 1) (hst : (assignEach es X.env).findIdx? (·.1) = some i) (hs : (assignEach es X.env).map (·.2) = (assignEach es' X.env).map (·.2)) : PG X (.Tuple es k pos) (gStarKL X.K i t) := by
  refine ⟨fun pins s σ H v u Q I r h1 => ?_⟩
  obtain ⟨a, xs, rfl, hT, hi, hz, q⟩ := h1
  obtain ⟨its, rv, hl, _⟩ := I.list hT
  obtain rfl : u = .ref a := r
  have hlen : its.length = xs.length := rv.length.symm
  rw [arm_assign_Tuple]
  refine wpAny_bind (wpAny_standAt ?_)
  unfold unpack
  rw [hn, hst]
  refine wpAny_bind (wpAny_holding (star_itemsL (items := its.toArray) (i := i) (I.ok.hd hc) hl.isList (by simpa [hlen] using hi) (by simpa [hlen] using hz) fun D h' tk hD hk hL => ?_))
  have oD : ObjOk X.prog X.w (upd H D (.lst (xs.drop i))) h' D (.lst (xs.drop i)) := by
    refine ⟨?_, its.drop i, 0, vals_drop i rv, by simpa using hL⟩
    rw [List.length_drop, sizeLine_eq]
    omega
  obtain ⟨hn, I2⟩ := inv_new1 (t' := tk) I hk hD oD
  rw [hs]
  exact h.run pins _ σ _ _ _ Q I2 (vals_app (by simpa using vals_take i rv) (.cons (show L2.RelV (.ref D) (.ref D) from rfl) .nil)) (q D hn)
/-- x, *rest = a list -/
def gStarL (i : Nat) (gs : DGs) : DG := fun l η M q => ∃ xs, l = .d (.list xs) ∧ i ≤ xs.length ∧ xs.length ≤ 16384 ∧ gs ((xs.take i).map L.d ++ [.d (.list (xs.drop i))]) η M q
theorem pxg_starL {es es' : List Expr} {k i : Nat} {gs : DGs} {pos : Pos} (hc : X.calm = true) (h : PXGs X G es' gs)
    (hn : (assignEach es X.env).length = i + 1 := by rfl) (hst : (assignEach es X.env).findIdx? (·.1) = some i := by rfl) (hs : (assignEach es X.env).map (·.2) = (assignEach es' X.env).map (·.2) := by rfl) : PXG X G (.Tuple es k pos) (gStarL i gs) := by
  refine pg_imp (pg_starL hc h hn hst hs) ?_
  rintro v σ H Q ⟨F, R, η, M, l, q, hG, A, E, r, ⟨xs, rfl, hi, hz, h⟩, c⟩
  obtain ⟨a, vs, rfl, hT, ra⟩ := rd_list A r rfl
  refine ⟨a, vs, rfl, hT.l, by rw [ra.length]; exact hi, by rw [ra.length]; exact hz, fun p hp => ?_⟩
  have s := same_new (o := .lst (vs.drop i)) (A.freeF hp)
  refine ⟨_, R, η, M, _, q, hG.trans s, A.frz hp, E.mono s, lrs_app (LRs.of_data (RpA.mono s (rpa_take i ra))) (.cons (show LR _ _ (.ref p) (.d (.list (xs.drop i))) from Rp.lst (.inl (.inl upd_same)) (RpA.mono s (rpa_drop i ra))) .nil), h, fun η' M' σ' H' F' s' => c η' M' σ' H' F' (s.trans s')⟩
end

/-! ### dicts of numbers and texts -/
theorem kr_none {K : PySem.W.Frag} {F : Hp} {k : L2.Key} : ∀ {vs : List (L2.Key × V)} {ls : List (L2.Key × L)}, KR K F vs ls → (valV vs k).isSome = (valL ls k).isSome
  | _, _, .nil => rfl
  | (k1, v) :: vs, (k2, m) :: ls, .cons ⟨e, r⟩ t => by
    have e : k1 = k2 := e
    subst e
    have ih := kr_none (k := k) t
    unfold valL valV at *
    by_cases c : k1 = k
    · subst c
      simp
    · simp only [List.find?_cons, c, decide_false]
      exact ih
section
variable {X : Cx} {G : GH} {o i x : Expr} {de dk dx : DE} {apos pos : Pos}
/-- k in d, k not in d -/
def dtKin (neg : Bool) (dk de : DE) : DT := fun η M q => dk η M fun k M1 => de η M1 fun l M2 => ∃ a kvs k', k = .d (kD k') ∧ l = .p a ∧ M2 a = some (.dct kvs) ∧ q ((valL kvs k').isSome != neg) M2
theorem pxt_kin (hr : RoomG 0 X.A) (hi : PX X G i dk) (ho : PX X G o de) (hm : behindInMarks .In o = false := by first | exact nomark _ | rfl) : PXT X G (.Compare i [.In] [o] pos) (dtKin false dk de) := by
  refine pt_imp (pt_cmp (pc_din (by have := hr.rm.un; omega) hi ho) hm) ?_
  rintro σ H Q ⟨F, R, η, M, q, hG, A, E, h, c⟩
  refine le_bind hG A E h fun k M1 v H1 F1 g1 s1 A1 E1 r1 h1 => le_bind g1 A1 E1 h1 fun l M2 w H2 F2 g2 s2 A2 E2 r2 h2 => ?_
  obtain ⟨a, kvs, k', rfl, rfl, hm, h2⟩ := h2
  obtain rfl : w = .ref a := r2
  obtain ⟨_, _, vs, hv, rl⟩ := A2.mu a _ hm
  obtain rfl := rp_kD r1
  refine ⟨a, _, rfl, DGet.k hv, _, rfl, ?_⟩
  rw [kr_none rl]
  have : ((valL kvs k').isSome != false) = (valL kvs k').isSome := by cases (valL kvs k').isSome <;> rfl
  rw [this] at h2
  exact c _ M2 H2 F2 (s1.trans s2) A2 h2
theorem pxt_knotin (hr : RoomG 0 X.A) (hi : PX X G i dk) (ho : PX X G o de) (hm : behindInMarks .NotIn o = false := by first | exact nomark _ | rfl) : PXT X G (.Compare i [.NotIn] [o] pos) (dtKin true dk de) := by
  refine pt_imp (pt_cmp (pc_dnotin (by have := hr.rm.un; omega) hi ho) hm) ?_
  rintro σ H Q ⟨F, R, η, M, q, hG, A, E, h, c⟩
  refine le_bind hG A E h fun k M1 v H1 F1 g1 s1 A1 E1 r1 h1 => le_bind g1 A1 E1 h1 fun l M2 w H2 F2 g2 s2 A2 E2 r2 h2 => ?_
  obtain ⟨a, kvs, k', rfl, rfl, hm, h2⟩ := h2
  obtain rfl : w = .ref a := r2
  obtain ⟨_, _, vs, hv, rl⟩ := A2.mu a _ hm
  obtain rfl := rp_kD r1
  refine ⟨a, _, rfl, DGet.k hv, _, rfl, ?_⟩
  rw [kr_none rl]
  have : ((valL kvs k').isSome != true) = !(valL kvs k').isSome := by cases (valL kvs k').isSome <;> rfl
  rw [this] at h2
  exact c _ M2 H2 F2 (s1.trans s2) A2 h2
/-- d.get(k) -/
def dGetO (de dk : DE) : DE := fun η M q => de η M fun l M1 => ∃ a, l = .p a ∧ (∃ kvs, M1 a = some (.dct kvs)) ∧ dk η M1 fun k M2 => ∃ kvs k', k = .d (kD k') ∧ M2 a = some (.dct kvs) ∧ q ((valL kvs k').getD (.d .none)) M2
theorem kr_getD {K : PySem.W.Frag} {F : Hp} {k : L2.Key} {vs : List (L2.Key × V)} {ls : List (L2.Key × L)} {v : V} {l : L} (r : KR K F vs ls) (h : LR K F v l) : LR K F ((valV vs k).getD v) ((valL ls k).getD l) := by
  cases e : valL ls k with
  | some m =>
    obtain ⟨u, hu, ru⟩ := kr_val r e
    rw [hu]
    exact ru
  | none =>
    have := kr_none (k := k) r
    rw [e] at this
    cases e2 : valV vs k with
    | none => exact h
    | some u => rw [e2] at this; cases this
theorem px_getO (hr : RoomG 0 X.A) (ho : PX X G o de) (hi : PX X G i dk) (hbase : attributeBase o "get" X.env (eval o X.env) = eval o X.env := by rfl)
    (hfew : ((backTo pos (starEach [i] X.env)).all (fun x => !x.1) && (backToKw pos (keywordEach [] X.env)).all (fun x => x.1.isSome)
      && decide (([i] : List Expr).length + ([] : List Keyword).length + (if ([] : List Keyword).isEmpty then 0 else 1) < 30)) = true := by rfl)
    (hline : (apos.endLine == pos.line) = true := by rfl) (htr : backTo pos (starEach [i] X.env) = [(false, eval i X.env)] := by rfl) : PX X G (.Call (.Attribute o "get" apos) [i] [] pos) (dGetO de dk) := by
  refine pe_imp (pe_dget1 (by have := hr.rm.un; omega) ho hi ⟨hbase, hfew, hline, htr⟩) ?_
  rintro σ H Q ⟨F, R, η, M, q, hG, A, E, h, c⟩
  refine le_bind hG A E h fun l M1 v H1 F1 g1 s1 A1 E1 r1 h1 => ?_
  obtain ⟨a, rfl, ⟨kvs0, hm0⟩, h1⟩ := h1
  obtain rfl : v = .ref a := r1
  obtain ⟨_, _, vs0, hv0, _⟩ := A1.mu a _ hm0
  refine ⟨a, rfl, .inl ⟨vs0, .inl hv0⟩, le_bind g1 A1 E1 h1 fun k M2 w H2 F2 g2 s2 A2 E2 r2 h2 => ?_⟩
  obtain ⟨kvs, k', rfl, hm, h2⟩ := h2
  obtain ⟨_, _, vs, hv, rl⟩ := A2.mu a _ hm
  obtain rfl := rp_kD r2
  exact ⟨_, DGet.k hv, c _ M2 _ H2 F2 (s1.trans s2) A2 (kr_getD rl (l := .d .none) Rp.non) h2⟩
/-- d.get(k, x) -/
def dGetO2 (de dk dx : DE) : DE := fun η M q => de η M fun l M1 => ∃ a, l = .p a ∧ (∃ kvs, M1 a = some (.dct kvs)) ∧ dk η M1 fun k M2 => dx η M2 fun z M3 => ∃ kvs k', k = .d (kD k') ∧ M3 a = some (.dct kvs) ∧ q ((valL kvs k').getD z) M3
theorem px_getO2 (hr : RoomG 0 X.A) (ho : PX X G o de) (hi : PX X G i dk) (hx : PX X G x dx) (hbase : attributeBase o "get" X.env (eval o X.env) = eval o X.env := by rfl)
    (hfew : ((backTo pos (starEach [i, x] X.env)).all (fun x => !x.1) && (backToKw pos (keywordEach [] X.env)).all (fun x => x.1.isSome)
      && decide (([i, x] : List Expr).length + ([] : List Keyword).length + (if ([] : List Keyword).isEmpty then 0 else 1) < 30)) = true := by rfl)
    (hline : (apos.endLine == pos.line) = true := by rfl) (htr : backTo pos (starEach [i, x] X.env) = [(false, eval i X.env), (false, eval x X.env)] := by rfl) : PX X G (.Call (.Attribute o "get" apos) [i, x] [] pos) (dGetO2 de dk dx) := by
  refine pe_imp (pe_dget2 (by have := hr.rm.un; omega) ho hi hx ⟨hbase, hfew, hline, htr⟩) ?_
  rintro σ H Q ⟨F, R, η, M, q, hG, A, E, h, c⟩
  refine le_bind hG A E h fun l M1 v H1 F1 g1 s1 A1 E1 r1 h1 => ?_
  obtain ⟨a, rfl, ⟨kvs0, hm0⟩, h1⟩ := h1
  obtain rfl : v = .ref a := r1
  obtain ⟨_, _, vs0, hv0, _⟩ := A1.mu a _ hm0
  refine ⟨a, rfl, .inl ⟨vs0, .inl hv0⟩, le_bind g1 A1 E1 h1 fun k M2 w H2 F2 g2 s2 A2 E2 r2 h2 => le_bind g2 A2 E2 h2 fun z M3 u H3 F3 g3 s3 A3 E3 r3 h3 => ?_⟩
  obtain ⟨kvs, k', rfl, hm, h3⟩ := h3
  obtain ⟨_, _, vs, hv, rl⟩ := A3.mu a _ hm
  obtain rfl := rp_kD r2
  exact ⟨_, DGet.k hv, c _ M3 _ H3 F3 ((s1.trans s2).trans s3) A3 (kr_getD rl r3) h3⟩
end

/-! ### dict comprehensions -/
theorem SG.moreO {G : GH} {F R : Hp} {D : Addr} {o : HO} (h : SG G F R) (r : R D = none) : SG G F (upd R D o) := ⟨h.1, h.2.trans (same_new r)⟩
def dDcN (g : DG) (t : DT) (dk dv : DE) (η : Ev) (k : List (L2.Key × L) → Ms → Prop) : List PyData → List (L2.Key × L) → Ms → Prop
  | [], acc => k acc
  | x :: xs, acc => fun M => g (.d x) η M fun η1 M1 => t η1 M1 fun c M2 => if c = true then dk η1 M2 fun y M3 => dv η1 M3 fun z M4 => ∃ k', y = .d (kD k') ∧ acc.length < sizeLine ∧ dDcN g t dk dv η k xs (putL acc k' z) M4 else dDcN g t dk dv η k xs acc M2
def dDc (di : DI) (g : DG) (t : DT) (dk dv : DE) (vs : List Nat) : DE := fun η M q => di η M fun xs M1 => dDcN g t dk dv (wipeD η vs) (fun kvs M2 => ∀ a, M2 a = none → q (.p a) (updM M2 a (.dct kvs))) xs [] M1
theorem le_dc {K : PySem.W.Frag} {G : GH} {di : DI} {g : DG} {t : DT} {tgH : TG} {dk dv : DE} {vs : List Nat} (gw : GWk K tgH g vs) {σ : L2.St} {H : Hp} {Q : VK} (h : LE K G (dDc di g t dk dv vs) σ H Q) : tDc (LI K G di) tgH (LT K G t) (LE K G dk) (LE K G dv) vs σ H Q := by
  obtain ⟨F, R, η, M, q, hG, A, E, h, c⟩ := h
  refine ⟨F, R, η, M, _, hG, A, E, h, fun xs M1 J H1 F1 s1 A1 jd h1 D hD => ?_⟩
  have rD := A1.freeR hD
  refine ⟨fun i m H => m = xs.length - i ∧ i ≤ xs.length ∧ ∃ F2 M2 va acc, Same F1 F2 ∧ Abs K F2 (upd R D (.dK va)) M2 H ∧ KR K F2 va acc ∧ dDcN g t dk dv (wipeD η vs) (fun kvs M2 => ∀ a, M2 a = none → q (.p a) (updM M2 a (.dct kvs))) (xs.drop i) acc M2,
    ⟨xs.length, rfl, Nat.zero_le _, F1, M1, [], [], Same.refl F1, A1.aside hD, .nil, h1⟩, ?_⟩
  rintro i m H2 ⟨rfl, hi, F2, M2, va, acc, s2, A2, ra, h2⟩
  by_cases hlt : i < xs.length
  · refine .inr ⟨jd.go F2 _ M2 H2 i s2 A2 hlt, fun H' => i + 1 ≤ xs.length ∧ ∃ F3 M3 va acc, Same F1 F3 ∧ Abs K F3 (upd R D (.dK va)) M3 H' ∧ KR K F3 va acc ∧ dDcN g t dk dv (wipeD η vs) (fun kvs M2 => ∀ a, M2 a = none → q (.p a) (updM M2 a (.dct kvs))) (xs.drop (i + 1)) acc M3, ?_, ?_⟩
    · rintro H' ⟨hi', z⟩
      exact ⟨xs.length - (i + 1), by omega, rfl, hi', z⟩
    · intro x H3 hy
      obtain ⟨F3, s3, A3, r3⟩ := jd.yld F2 _ M2 H2 i x H3 xs[i] s2 A2 (List.getElem?_eq_getElem hlt) hy
      have h2' : dDcN g t dk dv (wipeD η vs) (fun kvs M2 => ∀ a, M2 a = none → q (.p a) (updM M2 a (.dct kvs))) (xs[i] :: xs.drop (i + 1)) acc M2 := by
        rw [← List.drop_eq_getElem_cons hlt]
        exact h2
      refine gw F3 _ M2 H3 _ _ x (.d xs[i]) _ _ A3 (er_wipe (((E.mono s1).mono s2).mono s3) vs) r3 h2' fun η4 M4 σ4 E4 w4 A4 h4 => ?_
      refine ⟨by rw [w4, wipe_wipe], lt_bind (hG.moreO (o := .dK va) rD |>.trans ((s1.trans s2).trans s3)) A4 E4 h4 fun b M5 H5 F5 g5 s5 A5 E5 h5 => ?_⟩
      cases b with
      | false => exact iteF ⟨hlt, F5, M5, va, acc, (s2.trans s3).trans s5, A5, KR.mono (s3.trans s5) ra, h5⟩
      | true =>
        refine iteT (le_bind g5 A5 E5 h5 fun y M6 v H6 F6 g6 s6 A6 E6 r6 h6 => le_bind g6 A6 E6 h6 fun z M7 w H7 F7 g7 s7 A7 E7 r7 h7 => ?_)
        obtain ⟨k', rfl, hz, h7⟩ := h7
        obtain rfl := rp_kD r6
        have r' := KR.mono (((s3.trans s5).trans s6).trans s7) ra
        exact ⟨va, k', rfl, (A7.rs D _ upd_same).2, by rw [kr_len r']; exact hz, hlt, F7, M7, _, _, (((s2.trans s3).trans s5).trans s6).trans s7, A7.again, kr_put r' r7, h7⟩
  · have e : i = xs.length := by omega
    subst e
    rw [List.drop_length] at h2
    refine .inl ⟨jd.stop F2 _ M2 H2 s2 A2, ?_⟩
    have hH := (A2.rs D _ upd_same).2
    obtain ⟨mn, A3⟩ := A2.keepM rD (m := .dct acc) ⟨va, hH, ra⟩
    exact c (.p D) _ (.ref D) _ _ (s1.trans s2) A3 rfl (h2 D mn)
theorem ps_setDc {X : Cx} {i : Nat} {y : Str} {py : Pos} {kx vx tg iter : Expr} {ifs : List Expr} {scope : Scope} {own : List (Str × Nat)} {pos spos : Pos} {wi : TI} {g : TG} {tt : TT} {tk tv : TE} (hc : X.calm = true) (hN : X.N.Nodup) (hy : X.N[i]? = some y) (hyl : X.env.scope.names.lookup y = some .local)
    (hsw : swapsWith (.DictComp kx vx [⟨tg, iter, ifs, 0⟩] scope pos) (some (.Name y py)) spos.line X.env = pure true) (hi : PI X tg iter wi) (ok : BlkOk X.N X.env.scope scope own)
    (hg : ∀ (s : Shared) (H : Hp) (C : Addr) (cl : List (Str × Addr)) (fp : List Addr), PG (X.blk s H scope (compEnvC scope cl C X.env) fp) tg g) (ht : ∀ (s : Shared) (H : Hp) (C : Addr) (cl : List (Str × Addr)) (fp : List Addr), PTs (X.blk s H scope (compEnvC scope cl C X.env) fp) ifs tt)
    (hk : ∀ (s : Shared) (H : Hp) (C : Addr) (cl : List (Str × Addr)) (fp : List Addr), PE (X.blk s H scope (compEnvC scope cl C X.env) fp) kx tk)
    (he : ∀ (s : Shared) (H : Hp) (C : Addr) (cl : List (Str × Addr)) (fp : List Addr), PE (X.blk s H scope (compEnvC scope cl C X.env) fp) vx tv) (hs : ∀ x, foldedSetIterable iter X.env x = pure x := by intro _; rfl) :
    PS X (.Assign [.Name y py] (.DictComp kx vx [⟨tg, iter, ifs, 0⟩] scope pos) spos) (tAsg (tDc wi g tt tk tv (own.map (·.2))) (gName i)) := by
  refine ⟨fun pins s σ H D I h => ?_⟩
  rw [exec_Assign_Name_used _ _ _ _ hsw]
  refine wpAny_bind (wpAny_standAt (wpAny_bind ?_))
  show wpAny _ X.A (do let _ ← comprehension (.DictComp kx vx [⟨tg, iter, ifs, 0⟩] scope pos) scope X.env (firstIterPos [⟨tg, iter, ifs, 0⟩] pos) newDict false (eval iter X.env) (some (assign (.Name y py) X.env))) _ _ s
  have h : tDc wi g tt tk tv (own.map (·.2)) σ H (fun x H1 => gName i x σ H1 D.nx) := h
  refine wpAny_bind (thn (dc_core (Qf := fun _ s' => SP X pins D .next s') hc hN I hi ok hg ht hk he hs h fun L C s' m H' I' q hn f => ?_) fun _ s' hq => wpAny_pure (wpAny_pure hq))
  show wpAny _ _ (assign (.Name y py) X.env (.ref L)) _ _ _
  refine wpAny_assign_Name (store_ok2 (v := V.ref L) I' hN hy (.inl hyl) rfl (fun s2 I2 ⟨a, sb, ha⟩ => ?_) (.inr hyl))
  obtain ⟨f0, f1, f2, f3, f4, f5⟩ := f
  have haC : C ≠ a := by
    rcases ha with z | z
    · rw [z]; exact f1
    · exact fun e => f4 y a z e.symm
  refine ⟨m, hn.sameBut sb haC, fun h3 sb3 => ?_⟩
  exact ⟨_, H', I2.turned (t' := s2.toks) (fun b o hb e => (sb3.2 b hb).trans e) f0 f1 f3 f4 f5, q⟩
theorem sw_trueD {kx vx : Expr} {gs : List Comprehension} {scope : Scope} {pos py : Pos} {y : Str} {l : Nat} {env : Env} (hk : env.scope.kind = .function) (hy : env.scope.names.lookup y = some .local) (hl : (py.line == pos.line) = true)
    (ha : (scope.names.any fun (n, k) => n == y && (k == .local || k == .cell)) = false) : swapsWith (.DictComp kx vx gs scope pos) (some (.Name y py)) l env = pure true := by
  have ky : env.kindOf y = some .local := hy
  have hb : env.blockKind = .function := by unfold Env.blockKind; rw [hk]; rfl
  unfold swapsWith
  simp only [hb, ky, ha, Expr.pos, hl]
  rfl
section
variable {X : Cx} {G : GH} {tg iter kx vx : Expr} {pos : Pos} {dk dv : DE} {t : DT}
theorem px_dc {ifs : List Expr} {scope : Scope} (own : List (Str × Nat)) {di : DI} {g : DG} {tgH : TG} (gw : GWk X.K tgH g (own.map (·.2))) (hc : X.calm = true) (hN : X.N.Nodup) (hi : PXI X G tg iter di) (ok : blkC X.N X.env.scope scope own = true)
    (hg : ∀ s H C cl fp, PG (bk X scope s H C cl fp) tg tgH) (ht : ∀ s H C cl fp, PTs (bk X scope s H C cl fp) ifs (LT X.K G t))
    (hk : ∀ s H C cl fp, PX (bk X scope s H C cl fp) G kx dk) (he : ∀ s H C cl fp, PX (bk X scope s H C cl fp) G vx dv) (hs : ∀ x, foldedSetIterable iter X.env x = pure x := by intro _; rfl) :
    PX X G (.DictComp kx vx [⟨tg, iter, ifs, 0⟩] scope pos) (dDc di g t dk dv (own.map (·.2))) :=
  pe_imp (pe_dc (tk := LE X.K G dk) (tv := LE X.K G dv) hc hN hi (blkOk_by ok) hg ht hk he hs) fun _ _ _ h => le_dc gw h
theorem pxs_setDc (i : Nat) {y : Str} {py spos : Pos} {ifs : List Expr} {scope : Scope} (own : List (Str × Nat)) {di : DI} {g : DG} {tgH : TG} (gw : GWk X.K tgH g (own.map (·.2))) (hc : X.calm = true) (hN : X.N.Nodup) (hi : PXI X G tg iter di) (ok : blkC X.N X.env.scope scope own = true)
    (hg : ∀ s H C cl fp, PG (bk X scope s H C cl fp) tg tgH) (ht : ∀ s H C cl fp, PTs (bk X scope s H C cl fp) ifs (LT X.K G t))
    (hk : ∀ s H C cl fp, PX (bk X scope s H C cl fp) G kx dk) (he : ∀ s H C cl fp, PX (bk X scope s H C cl fp) G vx dv)
    (hsw : swapsWith (.DictComp kx vx [⟨tg, iter, ifs, 0⟩] scope pos) (some (.Name y py)) spos.line X.env = pure true) (hy : X.N[i]? = some y := by rfl) (hyl : X.env.scope.names.lookup y = some .local := by rfl) (hs : ∀ x, foldedSetIterable iter X.env x = pure x := by intro _; rfl) :
    PXS X G (.Assign [.Name y py] (.DictComp kx vx [⟨tg, iter, ifs, 0⟩] scope pos) spos) (dSet i (dDc di g t dk dv (own.map (·.2)))) := by
  refine ps_imp (ps_setDc (tk := LE X.K G dk) (tv := LE X.K G dv) hc hN hy hyl hsw hi (blkOk_by ok) hg ht hk he hs) ?_
  rintro D σ H ⟨F, R, η, M, d, hG, A, E, h, k⟩
  exact le_dc gw (le_bind hG A E h fun l M1 v H1 F1 g1 s1 A1 E1 r1 h1 => k.nx _ M1 _ H1 F1 s1 A1 (E1.set i r1) h1)
end
end DL
end
section
/-! facts on readings and on data, for every law -/
namespace NS
open PySem PySem.Spec PyProof.Rows L2 DL

theorem isi_iff {v : PyData} {T : String} {M : Ms} {q : DQ} : isiW [.d v, .c (.ty T)] M q ↔ ∃ k, isTy T v = some k ∧ q (.d (.bool k)) M := by
  constructor
  · rintro ⟨a, x, T', k, e1, e2, e3, h⟩
    cases e1
    cases e2
    exact ⟨k, e3, h⟩
  · rintro ⟨k, e, h⟩
    exact ⟨_, v, T, k, rfl, rfl, e, h⟩
theorem ty_eq {T : String} {f : String → Bool} (h : ∀ n ∈ ["NoneType", "bool", "int", "str", "list", "tuple", "dict"], kitB n T = some (f n)) (v : PyData) : isTy T v = some (f (tyN v)) := by
  refine h _ ?_
  cases v <;> simp [tyN]
theorem ty_int (v : PyData) : isTy "int" v = some (tyN v == "int" || tyN v == "bool") := ty_eq (T := "int") (f := fun n => n == "int" || n == "bool") (by decide +kernel) v
theorem ty_bool (v : PyData) : isTy "bool" v = some (tyN v == "bool") := ty_eq (T := "bool") (f := fun n => n == "bool") (by decide +kernel) v
theorem ty_tuple (v : PyData) : isTy "tuple" v = some (tyN v == "tuple") := ty_eq (T := "tuple") (f := fun n => n == "tuple") (by decide +kernel) v
theorem ty_list (v : PyData) : isTy "list" v = some (tyN v == "list") := ty_eq (T := "list") (f := fun n => n == "list") (by decide +kernel) v
theorem ty_str (v : PyData) : isTy "str" v = some (tyN v == "str") := ty_eq (T := "str") (f := fun n => n == "str") (by decide +kernel) v
theorem ty_dict (v : PyData) : isTy "dict" v = some (tyN v == "dict") := ty_eq (T := "dict") (f := fun n => n == "dict") (by decide +kernel) v

/-! ### what is drawn from -/
def kDeep : L2.Key := .inr "deep"
def kState : L2.Key := .inr "state"
def P61 : Int := 2305843009213693951
/-- the deck at a, its list at l -/
def DeckAt (a l : Addr) (M : Ms) : Prop := ∃ (ds : List Int) (st : Int), M a = some (.dct [(kDeep, .p l), (kState, .d (.int st))]) ∧ M l = some (.lst (ds.map fun i => L.d (.int i))) ∧
  a ≠ l ∧ 0 ≤ st ∧ st < P61 ∧ (∀ x ∈ ds, 0 ≤ x) ∧ ds.length ≤ 63
/-- all but the deck is as it was -/
def Keep (a l : Addr) (M M' : Ms) : Prop := ∀ b, b ≠ a → b ≠ l → M b ≠ none → M' b = M b
theorem Keep.refl {a l : Addr} (M : Ms) : Keep a l M M := fun _ _ _ _ => rfl
theorem Keep.trans {a l : Addr} {M M1 M2 : Ms} (h : Keep a l M M1) (k : Keep a l M1 M2) : Keep a l M M2 := fun b x y z => (k b x y (by rw [h b x y z]; exact z)).trans (h b x y z)
theorem valL_deep {l : Addr} {st : Int} : valL [(kDeep, L.p l), (kState, L.d (.int st))] (.inr "deep") = some (.p l) := by
  unfold valL kDeep
  rw [List.find?_cons_of_pos (by simp)]
  rfl
theorem key_ne : ¬ ((Sum.inr ("deep" : Str) : L2.Key) = Sum.inr ("state" : Str)) := by decide +kernel
theorem valL_state {l : Addr} {st : Int} : valL [(kDeep, L.p l), (kState, L.d (.int st))] (.inr "state") = some (.d (.int st)) := by
  unfold valL kDeep kState
  rw [List.find?_cons_of_neg (by simpa using key_ne), List.find?_cons_of_pos (by simp)]
  rfl
theorem putL_state {l : Addr} {st : Int} {y : L} : putL [(kDeep, L.p l), (kState, L.d (.int st))] (.inr "state") y = [(kDeep, .p l), (kState, y)] := by
  have h1 : ¬ (kDeep = (.inr "state" : L2.Key)) := key_ne
  have h2 : (kState = (.inr "state" : L2.Key)) := rfl
  unfold putL
  rw [if_pos (by simp [h2])]
  simp only [List.map_cons, List.map_nil, if_neg h1, if_pos h2]
theorem putL_deep {l : Addr} {st : Int} {y : L} : putL [(kDeep, L.p l), (kState, L.d (.int st))] (.inr "deep") y = [(kDeep, y), (kState, .d (.int st))] := by
  have h1 : (kDeep = (.inr "deep" : L2.Key)) := rfl
  have h2 : ¬ (kState = (.inr "deep" : L2.Key)) := fun e => key_ne e.symm
  unfold putL
  rw [if_pos (by simp [h1])]
  simp only [List.map_cons, List.map_nil, if_neg h2, if_pos h1]
theorem kd_deep : PyData.str "deep" = kD (.inr "deep") := rfl
theorem kd_state : PyData.str "state" = kD (.inr "state") := rfl
theorem kD_inj {a b : L2.Key} (h : kD a = kD b) : a = b := by
  cases a <;> cases b <;> simp_all [kD]
/-- a dict's item by a written text -/
theorem get_iff {M : Ms} {a : Addr} {kvs : List (L2.Key × L)} {k : Str} {y : L} {q : DQ} (h1 : M a = some (.dct kvs)) (h2 : valL kvs (.inr k) = some y) (h : q y M) : ∃ a' kvs' k' y', L.p a = .p a' ∧ M a' = some (.dct kvs') ∧ L.d (.str k) = .d (kD k') ∧ valL kvs' k' = some y' ∧ q y' M :=
  ⟨a, kvs, .inr k, y, rfl, h1, rfl, h2, h⟩
theorem allD_ints (ds : List Int) : allD (ds.map fun i => L.d (.int i)) = some (ds.map PyData.int) := by
  have : (ds.map fun i => L.d (.int i)) = (ds.map PyData.int).map L.d := by rw [List.map_map]; rfl
  rw [this, allD_map]
theorem rd_deep {M : Ms} {l : Addr} {ds : List Int} (h : M l = some (.lst (ds.map fun i => L.d (.int i)))) : rd M (.p l) = some (.list (ds.map PyData.int)) := by
  have : (ds.map fun i => L.d (.int i)) = (ds.map PyData.int).map L.d := by rw [List.map_map]; rfl
  rw [this] at h
  exact rd_p h

def sp_law_draw : DSp := fun ls M q => ∃ a l n, ls = [.p a, .d (.int n)] ∧ DeckAt a l M ∧ n < 1073741824 ∧ ∀ r M', 0 ≤ r → (r < n ∨ r = 0) → DeckAt a l M' → Keep a l M M' → q (.d (.int r)) M'
def sp_law_pick : DSp := fun ls M q => ∃ a l xs, ls = [.p a, .d (.list xs)] ∧ DeckAt a l M ∧ xs ≠ [] ∧ xs.length < 1073741824 ∧ ∀ x M', x ∈ xs → DeckAt a l M' → Keep a l M M' → q (.d x) M'
def sp_law_deck : DSp := fun ls M q => ∃ ns : List Int, ls = [.d (.list (ns.map .int))] ∧ ns.length ≤ 63 ∧ ∀ a l M', DeckAt a l M' → (∀ b, M b ≠ none → b ≠ a ∧ b ≠ l) → Keep a l M M' → q (.p a) M'
end NS
end
section
/-! names of parameters in other orders -/
namespace NS
open PySem PySem.Spec PyProof.Rows L2 DL
def kw12 {α : Type} : List α → List α → List α
  | [], [a1, a2] => [a1, a2]
  | _, _ => []
theorem kw12_rel {vs : List V} {us : List Value} {zs : List V} {ws : List Value} (r : Vals vs us) (q : Vals zs ws) : Vals (kw12 vs zs) (kw12 us ws) := by
  cases r with
  | cons _ _ => exact .nil
  | nil =>
    cases q with
    | nil => exact .nil
    | cons a1 t1 =>
      cases t1 with
      | nil => exact .nil
      | cons a2 t2 =>
        cases t2 with
        | cons _ _ => exact .nil
        | nil => exact (.cons a1 (.cons a2 .nil))
theorem kw12_data {K : PySem.W.Frag} (F : Hp) (vs : List V) (ls : List L) (r : LRs K F vs ls) : LRs K F (kw12 [] vs) (kw12 [] ls) := by
  cases r with
  | nil => exact .nil
  | cons a1 t1 =>
    cases t1 with
    | nil => exact .nil
    | cons a2 t2 =>
      cases t2 with
      | cons _ _ => exact .nil
      | nil => exact (.cons a1 (.cons a2 .nil))
def kw21 {α : Type} : List α → List α → List α
  | [], [a1, a2] => [a2, a1]
  | _, _ => []
theorem kw21_rel {vs : List V} {us : List Value} {zs : List V} {ws : List Value} (r : Vals vs us) (q : Vals zs ws) : Vals (kw21 vs zs) (kw21 us ws) := by
  cases r with
  | cons _ _ => exact .nil
  | nil =>
    cases q with
    | nil => exact .nil
    | cons a1 t1 =>
      cases t1 with
      | nil => exact .nil
      | cons a2 t2 =>
        cases t2 with
        | cons _ _ => exact .nil
        | nil => exact (.cons a2 (.cons a1 .nil))
theorem kw21_data {K : PySem.W.Frag} (F : Hp) (vs : List V) (ls : List L) (r : LRs K F vs ls) : LRs K F (kw21 [] vs) (kw21 [] ls) := by
  cases r with
  | nil => exact .nil
  | cons a1 t1 =>
    cases t1 with
    | nil => exact .nil
    | cons a2 t2 =>
      cases t2 with
      | cons _ _ => exact .nil
      | nil => exact (.cons a2 (.cons a1 .nil))
def kw123 {α : Type} : List α → List α → List α
  | [], [a1, a2, a3] => [a1, a2, a3]
  | _, _ => []
theorem kw123_rel {vs : List V} {us : List Value} {zs : List V} {ws : List Value} (r : Vals vs us) (q : Vals zs ws) : Vals (kw123 vs zs) (kw123 us ws) := by
  cases r with
  | cons _ _ => exact .nil
  | nil =>
    cases q with
    | nil => exact .nil
    | cons a1 t1 =>
      cases t1 with
      | nil => exact .nil
      | cons a2 t2 =>
        cases t2 with
        | nil => exact .nil
        | cons a3 t3 =>
          cases t3 with
          | cons _ _ => exact .nil
          | nil => exact (.cons a1 (.cons a2 (.cons a3 .nil)))
theorem kw123_data {K : PySem.W.Frag} (F : Hp) (vs : List V) (ls : List L) (r : LRs K F vs ls) : LRs K F (kw123 [] vs) (kw123 [] ls) := by
  cases r with
  | nil => exact .nil
  | cons a1 t1 =>
    cases t1 with
    | nil => exact .nil
    | cons a2 t2 =>
      cases t2 with
      | nil => exact .nil
      | cons a3 t3 =>
        cases t3 with
        | cons _ _ => exact .nil
        | nil => exact (.cons a1 (.cons a2 (.cons a3 .nil)))
def kw132 {α : Type} : List α → List α → List α
  | [], [a1, a2, a3] => [a1, a3, a2]
  | _, _ => []
theorem kw132_rel {vs : List V} {us : List Value} {zs : List V} {ws : List Value} (r : Vals vs us) (q : Vals zs ws) : Vals (kw132 vs zs) (kw132 us ws) := by
  cases r with
  | cons _ _ => exact .nil
  | nil =>
    cases q with
    | nil => exact .nil
    | cons a1 t1 =>
      cases t1 with
      | nil => exact .nil
      | cons a2 t2 =>
        cases t2 with
        | nil => exact .nil
        | cons a3 t3 =>
          cases t3 with
          | cons _ _ => exact .nil
          | nil => exact (.cons a1 (.cons a3 (.cons a2 .nil)))
theorem kw132_data {K : PySem.W.Frag} (F : Hp) (vs : List V) (ls : List L) (r : LRs K F vs ls) : LRs K F (kw132 [] vs) (kw132 [] ls) := by
  cases r with
  | nil => exact .nil
  | cons a1 t1 =>
    cases t1 with
    | nil => exact .nil
    | cons a2 t2 =>
      cases t2 with
      | nil => exact .nil
      | cons a3 t3 =>
        cases t3 with
        | cons _ _ => exact .nil
        | nil => exact (.cons a1 (.cons a3 (.cons a2 .nil)))
def kw213 {α : Type} : List α → List α → List α
  | [], [a1, a2, a3] => [a2, a1, a3]
  | _, _ => []
theorem kw213_rel {vs : List V} {us : List Value} {zs : List V} {ws : List Value} (r : Vals vs us) (q : Vals zs ws) : Vals (kw213 vs zs) (kw213 us ws) := by
  cases r with
  | cons _ _ => exact .nil
  | nil =>
    cases q with
    | nil => exact .nil
    | cons a1 t1 =>
      cases t1 with
      | nil => exact .nil
      | cons a2 t2 =>
        cases t2 with
        | nil => exact .nil
        | cons a3 t3 =>
          cases t3 with
          | cons _ _ => exact .nil
          | nil => exact (.cons a2 (.cons a1 (.cons a3 .nil)))
theorem kw213_data {K : PySem.W.Frag} (F : Hp) (vs : List V) (ls : List L) (r : LRs K F vs ls) : LRs K F (kw213 [] vs) (kw213 [] ls) := by
  cases r with
  | nil => exact .nil
  | cons a1 t1 =>
    cases t1 with
    | nil => exact .nil
    | cons a2 t2 =>
      cases t2 with
      | nil => exact .nil
      | cons a3 t3 =>
        cases t3 with
        | cons _ _ => exact .nil
        | nil => exact (.cons a2 (.cons a1 (.cons a3 .nil)))
def kw231 {α : Type} : List α → List α → List α
  | [], [a1, a2, a3] => [a2, a3, a1]
  | _, _ => []
theorem kw231_rel {vs : List V} {us : List Value} {zs : List V} {ws : List Value} (r : Vals vs us) (q : Vals zs ws) : Vals (kw231 vs zs) (kw231 us ws) := by
  cases r with
  | cons _ _ => exact .nil
  | nil =>
    cases q with
    | nil => exact .nil
    | cons a1 t1 =>
      cases t1 with
      | nil => exact .nil
      | cons a2 t2 =>
        cases t2 with
        | nil => exact .nil
        | cons a3 t3 =>
          cases t3 with
          | cons _ _ => exact .nil
          | nil => exact (.cons a2 (.cons a3 (.cons a1 .nil)))
theorem kw231_data {K : PySem.W.Frag} (F : Hp) (vs : List V) (ls : List L) (r : LRs K F vs ls) : LRs K F (kw231 [] vs) (kw231 [] ls) := by
  cases r with
  | nil => exact .nil
  | cons a1 t1 =>
    cases t1 with
    | nil => exact .nil
    | cons a2 t2 =>
      cases t2 with
      | nil => exact .nil
      | cons a3 t3 =>
        cases t3 with
        | cons _ _ => exact .nil
        | nil => exact (.cons a2 (.cons a3 (.cons a1 .nil)))
def kw312 {α : Type} : List α → List α → List α
  | [], [a1, a2, a3] => [a3, a1, a2]
  | _, _ => []
theorem kw312_rel {vs : List V} {us : List Value} {zs : List V} {ws : List Value} (r : Vals vs us) (q : Vals zs ws) : Vals (kw312 vs zs) (kw312 us ws) := by
  cases r with
  | cons _ _ => exact .nil
  | nil =>
    cases q with
    | nil => exact .nil
    | cons a1 t1 =>
      cases t1 with
      | nil => exact .nil
      | cons a2 t2 =>
        cases t2 with
        | nil => exact .nil
        | cons a3 t3 =>
          cases t3 with
          | cons _ _ => exact .nil
          | nil => exact (.cons a3 (.cons a1 (.cons a2 .nil)))
theorem kw312_data {K : PySem.W.Frag} (F : Hp) (vs : List V) (ls : List L) (r : LRs K F vs ls) : LRs K F (kw312 [] vs) (kw312 [] ls) := by
  cases r with
  | nil => exact .nil
  | cons a1 t1 =>
    cases t1 with
    | nil => exact .nil
    | cons a2 t2 =>
      cases t2 with
      | nil => exact .nil
      | cons a3 t3 =>
        cases t3 with
        | cons _ _ => exact .nil
        | nil => exact (.cons a3 (.cons a1 (.cons a2 .nil)))
def kw321 {α : Type} : List α → List α → List α
  | [], [a1, a2, a3] => [a3, a2, a1]
  | _, _ => []
theorem kw321_rel {vs : List V} {us : List Value} {zs : List V} {ws : List Value} (r : Vals vs us) (q : Vals zs ws) : Vals (kw321 vs zs) (kw321 us ws) := by
  cases r with
  | cons _ _ => exact .nil
  | nil =>
    cases q with
    | nil => exact .nil
    | cons a1 t1 =>
      cases t1 with
      | nil => exact .nil
      | cons a2 t2 =>
        cases t2 with
        | nil => exact .nil
        | cons a3 t3 =>
          cases t3 with
          | cons _ _ => exact .nil
          | nil => exact (.cons a3 (.cons a2 (.cons a1 .nil)))
theorem kw321_data {K : PySem.W.Frag} (F : Hp) (vs : List V) (ls : List L) (r : LRs K F vs ls) : LRs K F (kw321 [] vs) (kw321 [] ls) := by
  cases r with
  | nil => exact .nil
  | cons a1 t1 =>
    cases t1 with
    | nil => exact .nil
    | cons a2 t2 =>
      cases t2 with
      | nil => exact .nil
      | cons a3 t3 =>
        cases t3 with
        | cons _ _ => exact .nil
        | nil => exact (.cons a3 (.cons a2 (.cons a1 .nil)))
end NS
end
section
/-! how readings are evaluated: facts for every law -/
namespace NS
open PySem PySem.Spec PyProof.Rows L2 DL
theorem exd_nil {P : List PyData → Prop} : (∃ xs, [] = List.map L.d xs ∧ P xs) ↔ P [] := by
  constructor
  · rintro ⟨xs, e, h⟩
    cases xs with
    | nil => exact h
    | cons => cases e
  · exact fun h => ⟨[], rfl, h⟩
theorem exd_cons {a : PyData} {t : List L} {P : List PyData → Prop} : (∃ xs, L.d a :: t = List.map L.d xs ∧ P xs) ↔ ∃ xs, t = List.map L.d xs ∧ P (a :: xs) := by
  constructor
  · rintro ⟨xs, e, h⟩
    cases xs with
    | nil => cases e
    | cons x xs =>
      rw [List.map_cons] at e
      injection e with e1 e2
      cases e1
      exact ⟨xs, e2, h⟩
  · rintro ⟨xs, rfl, h⟩
    exact ⟨a :: xs, rfl, h⟩
theorem rangeD_zero (lo : Int) : rangeD lo 0 = [] := rfl
theorem rangeD_succ (lo : Int) (n : Nat) : rangeD lo (n + 1) = .int lo :: rangeD (lo + 1) n := by
  unfold rangeD
  rw [List.range_succ_eq_map, List.map_cons, List.map_map]
  congr 1
  · simp
  · apply List.map_congr_left
    intro k hk
    simp
    omega
theorem rangeD_len (lo : Int) (n : Nat) : (rangeD lo n).length = n := by
  unfold rangeD
  simp
theorem mem_rangeD {lo : Int} {n : Nat} {x : PyData} (h : x ∈ rangeD lo n) : ∃ k : Nat, k < n ∧ x = .int (lo + k) := by
  unfold rangeD at h
  obtain ⟨k, hk, rfl⟩ := List.mem_map.mp h
  exact ⟨k, List.mem_range.mp hk, rfl⟩
/-- a comprehension that changes nothing -/
theorem lcN_map {g : DG} {t : DT} {e : DE} {η : Ev} {k : List PyData → Ms → Prop} {M : Ms} {f : PyData → PyData} : ∀ {xs acc : List PyData},
    (∀ x ∈ xs, ∀ (Q : DQ) (E : Ms → Prop), Q (.d (f x)) M → g (.d x) η M fun η1 M1 => t η1 M1 fun c M2 => if c = true then e η1 M2 Q else E M2) →
    acc.length + xs.length ≤ sizeLine → k (acc ++ xs.map f) M → dLcN g t e η k xs acc M
  | [], acc, hs, hl, h => by
    rw [List.map_nil, List.append_nil] at h
    exact h
  | x :: xs, acc, hs, hl, h => by
    rw [List.length_cons] at hl
    refine hs x (List.mem_cons_self) (fun l M3 => ∃ y, l = .d y ∧ acc.length < sizeLine ∧ dLcN g t e η k xs (acc ++ [y]) M3) (fun M2 => dLcN g t e η k xs acc M2) ⟨_, rfl, by omega, ?_⟩
    refine lcN_map (f := f) (fun z hz => hs z (List.mem_cons_of_mem _ hz)) (by rw [List.length_append, List.length_singleton]; omega) ?_
    rw [List.append_assoc]
    exact h
/-- a comprehension that keeps some of the items -/
theorem lcN_sub {g : DG} {t : DT} {e : DE} {η : Ev} {k : List PyData → Ms → Prop} (I : Ms → Prop) : ∀ {xs acc : List PyData} {M : Ms},
    (∀ x ∈ xs, ∀ M1, I M1 → ∀ (Q : DQ) (E : Ms → Prop), (∀ M2, I M2 → Q (.d x) M2) → (∀ M2, I M2 → E M2) → g (.d x) η M1 fun η1 M2 => t η1 M2 fun c M3 => if c = true then e η1 M3 Q else E M3) →
    acc.length + xs.length ≤ sizeLine → I M → (∀ zs M', zs.Sublist xs → I M' → k (acc ++ zs) M') → dLcN g t e η k xs acc M
  | [], acc, M, _, _, hI, h => by
    have := h [] M (List.Sublist.refl _) hI
    rw [List.append_nil] at this
    exact this
  | x :: xs, acc, M, hs, hl, hI, h => by
    rw [List.length_cons] at hl
    refine hs x (List.mem_cons_self) M hI (fun l M3 => ∃ y, l = .d y ∧ acc.length < sizeLine ∧ dLcN g t e η k xs (acc ++ [y]) M3) (fun M2 => dLcN g t e η k xs acc M2) (fun M2 h2 => ⟨_, rfl, by omega, ?_⟩) (fun M2 h2 => ?_)
    · refine lcN_sub I (fun z hz => hs z (List.mem_cons_of_mem _ hz)) (by rw [List.length_append, List.length_singleton]; omega) h2 fun zs M' hz hM => ?_
      rw [List.append_assoc]
      exact h _ _ (hz.cons₂ x) hM
    · refine lcN_sub I (fun z hz => hs z (List.mem_cons_of_mem _ hz)) (by omega) h2 fun zs M' hz hM => ?_
      exact h _ _ (hz.cons x) hM
/-- a loop by what holds ahead of each turn -/
theorem loop_inv {g : DG} {b : DS} {d : DEnds} (I : Nat → Ev → Ms → Prop) {xs : List PyData}
    (step : ∀ i x η M (nx : Ev → Ms → Prop), xs[i]? = some x → I i η M → (∀ η' M', I (i + 1) η' M' → nx η' M') → g (.d x) η M fun η1 M1 => b { nx := nx, rt := d.rt, bk := d.nx, ct := nx } η1 M1)
    (last : ∀ η M, I xs.length η M → d.nx η M) {η : Ev} {M : Ms} (h : I 0 η M) : dLoop g b d xs η M := by
  have H : ∀ (ys : List PyData) i η M, xs.drop i = ys → i ≤ xs.length → I i η M → dLoop g b d ys η M := by
    intro ys
    induction ys with
    | nil =>
      intro i η M e hi hI
      have : xs.length ≤ i := List.drop_eq_nil_iff.mp e
      obtain rfl : i = xs.length := by omega
      exact last η M hI
    | cons x ys ih =>
      intro i η M e hi hI
      have e1 : xs[i]? = some x := by
        have := congrArg (fun l => l[0]?) e
        simpa using this
      have hlt : i < xs.length := by
        rcases Nat.lt_or_ge i xs.length with h1 | h1
        · exact h1
        · rw [List.getElem?_eq_none h1] at e1; cases e1
      refine step i x η M _ e1 hI fun η' M' h' => ih (i + 1) η' M' ?_ hlt h'
      have := congrArg List.tail e
      rw [List.tail_drop] at this
      exact this
  exact H xs 0 η M rfl (Nat.zero_le _) h
theorem rangeD_at {lo : Int} {n i : Nat} {x : PyData} (h : (rangeD lo n)[i]? = some x) : i < n ∧ x = .int (lo + i) := by
  unfold rangeD at h
  rw [List.getElem?_map] at h
  cases e : (List.range n)[i]? with
  | none => rw [e] at h; cases h
  | some k =>
    rw [e] at h
    have := List.getElem?_eq_some_iff.mp e
    obtain ⟨h1, h2⟩ := this
    rw [List.length_range] at h1
    rw [List.getElem_range] at h2
    subst h2
    cases h
    exact ⟨h1, rfl⟩
/-- a comprehension that changes nothing and keeps some of the items -/
theorem lcN_filt {g : DG} {t : DT} {e : DE} {η : Ev} {k : List PyData → Ms → Prop} {M : Ms} {c : PyData → Bool} {f : PyData → PyData} : ∀ {xs acc : List PyData},
    (∀ x ∈ xs, ∀ (Q : DQ) (E : Ms → Prop), (c x = true → Q (.d (f x)) M) → (c x = false → E M) → g (.d x) η M fun η1 M1 => t η1 M1 fun b M2 => if b = true then e η1 M2 Q else E M2) →
    acc.length + xs.length ≤ sizeLine → k (acc ++ (xs.filter c).map f) M → dLcN g t e η k xs acc M
  | [], acc, hs, hl, h => by
    rw [List.filter_nil, List.map_nil, List.append_nil] at h
    exact h
  | x :: xs, acc, hs, hl, h => by
    rw [List.length_cons] at hl
    refine hs x (List.mem_cons_self) (fun l M3 => ∃ y, l = .d y ∧ acc.length < sizeLine ∧ dLcN g t e η k xs (acc ++ [y]) M3) (fun M2 => dLcN g t e η k xs acc M2) (fun hc => ⟨_, rfl, by omega, ?_⟩) fun hc => ?_
    · refine lcN_filt (c := c) (f := f) (fun z hz => hs z (List.mem_cons_of_mem _ hz)) (by rw [List.length_append, List.length_singleton]; omega) ?_
      rw [List.filter_cons, hc, if_pos rfl, List.map_cons] at h
      rw [List.append_assoc]
      exact h
    · refine lcN_filt (c := c) (f := f) (fun z hz => hs z (List.mem_cons_of_mem _ hz)) (by omega) ?_
      rw [List.filter_cons, hc, if_neg (by simp)] at h
      exact h
theorem depth_ints : ∀ ds : List Int, PyData.depthAll (ds.map PyData.int) = 0
  | [] => rfl
  | x :: r => by
    show max (PyData.depth (.int x)) (PyData.depthAll (r.map PyData.int)) = 0
    rw [depth_ints r]
    rfl
theorem lay_ints : ∀ ds : List Int, PyData.canLayAll0 (ds.map PyData.int) = true
  | [] => rfl
  | x :: r => by
    show (PyData.canLay0 (.int x) && PyData.canLayAll0 (r.map PyData.int)) = true
    rw [lay_ints r]
    rfl
theorem shaped_ints (ds : List Int) : SeqAt.shaped (.list (ds.map PyData.int)) = true := by
  unfold SeqAt.shaped
  rw [show PyData.canLay0 (.list (ds.map PyData.int)) = PyData.canLayAll0 (ds.map PyData.int) from rfl, lay_ints,
    show PyData.depth (.list (ds.map PyData.int)) = PyData.depthAll (ds.map PyData.int) + 1 from rfl, depth_ints]
  rfl
theorem sz (n : Nat) (h : n ≤ 1000 := by simp) : n < sizeLine := Nat.lt_of_le_of_lt h (by decide)
theorem atI_nat {α : Type} {xs : List α} {j : Nat} {v : α} (h : xs[j]? = some v) : atI xs (j : Int) = some v := by
  have hlt : j < xs.length := by
    rcases Nat.lt_or_ge j xs.length with h1 | h1
    · exact h1
    · rw [List.getElem?_eq_none h1] at h; cases h
  have e : ixN xs.length (j : Int) = some j := by
    unfold ixN
    simp
    omega
  unfold atI
  rw [e]
  exact h
theorem atI_of {α : Type} {xs : List α} {r : Int} (h0 : 0 ≤ r) (h : r < (xs.length : Int)) : ∃ x, x ∈ xs ∧ atI xs r = some x := by
  obtain ⟨j, rfl⟩ := Int.eq_ofNat_of_zero_le h0
  have hlt : j < xs.length := by omega
  exact ⟨xs[j], List.getElem_mem hlt, atI_nat (List.getElem?_eq_getElem hlt)⟩
theorem sIx_nat (n d i : Nat) : HT.sIx n d (some (i : Int)) = min i n := by
  unfold HT.sIx
  simp
  omega
theorem cutD_to {α : Type} (xs : List α) (i : Nat) : cutD xs none (some (i : Int)) = xs.take i := by
  unfold DL.cutD
  rw [sIx_nat]
  show List.take (min i xs.length - 0) (List.drop 0 xs) = _
  rw [List.drop_zero, Nat.sub_zero]
  rcases Nat.le_total i xs.length with h | h
  · rw [Nat.min_eq_left h]
  · rw [Nat.min_eq_right h, List.take_of_length_le (Nat.le_refl _), List.take_of_length_le h]
theorem cutD_from {α : Type} (xs : List α) (i : Nat) : cutD xs (some (i : Int)) none = xs.drop i := by
  unfold DL.cutD
  rw [sIx_nat]
  show List.take (xs.length - min i xs.length) (List.drop (min i xs.length) xs) = _
  rcases Nat.le_total i xs.length with h | h
  · rw [Nat.min_eq_left h, ← List.length_drop, List.take_length]
  · rw [Nat.min_eq_right h, Nat.sub_self, List.take_zero, List.drop_eq_nil_of_le h]
theorem cutD_mid {α : Type} (xs : List α) (i j : Nat) : (cutD xs (some (i : Int)) (some (j : Int))).Sublist xs := by
  unfold DL.cutD
  exact (List.take_sublist _ _).trans (List.drop_sublist _ _)
theorem cutD_mid_len {α : Type} (xs : List α) (i : Nat) : (cutD xs (some (i : Int)) (some ((i : Int) + 1))).length ≤ 1 := by
  unfold DL.cutD
  rw [sIx_nat, show ((i : Int) + 1) = ((i + 1 : Nat) : Int) by omega, sIx_nat, List.length_take]
  omega
theorem map_getElem_int {ns : List Int} {i : Nat} {x : PyData} (h : (ns.map PyData.int)[i]? = some x) : ∃ n, x = .int n := by
  rw [List.getElem?_map] at h
  cases e : ns[i]? with
  | none => rw [e] at h; cases h
  | some n =>
    rw [e] at h
    cases h
    exact ⟨n, rfl⟩
/-- one behind another, by what holds between -/
theorem seq_inv {S R : DS} {d : DEnds} {η : Ev} {M : Ms} (I : Ev → Ms → Prop) (k : ∀ nx : Ev → Ms → Prop, (∀ η' M', I η' M' → nx η' M') → S { nx := nx, rt := d.rt, bk := d.bk, ct := d.ct } η M)
    (key : ∀ η' M', I η' M' → R d η' M') : dSeq S R d η M := k _ key
theorem addW_ii {i j : Int} {q : PyData → Prop} : addW (.int i) (.int j) q = q (.int (i + j)) := rfl
theorem addW_tt {xs ys : List PyData} {q : PyData → Prop} : addW (.tuple xs) (.tuple ys) q = (xs.length + ys.length ≤ sizeLine ∧ q (.tuple (xs ++ ys))) := rfl
theorem addW_ll {xs ys : List PyData} {q : PyData → Prop} : addW (.list xs) (.list ys) q = (xs.length + ys.length ≤ sizeLine ∧ q (.list (xs ++ ys))) := rfl
theorem subW_ii {i j : Int} {q : PyData → Prop} : subW (.int i) (.int j) q = q (.int (i - j)) := rfl
theorem ltW_ii {i j : Int} {q : PyData → Prop} : ltW (.int i) (.int j) q = q (.bool (decide (i < j))) := rfl
theorem leW_ii {i j : Int} {q : PyData → Prop} : leW (.int i) (.int j) q = q (.bool (decide (i ≤ j))) := rfl
theorem geW_ii {i j : Int} {q : PyData → Prop} : geW (.int i) (.int j) q = q (.bool (decide (j ≤ i))) := rfl
theorem eqW_ii {i j : Int} {q : PyData → Prop} : eqW (.int i) (.int j) q ↔ q (.bool (i == j)) := by
  unfold eqW eqOk
  simp [scalD, PyData.eqv]
theorem slW_t {xs : List PyData} {lo hi : Option Int} {q : PyData → Prop} : slW (.tuple xs) lo hi q = q (.tuple (DL.cutD xs lo hi)) := rfl
theorem slW_l {xs : List PyData} {lo hi : Option Int} {q : PyData → Prop} : slW (.list xs) lo hi q = q (.list (DL.cutD xs lo hi)) := rfl
theorem revW_t {xs : List PyData} {q : PyData → Prop} : revW (.tuple xs) q = q (.tuple xs.reverse) := rfl
theorem lenW_t {xs : List PyData} {q : PyData → Prop} : lenW (.tuple xs) q = q (.int xs.length) := rfl
theorem lenW_l {xs : List PyData} {q : PyData → Prop} : lenW (.list xs) q = q (.int xs.length) := rfl
theorem listW_t {xs : List PyData} {q : PyData → Prop} : listW (.tuple xs) q = q (.list xs) := rfl
theorem tupleW_l {xs : List PyData} {q : PyData → Prop} : tupleW (.list xs) q = q (.tuple xs) := rfl
theorem intW_i {i : Int} {q : PyData → Prop} : intW (.int i) q = q (.int i) := rfl
theorem dIx_t {xs : List PyData} {b : L} {M : Ms} {q : DQ} : dIx (.d (.tuple xs)) b M q = ∃ i v, b = .d (.int i) ∧ atI xs i = some v ∧ q (.d v) M := rfl
theorem dIx_l {xs : List PyData} {b : L} {M : Ms} {q : DQ} : dIx (.d (.list xs)) b M q = ∃ i v, b = .d (.int i) ∧ atI xs i = some v ∧ q (.d v) M := rfl
theorem cutD_sub {α : Type} (xs : List α) (lo hi : Option Int) : (DL.cutD xs lo hi).Sublist xs := by
  unfold DL.cutD
  exact (List.take_sublist _ _).trans (List.drop_sublist _ _)
theorem cutD_len {α : Type} (xs : List α) (lo hi : Option Int) : (DL.cutD xs lo hi).length ≤ xs.length := (cutD_sub xs lo hi).length_le
theorem cutD_mem {α : Type} {xs : List α} {lo hi : Option Int} {x : α} (h : x ∈ DL.cutD xs lo hi) : x ∈ xs := (cutD_sub xs lo hi).subset h
theorem intW_b {b : Bool} {q : PyData → Prop} : intW (.bool b) q = q (.int (if b then 1 else 0)) := rfl
theorem tupleW_t {xs : List PyData} {q : PyData → Prop} : tupleW (.tuple xs) q = q (.tuple xs) := rfl
theorem listW_l {xs : List PyData} {q : PyData → Prop} : listW (.list xs) q = q (.list xs) := rfl
theorem revW_l {xs : List PyData} {q : PyData → Prop} : revW (.list xs) q = q (.list xs.reverse) := rfl
theorem atI_zero {α : Type} {x : α} {xs : List α} : atI (x :: xs) 0 = some x := by
  show atI (x :: xs) ((0 : Nat) : Int) = some x
  rw [atI_nat (v := x) rfl]
theorem atI_one {α : Type} {x y : α} {xs : List α} : atI (x :: y :: xs) 1 = some y := by
  show atI (x :: y :: xs) ((1 : Nat) : Int) = some y
  rw [atI_nat (v := y) rfl]
theorem atI_two {α : Type} {x y z : α} {xs : List α} : atI (x :: y :: z :: xs) 2 = some z := by
  show atI (x :: y :: z :: xs) ((2 : Nat) : Int) = some z
  rw [atI_nat (v := z) rfl]
local macro_rules | `(tactic| walk_at "ev") => `(tactic| simp only [ite_self, intW_b, tupleW_t, listW_l, revW_l, atI_zero, atI_one, atI_two, true_imp_iff, false_imp_iff, Int.natCast_inj, kw12, kw21, kw123, kw132, kw213, kw231, kw312, kw321, dSM, dListM, dPopAt, dListR1, dListC, daStar, dCallX, dCallKX, dRaise, dMk1, dTryAs, dXf, dIsX, bodySp, startD, dSeq, dRet, dRetN, dDrop, dSet, dIfS, dNext, dTst, dtNot, dtAnd, dtOr, dOp, dV, dC, dNeg, dNot, dAnd, dOr, dIf, dChain, daNil, daCons, dTup, dLst, dCB, dTy, dAsg, dPar, gN, gNl, gCn, gTp, dGet, dPut, dPop, dAppend, dCall, dCallK, kw1, dSl, dNoPart, dPart, dRev, dDicE, dLstM,
  List.map_cons, List.map_nil, List.length_cons, List.length_nil, List.cons_append, List.nil_append, List.append_nil, List.replicate_succ, List.replicate_zero, Nat.reduceAdd, Nat.reduceSub, List.set_cons_zero, List.set_cons_succ,
  List.getElem?_cons_zero, List.getElem?_cons_succ, Option.some.injEq, exists_eq_left', exists_eq_left, dBin_d, d1_d, rd_d, true_and, and_true, L.d.injEq, L.p.injEq, PyData.bool.injEq, PyData.int.injEq, PyData.str.injEq, PyData.tuple.injEq, List.cons.injEq, reduceCtorEq, exd_nil, exd_cons, sizeLine, Nat.reducePow, Nat.reduceLeDiff, Int.reducePow, Int.reduceNeg, Int.toNat_natCast, dYes, ite_true, addW_ii, addW_tt, addW_ll, subW_ii, ltW_ii, leW_ii, geW_ii, eqW_ii, slW_t, slW_l, revW_t, lenW_t, lenW_l, listW_t, tupleW_l, intW_i, dIx_t, dIx_l, and_assoc, exists_and_left])
theorem for_z {z : Int} (n : Nat) {g : DG} {b : DS} {d : DEnds} {η : Ev} {M : Ms} (hz : z = n) (hn : n < 1000) (h : dLoop g b d (rangeD 0 n) η M) : dFor (iR1 (daCons (dC (.int z)) daNil)) g b d η M := by
  subst hz
  unfold dFor iR1
  walk_at "ev"
  exact ⟨by omega, by omega, h⟩
theorem ne_str {x : Str} {Q : PyData → Prop} (h : Q (.bool false)) : neW (.str x) (.str x) Q := by
  unfold neW eqOk
  simp [scalD, PyData.eqv]
  exact h
theorem enumD_at {ds : List PyData} {i : Nat} {x : PyData} (h : (enumD ds)[i]? = some x) : ∃ y, ds[i]? = some y ∧ x = .tuple [.int i, y] := by
  unfold enumD at h
  rw [List.getElem?_map, List.getElem?_zipIdx] at h
  cases e : ds[i]? with
  | none => rw [e] at h; cases h
  | some y =>
    rw [e] at h
    refine ⟨y, rfl, ?_⟩
    have := Option.some.inj h
    rw [← this, Nat.zero_add]
theorem drop_at {α : Type} {xs : List α} {i : Nat} {x : α} (h : xs[i]? = some x) : xs.drop i = x :: xs.drop (i + 1) := by
  obtain ⟨hlt, e⟩ := List.getElem?_eq_some_iff.mp h
  rw [← e]
  exact List.drop_eq_getElem_cons hlt
theorem shaped_int (i : Int) : SeqAt.shaped (.int i) = true := rfl
theorem shaped_pair (i j : Int) : SeqAt.shaped (.tuple [.int i, .int j]) = true := rfl
theorem shaped_intsT (ms : List Int) : SeqAt.shaped (.tuple (ms.map PyData.int)) = true := by
  unfold SeqAt.shaped
  rw [show PyData.canLay0 (.tuple (ms.map PyData.int)) = PyData.canLayAll0 (ms.map PyData.int) from rfl, lay_ints,
    show PyData.depth (.tuple (ms.map PyData.int)) = PyData.depthAll (ms.map PyData.int) + 1 from rfl, depth_ints]
  rfl
theorem any_ints {ms : List Int} {z : Int} (h : ((ms.map PyData.int).any fun x => x.eqv (.int z)) = true) : z ∈ ms := by
  rw [List.any_eq_true] at h
  obtain ⟨x, hx, e⟩ := h
  obtain ⟨m, hm, rfl⟩ := List.mem_map.mp hx
  have : (m == z) = true := e
  rw [beq_iff_eq] at this
  rw [← this]
  exact hm
end NS
end
section
/-! what repr tells of small data -/
namespace NS
open PySem PySem.Spec PyProof.Rows L2 DL
/-- small data: repr can be told; b: no dict in it -/
structure Sm (b : Bool) (k n : Nat) (x : PyData) : Prop where
  sh : x.showable = true
  lf : x.leavesShort 200 = true
  bk : x.bulk ≤ n
  dp : x.depth ≤ k
  nd : b = true → x.hasDict = false
  nl : b = false → hasList x = false
/-- it is of either kind -/
def Smx (k n : Nat) (x : PyData) : Prop := ∃ b, Sm b k n x
structure SmA (b : Bool) (k n : Nat) (xs : List PyData) : Prop where
  sh : PyData.showableAll xs = true
  lf : PyData.leavesShortAll 200 xs = true
  bk : PyData.bulkAll xs ≤ n
  dp : PyData.depthAll xs ≤ k
  nd : b = true → PyData.hasDictAll xs = false
  nl : b = false → hasListA xs = false
theorem Sm.mono {b : Bool} {k n k' n' : Nat} {x : PyData} (h : Sm b k n x) (h1 : k ≤ k' := by decide) (h2 : n ≤ n' := by decide) : Sm b k' n' x :=
  ⟨h.sh, h.lf, Nat.le_trans h.bk h2, Nat.le_trans h.dp h1, h.nd, h.nl⟩
theorem SmA.mono {b : Bool} {k n k' n' : Nat} {x : List PyData} (h : SmA b k n x) (h1 : k ≤ k' := by decide) (h2 : n ≤ n' := by decide) : SmA b k' n' x :=
  ⟨h.sh, h.lf, Nat.le_trans h.bk h2, Nat.le_trans h.dp h1, h.nd, h.nl⟩
theorem Sm_none {b : Bool} {k : Nat} : Sm b k 0 .none := ⟨rfl, rfl, Nat.le_refl _, Nat.zero_le _, fun _ => rfl, fun _ => rfl⟩
theorem Sm_bool {b c : Bool} {k : Nat} : Sm b k 0 (.bool c) := ⟨rfl, rfl, Nat.le_refl _, Nat.zero_le _, fun _ => rfl, fun _ => rfl⟩
theorem log_lt {m k : Nat} (h : m < 2 ^ k) (hk : 0 < k) : m.log2 < k := by
  rcases Nat.eq_zero_or_pos m with rfl | h0
  · simpa using hk
  · exact (Nat.log2_lt (by omega)).mpr h
theorem Sm_int {b : Bool} {k : Nat} {i : Int} (h : i.natAbs < 10 ^ 40) : Sm b k 0 (.int i) := by
  refine ⟨?_, ?_, Nat.le_refl _, Nat.zero_le _, fun _ => rfl, fun _ => rfl⟩
  · simp only [PyData.showable, decide_eq_true_eq]
    exact Nat.lt_of_lt_of_le (log_lt (k := 133) (Nat.lt_trans h (by decide)) (by decide)) (by decide)
  · simp only [PyData.leavesShort, decide_eq_true_eq]
    rw [PyData.shown_int]
    have := int_text_length_le10 (k := 40) (by decide) h
    rw [show (Str.ofString (toString i)).length = (toString i).length from PySem.ofString_length _]
    omega
theorem Sm_str {b : Bool} {k n : Nat} {x : Str} (h : (x.cps.toList.all fun c => decide (c < 16 ^ 8)) = true) (hn : x.cps.size ≤ n) : Sm b k n (.str x) := by
  refine ⟨rfl, ?_, hn, Nat.zero_le _, fun _ => rfl, fun _ => rfl⟩
  simp only [PyData.leavesShort]
  exact h
theorem SmA_nil {b : Bool} {k : Nat} : SmA b k 0 [] := ⟨rfl, rfl, Nat.le_refl _, Nat.zero_le _, fun _ => rfl, fun _ => rfl⟩
theorem SmA_cons {b : Bool} {k n m : Nat} {x : PyData} {xs : List PyData} (h : Sm b k n x) (t : SmA b k m xs) : SmA b k (n + 1 + m) (x :: xs) := by
  refine ⟨?_, ?_, ?_, ?_, fun e => ?_, fun e => ?_⟩
  · simp only [PyData.showableAll, h.sh, t.sh, Bool.and_self]
  · simp only [PyData.leavesShortAll, h.lf, t.lf, Bool.and_self]
  · have := h.bk
    have := t.bk
    simp only [PyData.bulkAll]
    omega
  · simp only [PyData.depthAll]
    exact Nat.max_le.mpr ⟨h.dp, t.dp⟩
  · simp only [PyData.hasDictAll, h.nd e, t.nd e, Bool.or_self]
  · simp only [hasListA, h.nl e, t.nl e, Bool.or_self]
theorem SmA_app {b : Bool} {k n m : Nat} : ∀ {xs ys : List PyData}, SmA b k n xs → SmA b k m ys → SmA b k (n + m) (xs ++ ys)
  | [], ys, h, t => t.mono (Nat.le_refl _) (Nat.le_add_left _ _)
  | x :: xs, ys, h, t => by
    have hs := h.sh
    have hlf := h.lf
    have hb := h.bk
    have hd := h.dp
    have hnd := h.nd
    have hnl := h.nl
    simp only [PyData.showableAll, Bool.and_eq_true] at hs
    simp only [PyData.leavesShortAll, Bool.and_eq_true] at hlf
    simp only [PyData.bulkAll] at hb
    simp only [PyData.depthAll] at hd
    simp only [PyData.hasDictAll, Bool.or_eq_false_iff] at hnd
    simp only [hasListA, Bool.or_eq_false_iff] at hnl
    have hx : Sm b k x.bulk x := ⟨hs.1, hlf.1, Nat.le_refl _, Nat.le_trans (Nat.le_max_left _ _) hd, fun e => (hnd e).1, fun e => (hnl e).1⟩
    have hxs : SmA b k (PyData.bulkAll xs) xs := ⟨hs.2, hlf.2, Nat.le_refl _, Nat.le_trans (Nat.le_max_right _ _) hd, fun e => (hnd e).2, fun e => (hnl e).2⟩
    exact (SmA_cons hx (SmA_app hxs t)).mono (Nat.le_refl _) (by omega)
theorem SmA_all {b : Bool} {k n : Nat} : ∀ {xs : List PyData}, (∀ x ∈ xs, Sm b k n x) → SmA b k (xs.length * (n + 1)) xs
  | [], _ => SmA_nil.mono (Nat.le_refl _) (Nat.zero_le _)
  | x :: xs, h => by
    refine (SmA_cons (h x List.mem_cons_self) (SmA_all fun y hy => h y (List.mem_cons_of_mem _ hy))).mono (Nat.le_refl _) ?_
    rw [List.length_cons, Nat.succ_mul]
    omega
theorem SmA_mem {b : Bool} {k n m : Nat} {xs : List PyData} (h : ∀ x ∈ xs, Sm b k n x) (hm : xs.length * (n + 1) ≤ m) : SmA b k m xs := (SmA_all h).mono (Nat.le_refl _) hm
theorem Sm_tup {b : Bool} {k n : Nat} {xs : List PyData} (h : SmA b k n xs) : Sm b (k + 1) n (.tuple xs) := by
  refine ⟨?_, ?_, ?_, ?_, fun e => ?_, fun e => ?_⟩
  · simp only [PyData.showable, h.sh]
  · simp only [PyData.leavesShort, h.lf]
  · simp only [PyData.bulk]
    exact h.bk
  · simp only [PyData.depth]
    exact Nat.succ_le_succ h.dp
  · simp only [PyData.hasDict, h.nd e]
  · simp only [hasList, h.nl e]
theorem Sm_lst {k n : Nat} {xs : List PyData} (h : SmA true k n xs) : Sm true (k + 1) n (.list xs) := by
  refine ⟨?_, ?_, ?_, ?_, fun e => ?_, fun e => by cases e⟩
  · simp only [PyData.showable, h.sh]
  · simp only [PyData.leavesShort, h.lf]
  · simp only [PyData.bulk]
    exact h.bk
  · simp only [PyData.depth]
    exact Nat.succ_le_succ h.dp
  · simp only [PyData.hasDict, h.nd e]
theorem Sm_dict0 {k : Nat} : Sm false (k + 1) 0 (.dict []) := ⟨rfl, rfl, Nat.le_refl _, by show 0 + 1 ≤ k + 1; omega, fun e => (by cases e), fun _ => rfl⟩
/-- repr is told of small data -/
theorem reprOk_of {b : Bool} {k n : Nat} {x : PyData} (h : Sm b k n x) (hk : k ≤ 60 := by decide) (hn : n ≤ 60000 := by decide) : reprOk x := by
  refine ⟨h.sh, ?_, Nat.le_trans h.dp hk, fun e => ?_⟩
  · have := PyData.shown_le_bulk 200 (by decide) x h.lf
    have h2 := h.bk
    have h3 : (200 + 2) * x.bulk ≤ 202 * 60000 := Nat.mul_le_mul (Nat.le_refl _) (Nat.le_trans h2 hn)
    have h4 : 202 * 60000 + 200 ≤ sizeLine := by decide
    omega
  · cases b with
    | true => rw [h.nd rfl] at e; cases e
    | false => exact h.nl rfl
theorem Sm_nat {b : Bool} {k i : Nat} (h : i < 10 ^ 40) : Sm b k 0 (.int i) := Sm_int (by omega)
theorem Sm_pair {b : Bool} {k n m : Nat} {x y : PyData} (hx : Sm b k n x) (hy : Sm b k m y) : Sm b (k + 1) (n + m + 2) (.tuple [x, y]) :=
  (Sm_tup (SmA_cons hx (SmA_cons hy SmA_nil))).mono (Nat.le_refl _) (by omega)
theorem Sm_one {b : Bool} {k n : Nat} {x : PyData} (hx : Sm b k n x) : Sm b (k + 1) (n + 1) (.tuple [x]) :=
  (Sm_tup (SmA_cons hx SmA_nil)).mono (Nat.le_refl _) (by omega)
theorem Sm_tri {b : Bool} {k n m o : Nat} {x y z : PyData} (hx : Sm b k n x) (hy : Sm b k m y) (hz : Sm b k o z) : Sm b (k + 1) (n + m + o + 3) (.tuple [x, y, z]) :=
  (Sm_tup (SmA_cons hx (SmA_cons hy (SmA_cons hz SmA_nil)))).mono (Nat.le_refl _) (by omega)
theorem Sm_z {b : Bool} {k : Nat} {z : Int} (h : -1000 ≤ z ∧ z ≤ 1000) : Sm b k 0 (.int z) := Sm_int (by omega)
end NS
end
section
/-! webs as such: pairs of people, lines told by who is tied to whom -/
namespace WB
abbrev Pr := Nat × Nat
abbrev Adj := Nat → Nat → Bool
def rowN (n a : Nat) : List Pr := (List.range (n - (a + 1))).map fun k => (a, a + 1 + k)
/-- all pairs of people, ascending -/
def pairsN (n : Nat) : List Pr := (List.range n).flatMap (rowN n)
theorem mem_rowN {n a : Nat} {p : Pr} : p ∈ rowN n a ↔ p.1 = a ∧ a < p.2 ∧ p.2 < n := by
  unfold rowN
  rw [List.mem_map]
  constructor
  · rintro ⟨k, hk, rfl⟩
    have := List.mem_range.mp hk
    refine ⟨rfl, ?_, ?_⟩ <;> simp <;> omega
  · rintro ⟨h1, h2, h3⟩
    refine ⟨p.2 - (a + 1), List.mem_range.mpr (by omega), ?_⟩
    obtain ⟨x, y⟩ := p
    simp only at h1 h2 h3
    simp only [Prod.mk.injEq]
    omega
theorem mem_pairsN {n : Nat} {p : Pr} : p ∈ pairsN n ↔ p.1 < p.2 ∧ p.2 < n := by
  unfold pairsN
  rw [List.mem_flatMap]
  constructor
  · rintro ⟨a, ha, hp⟩
    have := mem_rowN.mp hp
    omega
  · rintro ⟨h1, h2⟩
    exact ⟨p.1, List.mem_range.mpr (by omega), mem_rowN.mpr ⟨rfl, h1, h2⟩⟩
/-- lesser in the order of tuples -/
def ltPr (p q : Pr) : Prop := p.1 < q.1 ∨ (p.1 = q.1 ∧ p.2 < q.2)
theorem ltPr_irrefl (p : Pr) : ¬ ltPr p p := by unfold ltPr; omega
theorem ltPr_trans {p q r : Pr} (h : ltPr p q) (k : ltPr q r) : ltPr p r := by unfold ltPr at *; omega
theorem rowN_sorted (n a : Nat) : (rowN n a).Pairwise ltPr := by
  unfold rowN
  rw [List.pairwise_map]
  exact List.pairwise_lt_range.imp fun h => .inr ⟨rfl, by simp; omega⟩
theorem pairsN_sorted (n : Nat) : (pairsN n).Pairwise ltPr := by
  unfold pairsN
  rw [List.pairwise_flatMap]
  refine ⟨fun a _ => rowN_sorted n a, List.pairwise_lt_range.imp ?_⟩
  intro a b hab p hp q hq
  exact .inl (by rw [(mem_rowN.mp hp).1, (mem_rowN.mp hq).1]; exact hab)
theorem nodup_of_ltPr {l : List Pr} (h : l.Pairwise ltPr) : l.Nodup := h.imp fun {p q} h e => by subst e; exact ltPr_irrefl _ h
theorem pairsN_nodup (n : Nat) : (pairsN n).Nodup := nodup_of_ltPr (pairsN_sorted n)
/-- two ascending lists of the same pairs are one -/
theorem sorted_ext : ∀ {l m : List Pr}, l.Pairwise ltPr → m.Pairwise ltPr → (∀ p, p ∈ l ↔ p ∈ m) → l = m
  | [], [], _, _, _ => rfl
  | [], y :: m, _, _, h => absurd ((h y).mpr List.mem_cons_self) (by simp)
  | x :: l, [], _, _, h => absurd ((h x).mp List.mem_cons_self) (by simp)
  | x :: l, y :: m, hl, hm, h => by
    rw [List.pairwise_cons] at hl hm
    have hxy : x = y := by
      rcases List.mem_cons.mp ((h x).mp List.mem_cons_self) with e | e
      · exact e
      · rcases List.mem_cons.mp ((h y).mpr List.mem_cons_self) with e2 | e2
        · exact e2.symm
        · exact absurd (ltPr_trans (hl.1 y e2) (hm.1 x e)) (ltPr_irrefl _)
    subst hxy
    congr 1
    refine sorted_ext hl.2 hm.2 fun p => ?_
    constructor
    · intro hp
      rcases List.mem_cons.mp ((h p).mp (List.mem_cons_of_mem _ hp)) with e | e
      · subst e; exact absurd (hl.1 _ hp) (ltPr_irrefl _)
      · exact e
    · intro hp
      rcases List.mem_cons.mp ((h p).mpr (List.mem_cons_of_mem _ hp)) with e | e
      · subst e; exact absurd (hm.1 _ hp) (ltPr_irrefl _)
      · exact e
/-- the lines of n people that A tells -/
def lnsA (n : Nat) (A : Adj) : List Pr := (pairsN n).filter fun p => A p.1 p.2
theorem mem_lnsA {n : Nat} {A : Adj} {p : Pr} : p ∈ lnsA n A ↔ p.1 < p.2 ∧ p.2 < n ∧ A p.1 p.2 = true := by
  unfold lnsA
  rw [List.mem_filter, mem_pairsN]
  exact ⟨fun ⟨⟨a, b⟩, c⟩ => ⟨a, b, c⟩, fun ⟨a, b, c⟩ => ⟨⟨a, b⟩, c⟩⟩
theorem lnsA_sorted (n : Nat) (A : Adj) : (lnsA n A).Pairwise ltPr := (pairsN_sorted n).sublist List.filter_sublist
theorem lnsA_sub (n : Nat) (A : Adj) : (lnsA n A).Sublist (pairsN n) := List.filter_sublist
theorem lnsA_congr {n : Nat} {A B : Adj} (h : ∀ i j, i < j → j < n → A i j = B i j) : lnsA n A = lnsA n B := by
  unfold lnsA
  refine List.filter_congr fun p hp => ?_
  have := mem_pairsN.mp hp
  exact h _ _ this.1 this.2
theorem lnsA_inj {n : Nat} {A B : Adj} (h : lnsA n A = lnsA n B) : ∀ i j, i < j → j < n → A i j = B i j := by
  intro i j h1 h2
  have : (i, j) ∈ lnsA n A ↔ (i, j) ∈ lnsA n B := by rw [h]
  rw [mem_lnsA, mem_lnsA] at this
  cases ha : A i j <;> cases hb : B i j <;> simp_all
def Sy (A : Adj) : Prop := ∀ i j, A i j = A j i
def Irr (A : Adj) : Prop := ∀ i, A i i = false
/-- who is tied to whom by some lines -/
def adjL (ls : List Pr) : Adj := fun i j => decide (i < j ∧ (i, j) ∈ ls ∨ j < i ∧ (j, i) ∈ ls)
theorem adjL_sy (ls : List Pr) : Sy (adjL ls) := fun i j => by
  unfold adjL
  refine decide_eq_decide.mpr ?_
  exact or_comm
theorem adjL_irr (ls : List Pr) : Irr (adjL ls) := fun i => by
  unfold adjL
  simp
theorem adjL_lt {ls : List Pr} {i j : Nat} (h : i < j) : adjL ls i j = true ↔ (i, j) ∈ ls := by
  unfold adjL
  rw [decide_eq_true_iff]
  constructor
  · rintro (h | h)
    · exact h.2
    · omega
  · exact fun h' => .inl ⟨h, h'⟩
theorem lns_of_sub {n : Nat} {ls : List Pr} (h : ls.Sublist (pairsN n)) : ls = lnsA n (adjL ls) := by
  refine sorted_ext ((pairsN_sorted n).sublist h) (lnsA_sorted n _) fun p => ?_
  rw [mem_lnsA]
  constructor
  · intro hp
    have := mem_pairsN.mp (h.subset hp)
    exact ⟨this.1, this.2, (adjL_lt this.1).mpr hp⟩
  · rintro ⟨h1, _, h3⟩
    exact (adjL_lt h1).mp h3
/-- a list of pairs that ascends is told by who is tied -/
theorem lns_of_sorted {n : Nat} {ls : List Pr} (h : ls.Pairwise ltPr) (hm : ∀ p ∈ ls, p.1 < p.2 ∧ p.2 < n) : ls = lnsA n (adjL ls) := by
  refine sorted_ext h (lnsA_sorted n _) fun p => ?_
  rw [mem_lnsA]
  constructor
  · intro hp
    have := hm p hp
    exact ⟨this.1, this.2, (adjL_lt this.1).mpr hp⟩
  · rintro ⟨h1, _, h3⟩
    exact (adjL_lt h1).mp h3
theorem adjL_lnsA {n : Nat} {A : Adj} (hs : Sy A) (hi : Irr A) {i j : Nat} (h1 : i < n) (h2 : j < n) : adjL (lnsA n A) i j = A i j := by
  rcases Nat.lt_trichotomy i j with h | h | h
  · have := adjL_lt (ls := lnsA n A) h
    rw [mem_lnsA] at this
    cases e : A i j
    · cases e2 : adjL (lnsA n A) i j
      · rfl
      · have := this.mp e2
        simp_all
    · exact this.mpr ⟨h, h2, e⟩
  · subst h
    rw [adjL_irr, hi]
  · rw [adjL_sy, hs]
    have := adjL_lt (ls := lnsA n A) h
    rw [mem_lnsA] at this
    cases e : A j i
    · cases e2 : adjL (lnsA n A) j i
      · rfl
      · have := this.mp e2
        simp_all
    · exact this.mpr ⟨h, h1, e⟩
/-- how many are tied to p -/
def degA (n : Nat) (A : Adj) (p : Nat) : Nat := (List.range n).countP (A p)
theorem pairsN_succ (n : Nat) : (pairsN (n + 1)).Perm (pairsN n ++ (List.range n).map fun a => (a, n)) := by
  refine (List.perm_ext_iff_of_nodup (pairsN_nodup _) ?_).mpr ?_
  · rw [List.nodup_append]
    refine ⟨pairsN_nodup n, ?_, ?_⟩
    · refine List.Pairwise.map _ (fun a b h => ?_) (List.nodup_range (n := n))
      simpa using h
    · intro p hp q hq e
      subst e
      obtain ⟨a, _, rfl⟩ := List.mem_map.mp hq
      have := mem_pairsN.mp hp
      simp at this
  · intro p
    rw [List.mem_append, mem_pairsN, mem_pairsN, List.mem_map]
    obtain ⟨x, y⟩ := p
    simp only [List.mem_range, Prod.mk.injEq]
    constructor
    · rintro ⟨h1, h2⟩
      by_cases h : y = n
      · exact .inr ⟨x, by omega, rfl, h.symm⟩
      · exact .inl ⟨h1, by omega⟩
    · rintro (h | ⟨a, h1, rfl, rfl⟩)
      · omega
      · omega
theorem countP_eq_ite {α : Type} [DecidableEq α] (p : α) (b : Bool) : ∀ {l : List α}, l.Nodup → p ∈ l → (l.countP fun x => decide (x = p) && b) = if b then 1 else 0
  | x :: l, h, hm => by
    rw [List.countP_cons]
    rw [List.nodup_cons] at h
    by_cases e : x = p
    · subst e
      have : (l.countP fun y => decide (y = x) && b) = 0 := by
        rw [List.countP_eq_zero]
        intro y hy
        have : y ≠ x := fun e => h.1 (e ▸ hy)
        simp [this]
      rw [this]
      cases b <;> simp
    · have hm' : p ∈ l := (List.mem_cons.mp hm).resolve_left fun e' => e e'.symm
      rw [countP_eq_ite p b h.2 hm']
      simp [e]
/-- lines that have p -/
theorem cnt_deg {n : Nat} {A : Adj} (hs : Sy A) (hi : Irr A) : ∀ {p : Nat}, p < n → ((lnsA n A).countP fun q => decide (q.1 = p) || decide (q.2 = p)) = degA n A p := by
  have key : ∀ n p, ((pairsN n).countP fun q => (decide (q.1 = p) || decide (q.2 = p)) && A q.1 q.2) = if p < n then degA n A p else 0 := by
    intro n
    induction n with
    | zero => intro p; rfl
    | succ n ih =>
      intro p
      rw [(pairsN_succ n).countP_eq, List.countP_append, ih p, List.countP_map]
      have e : ((fun q : Pr => (decide (q.1 = p) || decide (q.2 = p)) && A q.1 q.2) ∘ fun a => (a, n)) = fun a => (decide (a = p) || decide (n = p)) && A a n := rfl
      rw [e]
      by_cases h : p < n
      · have h2 : n ≠ p := by omega
        have h3 : p < n + 1 := by omega
        rw [if_pos h, if_pos h3]
        have e2 : ((List.range n).countP fun a => (decide (a = p) || decide (n = p)) && A a n) = if A p n then 1 else 0 := by
          rw [← countP_eq_ite p (A p n) List.nodup_range (List.mem_range.mpr h)]
          refine List.countP_congr fun a _ => ?_
          by_cases ea : a = p
          · subst ea; simp [h2]
          · simp [ea, h2]
        rw [e2]
        unfold degA
        rw [List.range_succ, List.countP_append]
        simp [List.countP_cons]
      · rw [if_neg h, Nat.zero_add]
        by_cases h2 : n = p
        · subst h2
          rw [if_pos (by omega)]
          unfold degA
          rw [List.range_succ, List.countP_append]
          simp only [List.countP_cons, List.countP_nil, hi n]
          simp
          refine List.countP_congr fun a _ => ?_
          rw [hs a n]
        · rw [if_neg (by omega), List.countP_eq_zero]
          intro a ha
          have := List.mem_range.mp ha
          have h3 : a ≠ p := by omega
          simp [h2, h3]
  intro p hp
  have := key n p
  rw [if_pos hp] at this
  rw [← this]
  unfold lnsA
  rw [List.countP_filter]
end WB
end
section
/-! webs as data -/
namespace NS
open PySem PySem.Spec PyProof.Rows L2 DL WB
local macro_rules | `(tactic| walk_at "ev") => `(tactic| simp only [ite_self, intW_b, tupleW_t, listW_l, revW_l, atI_zero, atI_one, atI_two, true_imp_iff, false_imp_iff, Int.natCast_inj, kw12, kw21, kw123, kw132, kw213, kw231, kw312, kw321, dSM, dListM, dPopAt, dListR1, dListC, daStar, dCallX, dCallKX, dRaise, dMk1, dTryAs, dXf, dIsX, bodySp, startD, dSeq, dRet, dRetN, dDrop, dSet, dIfS, dNext, dTst, dtNot, dtAnd, dtOr, dOp, dV, dC, dNeg, dNot, dAnd, dOr, dIf, dChain, daNil, daCons, dTup, dLst, dCB, dTy, dAsg, dPar, gN, gNl, gCn, gTp, dGet, dPut, dPop, dAppend, dCall, dCallK, kw1, dSl, dNoPart, dPart, dRev, dDicE, dLstM,
  List.map_cons, List.map_nil, List.length_cons, List.length_nil, List.cons_append, List.nil_append, List.append_nil, List.replicate_succ, List.replicate_zero, Nat.reduceAdd, Nat.reduceSub, List.set_cons_zero, List.set_cons_succ,
  List.getElem?_cons_zero, List.getElem?_cons_succ, Option.some.injEq, exists_eq_left', exists_eq_left, dBin_d, d1_d, rd_d, true_and, and_true, L.d.injEq, L.p.injEq, PyData.bool.injEq, PyData.int.injEq, PyData.str.injEq, PyData.tuple.injEq, List.cons.injEq, reduceCtorEq, exd_nil, exd_cons, sizeLine, Nat.reducePow, Nat.reduceLeDiff, Int.reducePow, Int.reduceNeg, Int.toNat_natCast, dYes, ite_true, addW_ii, addW_tt, addW_ll, subW_ii, ltW_ii, leW_ii, geW_ii, eqW_ii, slW_t, slW_l, revW_t, lenW_t, lenW_l, listW_t, tupleW_l, intW_i, dIx_t, dIx_l, and_assoc, exists_and_left])
def eP (p : Pr) : PyData := .tuple [.int (p.1 : Nat), .int (p.2 : Nat)]
def eL (ls : List Pr) : PyData := .tuple (ls.map eP)
def eW (n : Nat) (ls : List Pr) : PyData := .tuple [.int (n : Nat), eL ls]
theorem eqv_eP (p q : Pr) : PyData.eqv (eP p) (eP q) = decide (p = q) := by
  obtain ⟨a, b⟩ := p
  obtain ⟨c, d⟩ := q
  simp only [eP, PyData.eqv, PyData.eqvAll, Bool.and_true, Prod.mk.injEq]
  rw [Bool.eq_iff_iff]
  simp
  constructor
  · rintro ⟨h1, h2⟩
    exact ⟨by omega, by omega⟩
  · rintro ⟨rfl, rfl⟩
    exact ⟨rfl, rfl⟩
theorem any_eP (ls : List Pr) (p : Pr) : ((ls.map eP).any fun z => PyData.eqv z (eP p)) = decide (p ∈ ls) := by
  rw [List.any_map, Bool.eq_iff_iff, List.any_eq_true]
  simp only [Function.comp, eqv_eP, decide_eq_true_eq]
  exact ⟨fun ⟨x, hx, e⟩ => e ▸ hx, fun h => ⟨p, h, rfl⟩⟩
theorem shaped_eP (p : Pr) : SeqAt.shaped (eP p) = true := rfl
theorem lay_eP : ∀ ls : List Pr, PyData.canLayAll0 (ls.map eP) = true
  | [] => rfl
  | x :: r => by
    show (PyData.canLay0 (eP x) && PyData.canLayAll0 (r.map eP)) = true
    rw [lay_eP r]
    rfl
theorem depth_eP : ∀ ls : List Pr, PyData.depthAll (ls.map eP) ≤ 1
  | [] => Nat.zero_le _
  | x :: r => by
    show max (PyData.depth (eP x)) (PyData.depthAll (r.map eP)) ≤ 1
    exact Nat.max_le.mpr ⟨Nat.le_refl _, depth_eP r⟩
theorem shaped_eL (ls : List Pr) : SeqAt.shaped (eL ls) = true := by
  unfold SeqAt.shaped eL
  rw [show PyData.canLay0 (.tuple (ls.map eP)) = PyData.canLayAll0 (ls.map eP) from rfl, lay_eP]
  have h3 : PyData.depth (.tuple (ls.map eP)) ≤ 2 := Nat.succ_le_succ (depth_eP ls)
  simp
  omega
theorem memW_eP {b : Bool} {ls : List Pr} {p : Pr} {Q : PyData → Prop} (h : Q (.bool (decide (p ∈ ls) != b))) : memW b (eP p) (eL ls) Q := by
  refine ⟨shaped_eP p, shaped_eL ls, ?_⟩
  rw [any_eP]
  exact h
theorem placesC_eq : ∀ n, n < 13 → CB.placesC n = (pairsN n).map fun p => [p.1, p.2] := by decide +kernel
theorem combD_eq {n : Nat} (h : n < 13) : combD n = (pairsN n).map eP := by
  unfold combD
  rw [placesC_eq n h, List.map_map]
  rfl
theorem pairsN_le : ∀ n, n < 13 → (pairsN n).length ≤ 66 := by decide +kernel
theorem pairsN_45 : ∀ n, n < 12 → (pairsN n).length ≤ 55 := by decide +kernel
theorem lnsA_le {n : Nat} (h : n < 13) (A : Adj) : (lnsA n A).length ≤ 66 := Nat.le_trans (lnsA_sub n A).length_le (pairsN_le n h)
theorem perm_map_inv {α β : Type} {f : α → β} (g : β → α) (hg : ∀ a, g (f a) = a) {ys : List β} {ls : List α} (h : ys.Perm (ls.map f)) : ∃ ms : List α, ms.Perm ls ∧ ys = ms.map f := by
  refine ⟨ys.map g, ?_, ?_⟩
  · have := h.map g
    rw [List.map_map] at this
    have e : ls.map (g ∘ f) = ls := (List.map_congr_left fun a _ => hg a).trans (List.map_id ls)
    rw [e] at this
    exact this
  · rw [List.map_map]
    refine ((List.map_congr_left (g := id) fun y hy => ?_).trans (List.map_id ys)).symm
    obtain ⟨a, _, rfl⟩ := List.mem_map.mp (h.mem_iff.mp hy)
    show f (g (f a)) = f a
    rw [hg]
def unP : PyData → Pr
  | .tuple [.int i, .int j] => (i.toNat, j.toNat)
  | _ => (0, 0)
theorem unP_eP (p : Pr) : unP (eP p) = p := by
  obtain ⟨a, b⟩ := p
  rfl
theorem code_eP (p : Pr) : codeD 1000 (eP p) = (p.1 : Int) * 1000 + p.2 := by
  show codeD 1000 (.tuple ([(p.1 : Int), (p.2 : Int)].map .int)) = _
  rw [codeD_t]
  have e1 : (1000 : Int) ^ 1 = 1000 := by decide
  have e0 : (1000 : Int) ^ 0 = 1 := by decide
  show (p.1 : Int) * 1000 ^ 1 + ((p.2 : Int) * 1000 ^ 0 + 0) = _
  rw [e1, e0, Int.mul_one, Int.add_zero]
theorem sortAW_eP {ls : List Pr} {Q : PyData → Prop} (h64 : ls.length < 64) (hb : ∀ p ∈ ls, p.1 < 1000 ∧ p.2 < 1000) (nd : ls.Nodup) (h : ∀ ms : List Pr, ms.Perm ls → ms.Pairwise ltPr → Q (.list (ms.map eP))) : sortAW (.list (ls.map eP)) Q := by
  refine .inr ⟨by rw [List.length_map]; exact h64, fun x hx => ?_, fun ys hp hs => ?_⟩
  · obtain ⟨p, hp, rfl⟩ := List.mem_map.mp hx
    refine ⟨[(p.1 : Int), (p.2 : Int)], rfl, rfl, fun m hm => ?_⟩
    have := hb p hp
    simp only [List.mem_cons, List.not_mem_nil, or_false] at hm
    rcases hm with rfl | rfl <;> omega
  · obtain ⟨ms, hm, rfl⟩ := perm_map_inv unP unP_eP hp
    refine h ms hm ?_
    have nd2 : ms.Nodup := hm.nodup_iff.mpr nd
    rw [List.pairwise_map] at hs
    have both := List.pairwise_and_iff.mpr ⟨hs, nd2⟩
    refine both.imp_of_mem fun {p q} hp hq hpq => ?_
    have h1 := hpq.1
    rw [code_eP, code_eP] at h1
    have b1 := hb p (hm.mem_iff.mp hp)
    have b2 := hb q (hm.mem_iff.mp hq)
    have ne : p ≠ q := hpq.2
    obtain ⟨a, b⟩ := p
    obtain ⟨c, d⟩ := q
    unfold ltPr
    simp only at h1 b1 b2 ⊢
    have : ¬ (a = c ∧ b = d) := fun ⟨e1, e2⟩ => ne (by rw [e1, e2])
    omega
/-- two ints sorted -/
theorem sortAW_two {i j : Int} {Q : PyData → Prop} (h : Q (.list [.int (min i j), .int (max i j)])) : sortAW (.list [.int i, .int j]) Q := by
  refine .inl ⟨[i, j], rfl, by show 2 < 64; decide, fun ns hp hs => ?_⟩
  have hl := hp.length_eq
  match ns, hl, hp, hs with
  | [a, b], _, hp, hs =>
    have hab : a ≤ b := by simpa using hs
    have : (a = i ∧ b = j) ∨ (a = j ∧ b = i) := by
      have ha : a = i ∨ a = j := by simpa using (hp.mem_iff.mp (List.mem_cons_self) : a ∈ [i, j])
      rcases ha with rfl | rfl
      · have := List.perm_singleton.mp hp.cons_inv
        exact .inl ⟨rfl, by simpa using this⟩
      · have := List.perm_singleton.mp (hp.trans (List.Perm.swap a i [])).cons_inv
        exact .inr ⟨rfl, by simpa using this⟩
    rcases this with ⟨rfl, rfl⟩ | ⟨rfl, rfl⟩
    · rw [Int.min_eq_left hab, Int.max_eq_right hab] at h
      exact h
    · rw [Int.min_eq_right hab, Int.max_eq_left hab] at h
      exact h
theorem eqv_nil (xs : List PyData) : PyData.eqv (.list xs) (.list []) = xs.isEmpty := by cases xs <;> rfl
/-- data that == can look through -/
def LayD (x : PyData) : Prop := PyData.canLay0 x = true ∧ x.depth ≤ 40
theorem shaped_layL {xs : List PyData} (h : ∀ x ∈ xs, LayD x) : SeqAt.shaped (.list xs) = true := by
  have h1 : PyData.canLayAll0 xs = true := by
    induction xs with
    | nil => rfl
    | cons x xs ih =>
      show (PyData.canLay0 x && PyData.canLayAll0 xs) = true
      rw [(h x List.mem_cons_self).1, ih fun y hy => h y (List.mem_cons_of_mem _ hy)]
      rfl
  have h2 : PyData.depthAll xs ≤ 40 := by
    clear h1
    induction xs with
    | nil => exact Nat.zero_le _
    | cons x xs ih =>
      show max (PyData.depth x) (PyData.depthAll xs) ≤ 40
      exact Nat.max_le.mpr ⟨(h x List.mem_cons_self).2, ih fun y hy => h y (List.mem_cons_of_mem _ hy)⟩
  unfold SeqAt.shaped
  rw [show PyData.canLay0 (.list xs) = PyData.canLayAll0 xs from rfl, h1]
  have h3 : PyData.depth (.list xs) ≤ 41 := Nat.succ_le_succ h2
  simp
  omega
theorem LayD_int (i : Int) : LayD (.int i) := ⟨rfl, Nat.zero_le _⟩
theorem LayD_eP (p : Pr) : LayD (eP p) := ⟨rfl, by show 1 ≤ 40; decide⟩
theorem while_inv {t : DT} {b : DS} {d : DEnds} (I : Nat → Ev → Ms → Prop)
    (step : ∀ k η M (nx : Ev → Ms → Prop), I k η M → (∀ j η' M', j < k → I j η' M' → nx η' M') → t η M fun c M1 => if c = true then b { nx := nx, rt := d.rt, bk := d.nx, ct := nx } η M1 else d.nx η M1)
    {k : Nat} {η : Ev} {M : Ms} (h : I k η M) : dWhile t b d η M := by
  have key : ∀ n k η M, k < n → I k η M → dWhN t b d n η M := by
    intro n
    induction n with
    | zero => intro k η M hk; omega
    | succ n ih => exact fun k η M hk hI => step k η M _ hI fun j η' M' hj hI' => ih j η' M' (by omega) hI'
  exact ⟨k + 1, key (k + 1) k η M (Nat.lt_succ_self k) h⟩
theorem eraseIdx_perm {α : Type} : ∀ {xs : List α} {k : Nat} {y : α}, xs[k]? = some y → (y :: xs.eraseIdx k).Perm xs
  | x :: xs, 0, y, h => by
    have : x = y := by simpa using h
    subst this
    exact List.Perm.refl _
  | x :: xs, k + 1, y, h => by
    have h' : xs[k]? = some y := by simpa using h
    show (y :: x :: xs.eraseIdx k).Perm (x :: xs)
    exact (List.Perm.swap _ _ _).trans ((eraseIdx_perm h').cons x)
theorem seqIndex_nat {k n : Nat} (h : k < n) : seqIndex? (k : Int) n = some k := by
  unfold seqIndex?
  simp
  omega
/-! ### repr -/
theorem Sm_eP {b : Bool} {p : Pr} (h1 : p.1 < 1000) (h2 : p.2 < 1000) : Sm b 1 2 (eP p) := Sm_pair (Sm_nat (Nat.lt_trans h1 (by decide))) (Sm_nat (Nat.lt_trans h2 (by decide)))
theorem Sm_eL {b : Bool} {ls : List Pr} (h : ∀ p ∈ ls, p.1 < 1000 ∧ p.2 < 1000) (hl : ls.length ≤ 66) : Sm b 2 200 (eL ls) := by
  refine Sm_tup (SmA_mem (n := 2) (fun x hx => ?_) (by rw [List.length_map]; omega))
  obtain ⟨p, hp, rfl⟩ := List.mem_map.mp hx
  exact (Sm_eP (h p hp).1 (h p hp).2)
theorem Sm_eW {b : Bool} {n : Nat} {A : Adj} (h : n < 13) : Sm b 3 202 (eW n (lnsA n A)) :=
  (Sm_pair (Sm_nat (Nat.lt_trans h (by decide))) (Sm_eL (fun p hp => by have := mem_lnsA.mp hp; omega) (lnsA_le h A))).mono (Nat.le_refl _) (by omega)
def eI (ns : List Int) : PyData := .tuple (ns.map .int)
def eN (ns : List Nat) : PyData := .tuple (ns.map fun i => .int (i : Nat))
theorem Sm_eN {b : Bool} {ns : List Nat} (h : ∀ i ∈ ns, i < 1000) (hl : ns.length ≤ 100) : Sm b 1 100 (eN ns) := by
  refine Sm_tup (SmA_mem (n := 0) (fun x hx => ?_) (by rw [List.length_map]; omega))
  obtain ⟨i, hi, rfl⟩ := List.mem_map.mp hx
  exact Sm_nat (Nat.lt_trans (h i hi) (by decide))
end NS
end
section
namespace NS
open PySem PySem.Spec PyProof.Rows L2 DL WB
section
local macro_rules | `(tactic| walk_at "ev") => `(tactic| simp only [bodySp, startD, dSeq, dRet, dRetN, dDrop, dSet, dIfS, dNext, dTst, dtNot, dtAnd, dtOr, dOp, dV, dC, dNeg, dNot, dAnd, dOr, dIf, dChain, daNil, daCons, dTup, dLst, dCB, dTy, dAsg, dPar, gN, gNl, gCn, gTp, dGet, dPut, dPop, dAppend, dCall, dCallK, kw1, dSl, dNoPart, dPart, dRev, dDicE, dLstM,
  List.map_cons, List.map_nil, List.length_cons, List.length_nil, List.cons_append, List.nil_append, List.append_nil, List.replicate_succ, List.replicate_zero, Nat.reduceAdd, Nat.reduceSub, List.set_cons_zero, List.set_cons_succ,
  List.getElem?_cons_zero, List.getElem?_cons_succ, Option.some.injEq, exists_eq_left', exists_eq_left, dBin_d, d1_d, rd_d, true_and, and_true, L.d.injEq, L.p.injEq, PyData.bool.injEq, PyData.int.injEq, PyData.str.injEq, PyData.tuple.injEq, List.cons.injEq, reduceCtorEq])
def bdeckA (c : Int) : DS :=
  (dSeq (dSet 1 (dDisp [(.inr "deep", (dLstM daNil)), (.inr "state", (dOp (dBin addW) (dC (.int c)) (dCB (d1 lenW) (daCons (dSl (dV 0) dNoPart (dPart (dC (.int 63)))) daNil))))]))
  (dSeq (dFor (iSq (dSl (dV 0) dNoPart (dPart (dC (.int 63))))) (gN 2) (dSeq (dSet 3 (dCB (d1 absW) (daCons (dV 2) daNil)))
  (dSeq (dIfS (dTst (dOp (dBin geW) (dV 3) (dOp (dBin powW) (dC (.int 10)) (dC (.int 18))))) (dPut (dV 1) (dC (.str "deep")) (dCatM (dLst (daCons (dV 3) daNil)) (dGet (dV 1) (dC (.str "deep"))))) dNext)
  (dSeq (dSet 4 (dOp (dBin addW) (dOp (dBin mulW) (dOp (dBin addW) (dOp (dBin addW) (dOp (dBin addW) (dGet (dV 1) (dC (.str "state"))) (dOp (dBin mulW) (dC (.int 2)) (dV 3))) (dCB (d1 intW) (daCons (dOp (dBin ltW) (dV 2) (dC (.int 0))) daNil))) (dC (.int 1))) (dC (.int 1181783497276652981))) (dC (.int 521288629))))
  (dPut (dV 1) (dC (.str "state")) (dOp (dBin modW) (dCB (d1 intW) (daCons (dV 4) daNil)) (dC (.int 2305843009213693951))))))))
  (dRet (dV 1))))
def b_law_draw : DS :=
  (dSeq (dIfS (dTst (dOp (dBin ltW) (dV 1) (dC (.int 2)))) (dRet (dC (.int 0))) dNext)
  (dSeq (dIfS (dTst (dOp (dBin neW) (dGet (dV 0) (dC (.str "deep"))) (dLst daNil))) (dSeq (dSet 2 (dPop (dGet (dV 0) (dC (.str "deep")))))
  (dSeq (dIfS (dTst (dOp (dBin geW) (dV 2) (dV 1))) (dDrop (dAppend (dGet (dV 0) (dC (.str "deep"))) (dOp (dBin fdivW) (dV 2) (dV 1)))) dNext)
  (dRet (dOp (dBin modW) (dCB (d1 intW) (daCons (dV 2) daNil)) (dV 1))))) dNext)
  (dSeq (dSet 3 (dOp (dBin modW) (dCB (d1 intW) (daCons (dOp (dBin addW) (dOp (dBin mulW) (dGet (dV 0) (dC (.str "state"))) (dC (.int 1181783497276652981))) (dC (.int 88172645463325))) daNil)) (dC (.int 2305843009213693951))))
  (dSeq (dPut (dV 0) (dC (.str "state")) (dV 3))
  (dSeq (dSet 4 (dOp (dBin modW) (dCB (d1 intW) (daCons (dOp (dBin addW) (dOp (dBin addW) (dOp (dBin mulW) (dV 3) (dV 3)) (dOp (dBin mulW) (dC (.int 374761393)) (dV 3))) (dC (.int 11))) daNil)) (dC (.int 2305843009213693921))))
  (dRet (dOp (dBin modW) (dCB (d1 intW) (daCons (dOp (dBin fdivW) (dV 4) (dC (.int 1048576))) daNil)) (dV 1))))))))
def b_law_pick : DS :=
  (dRet (dOp dIx (dV 1) (dCall 2 sp_law_draw (daCons (dV 0) (daCons (dCB (d1 lenW) (daCons (dV 1) daNil)) daNil)))))
theorem v_law_draw (ls : List L) (M : Ms) (q : DQ) (hl : ls.length = 2) (h : sp_law_draw ls M q) : bodySp 5 b_law_draw ls M q := by
  obtain ⟨a, l, n, rfl, D, hn, h⟩ := h
  have D' := D
  obtain ⟨ds, st, h1, h2, hne, s0, s1, hd, hlen⟩ := D'
  unfold b_law_draw
  walk_at "ev"
  simp only [ltW, decide_eq_true_eq, exists_eq_left']
  walk_at "ev"
  by_cases hn2 : n < 2
  · rw [decide_eq_true hn2]
    exact iteT (h 0 M (Int.le_refl 0) (.inr rfl) D (Keep.refl M))
  rw [decide_eq_false hn2]
  refine iteF ⟨a, _, .inr "deep", .p l, rfl, h1, rfl, valL_deep, [], rfl, Nat.zero_le _, ?_⟩
  refine ⟨.list (ds.map .int), .list [], rd_deep h2, rfl, ?_⟩
  refine ⟨by unfold eqOk; rw [shaped_ints]; rfl, _, rfl, ?_⟩
  rcases List.eq_nil_or_concat ds with rfl | ⟨ini, w, e⟩
  · refine iteF ⟨a, _, .inr "state", .d (.int st), rfl, h1, rfl, valL_state, ?_⟩
    simp only [dBin_d, mulW, addW, modW, intW, d1_d]
    refine ⟨.inr (by decide), ⟨by decide, ?_⟩⟩
    refine ⟨a, _, .inr "state", rfl, h1, rfl, sz 2, ?_⟩
    rw [putL_state]
    generalize hone : (st * 1181783497276652981 + 88172645463325) % 2305843009213693951 = one
    have o0 : 0 ≤ one := by rw [← hone]; exact Int.emod_nonneg _ (by decide)
    have o1 : one < P61 := by rw [← hone]; exact Int.emod_lt_of_pos _ (by decide)
    simp only [P61] at o1
    refine ⟨.inl (by omega), .inl (by decide), by decide, ?_⟩
    generalize htwo : (one * one + 374761393 * one + 11) % 2305843009213693921 = two
    refine ⟨by unfold CDiv; decide, by omega, ?_⟩
    refine h _ _ (Int.emod_nonneg _ (by omega)) (.inl (Int.emod_lt_of_pos _ (by omega))) ⟨[], one, updM_same, ?_, hne, o0, o1, by simp, by simp⟩ fun b x y z => updM_ne x
    rw [updM_ne hne.symm]
    exact h2
  · rw [List.concat_eq_append] at e
    subst e
    have hw : 0 ≤ w := hd w (by simp)
    have hlen2 : ini.length ≤ 62 := by
      rw [List.length_append, List.length_singleton] at hlen
      omega
    have hd2 : ∀ x ∈ ini, 0 ≤ x := fun x hx => hd x (by simp [hx])
    have en : PyData.eqv (.list ((ini ++ [w]).map PyData.int)) (.list []) = false := by cases ini <;> rfl
    rw [en]
    refine iteT ?_
    refine ⟨a, _, .inr "deep", .p l, rfl, h1, rfl, valL_deep, l, _, .d (.int w), rfl, h2, by simp, ?_⟩
    have e1 : updM M l (.lst ((ini ++ [w]).map fun i => L.d (.int i)).dropLast) = updM M l (.lst (ini.map fun i => L.d (.int i))) := by simp
    rw [e1]
    generalize hM1 : updM M l (.lst (ini.map fun i => L.d (.int i))) = M1
    have a1 : M1 a = some (.dct [(kDeep, .p l), (kState, .d (.int st))]) := by rw [← hM1, updM_ne hne]; exact h1
    have l1 : M1 l = some (.lst (ini.map fun i => L.d (.int i))) := by rw [← hM1]; exact updM_same
    have k1 : Keep a l M M1 := fun b x y z => by rw [← hM1]; exact updM_ne y
    simp only [dBin_d, geW, ordW, d1_d, intW, modW]
    refine ⟨_, rfl, ?_⟩
    by_cases hc : n ≤ w
    · rw [decide_eq_true hc]
      refine iteT ⟨a, _, .inr "deep", .p l, rfl, a1, rfl, valL_deep, l, rfl, ⟨_, l1⟩, ?_⟩
      simp only [fdivW]
      refine ⟨⟨by omega, by omega⟩, _, l1, Nat.lt_of_le_of_lt (by rw [List.length_map]; omega : _ ≤ 1000) (sz 1000), by omega, ?_⟩
      have e2 : updM M1 l (.lst ((ini.map fun i => L.d (.int i)) ++ [L.d (.int (w / n))])) = updM M1 l (.lst ((ini ++ [w / n]).map fun i => L.d (.int i))) := by simp
      rw [e2]
      refine h _ _ (Int.emod_nonneg _ (by omega)) (.inl (Int.emod_lt_of_pos _ (by omega))) ⟨ini ++ [w / n], st, ?_, updM_same, hne, s0, s1, ?_, ?_⟩ fun b x y z => ?_
      · rw [updM_ne hne]
        exact a1
      · intro x hx
        rcases List.mem_append.mp hx with hx | hx
        · exact hd2 x hx
        · rw [List.mem_singleton.mp hx]
          exact Int.ediv_nonneg hw (by omega)
      · rw [List.length_append, List.length_singleton]
        omega
      · rw [updM_ne y]
        exact k1 b x y z
    · rw [decide_eq_false hc]
      refine iteF ⟨by omega, h _ _ (Int.emod_nonneg _ (by omega)) (.inl (Int.emod_lt_of_pos _ (by omega))) ⟨ini, st, a1, l1, hne, s0, s1, hd2, by omega⟩ k1⟩
theorem v_law_pick (ls : List L) (M : Ms) (q : DQ) (hl : ls.length = 2) (h : sp_law_pick ls M q) : bodySp 2 b_law_pick ls M q := by
  obtain ⟨a, l, xs, rfl, D, hne, hz, h⟩ := h
  unfold b_law_pick
  walk_at "ev"
  simp only [lenW, sp_law_draw]
  walk_at "ev"
  have hp : 0 < xs.length := List.length_pos_iff.mpr hne
  refine ⟨a, l, xs.length, ⟨rfl, rfl⟩, D, by omega, fun r M' r0 r1 D' k' => ?_⟩
  have hr : r < (xs.length : Int) := by omega
  obtain ⟨x, hx, e⟩ := atI_of r0 hr
  exact ⟨r, x, rfl, e, h x M' hx D' k'⟩
end
section
local macro_rules | `(tactic| walk_at "ev") => `(tactic| simp only [bodySp, startD, dSeq, dRet, dRetN, dDrop, dSet, dIfS, dNext, dTst, dtNot, dtAnd, dtOr, dOp, dV, dC, dNeg, dNot, dAnd, dOr, dIf, dChain, daNil, daCons, dTup, dLst, dCB, dTy, dAsg, dPar, gN, gNl, gCn, gTp, dGet, dPut, dPop, dAppend, dCall, dCallK, kw1, dSl, dNoPart, dPart, dRev, dDicE, dLstM,
  List.map_cons, List.map_nil, List.length_cons, List.length_nil, List.cons_append, List.nil_append, List.append_nil, List.replicate_succ, List.replicate_zero, Nat.reduceAdd, Nat.reduceSub, List.set_cons_zero, List.set_cons_succ,
  List.getElem?_cons_zero, List.getElem?_cons_succ, Option.some.injEq, exists_eq_left', exists_eq_left, dBin_d, d1_d, rd_d, true_and, and_true, L.d.injEq, L.p.injEq, PyData.bool.injEq, PyData.int.injEq, PyData.str.injEq, PyData.tuple.injEq, List.cons.injEq, reduceCtorEq, exd_nil, exd_cons, sizeLine, Nat.reducePow, Nat.reduceLeDiff, Int.reducePow, Int.reduceNeg, Int.toNat_natCast, dYes, ite_true])
def AtDeck (a l : Addr) (ds : List Int) (st : Int) (M : Ms) : Prop := M a = some (.dct [(kDeep, .p l), (kState, .d (.int st))]) ∧ M l = some (.lst (ds.map fun i => L.d (.int i))) ∧ a ≠ l ∧ 0 ≤ st ∧ st < P61 ∧ (∀ x ∈ ds, 0 ≤ x)
theorem vdeckA (c : Nat) (hc : c ≤ 100000) (ls : List L) (M : Ms) (q : DQ) (hl : ls.length = 1) (h : sp_law_deck ls M q) : bodySp 5 (bdeckA c) ls M q := by
  obtain ⟨ns, rfl, hn, h⟩ := h
  unfold bdeckA
  walk_at "ev"
  unfold dDisp
  walk_at "ev"
  have c63 : cutD (ns.map PyData.int) none (some 63) = ns.map PyData.int := by
    rw [show (63 : Int) = ((63 : Nat) : Int) from rfl, cutD_to]
    exact List.take_of_length_le (by rw [List.length_map]; exact hn)
  intro a ha
  unfold dPrs dPrs dPrs
  walk_at "ev"
  simp only [slW, lenW, addW, c63]
  intro l hl2
  have hne : a ≠ l := by
    rintro rfl
    rw [updM_same] at hl2
    cases hl2
  have hl3 : M l = none := by
    rw [updM_ne hne.symm] at hl2
    exact hl2
  refine ⟨by rw [updM_ne hne, updM_same], ?_⟩
  unfold dFor iSq
  walk_at "ev"
  simp only [slW, c63]
  refine loop_inv (fun k η M' => ∃ l ds st x y z, η = [some (L.d (PyData.list (ns.map PyData.int))), some (L.p a), x, y, z] ∧ AtDeck a l ds st M' ∧ ds.length ≤ k ∧ M l = none ∧ ∀ b, M b ≠ none → M' b = M b) ?_ ?_ ?_
  · rintro k x η M' nx hx ⟨l, ds, st, x2, x3, x4, rfl, hA, hk, hM, fr⟩ hnx
    obtain ⟨n, rfl⟩ := map_getElem_int hx
    simp only [gN, List.set_cons_succ, List.set_cons_zero]
    generalize hz : (if n < 0 then -n else n) = z
    have hz0 : 0 ≤ z := by
      rw [← hz]
      split <;> omega
    refine seq_inv (fun η M2 => M2 = M' ∧ η = [some (L.d (PyData.list (ns.map PyData.int))), some (L.p a), some (L.d (PyData.int n)), some (L.d (PyData.int z)), x4]) (fun nx hn => ?_) ?_
    · walk_at "ev"
      refine hn _ _ ⟨rfl, ?_⟩
      rw [hz]
    rintro _ _ ⟨rfl, rfl⟩
    refine seq_inv (fun η M2 => ∃ l ds st, η = [some (L.d (PyData.list (ns.map PyData.int))), some (L.p a), some (L.d (PyData.int n)), some (L.d (PyData.int z)), x4] ∧ AtDeck a l ds st M2 ∧ ds.length ≤ k + 1 ∧ M l = none ∧ ∀ b, M b ≠ none → M2 b = M b) (fun nx hn => ?_) ?_
    · walk_at "ev"
      simp only [powW, geW, ordW]
      refine ⟨by unfold CPow; decide, _, rfl, ?_⟩
      have hA' := hA
      obtain ⟨g1, g2, g3, g4, g5, g6⟩ := hA'
      split
      · unfold dCatM
        walk_at "ev"
        refine ⟨a, _, .inr "deep", .p l, rfl, g1, rfl, valL_deep, ?_⟩
        refine ⟨_, _, rfl, rd_deep g2, by rw [List.length_map]; show 1 + ds.length ≤ _; have := List.length_map (f := PyData.int) (as := ns); have := (List.getElem?_eq_some_iff.mp hx).1; omega, fun p hp => ?_⟩
        have p1 : p ≠ a := by
          rintro rfl
          rw [g1] at hp
          cases hp
        have p2 : M p = none := by
          cases e : M p with
          | none => rfl
          | some w =>
            have := fr p (by rw [e]; simp)
            rw [hp, e] at this
            cases this
        refine ⟨a, _, .inr "deep", rfl, by rw [updM_ne p1.symm]; exact g1, rfl, by simp, ?_⟩
        rw [putL_deep]
        refine hn _ _ ⟨p, z :: ds, st, rfl, ⟨updM_same, ?_, p1.symm, g4, g5, ?_⟩, by rw [List.length_cons]; omega, p2, fun b hb => ?_⟩
        · rw [updM_ne p1, updM_same]
          simp
        · intro y hy
          rcases List.mem_cons.mp hy with rfl | hy
          · exact hz0
          · exact g6 y hy
        · have b1 : b ≠ a := by
            rintro rfl
            exact hb ha
          have b2 : b ≠ p := by
            rintro rfl
            exact hb p2
          rw [updM_ne b1, updM_ne b2]
          exact fr b hb
      · exact hn _ _ ⟨l, ds, st, rfl, hA, by omega, hM, fr⟩
    · rintro _ M2 ⟨l2, ds2, st2, rfl, ⟨g1, g2, g3, g4, g5, g6⟩, hk2, hM2, fr2⟩
      walk_at "ev"
      refine ⟨a, _, .inr "state", _, rfl, g1, rfl, valL_state, ?_⟩
      simp only [dBin_d, mulW, addW, modW, ltW, intW, d1_d]
      refine ⟨.inl (by decide), .inr (by decide), by decide, ?_⟩
      refine ⟨a, _, .inr "state", rfl, g1, rfl, by simp, ?_⟩
      rw [putL_state]
      refine hnx _ _ ⟨l2, ds2, _, _, _, _, rfl, ⟨updM_same, ?_, g3, Int.emod_nonneg _ (by decide), Int.emod_lt_of_pos _ (by decide), g6⟩, hk2, hM2, fun b hb => ?_⟩
      · rw [updM_ne g3.symm]
        exact g2
      · have b1 : b ≠ a := by
          rintro rfl
          exact hb ha
        rw [updM_ne b1]
        exact fr2 b hb
  · rintro η M' ⟨l, ds, st, x2, x3, x4, rfl, ⟨g1, g2, g3, g4, g5, g6⟩, hk, hM, fr⟩
    rw [List.length_map] at hk
    refine ⟨_, rfl, h a l M' ⟨ds, st, g1, g2, g3, g4, g5, g6, by omega⟩ (fun b hb => ⟨?_, ?_⟩) fun b _ _ hb => fr b hb⟩
    · rintro rfl
      exact hb ha
    · rintro rfl
      exact hb hM
  · refine ⟨l, [], (c : Int) + ((ns.map PyData.int).length : Nat), none, none, none, rfl, ⟨?_, ?_, hne, ?_, ?_, by simp⟩, Nat.zero_le _, hl3, fun b hb => ?_⟩
    · rw [updM_same]
      rfl
    · rw [updM_ne hne.symm, updM_same]
      rfl
    · omega
    · rw [List.length_map]
      unfold P61
      omega
    · have b1 : b ≠ a := by
        rintro rfl
        exact hb ha
      have b2 : b ≠ l := by
        rintro rfl
        exact hb hl3
      rw [updM_ne b1, updM_ne b2, updM_ne b1]
end
end NS
end
section
/-! what the laws of the first twelve draw with -/
namespace NS
open PySem PySem.Spec PyProof.Rows L2 DL WB
local macro_rules | `(tactic| walk_at "ev") => `(tactic| simp only [ite_self, intW_b, tupleW_t, listW_l, revW_l, atI_zero, atI_one, atI_two, true_imp_iff, false_imp_iff, Int.natCast_inj, kw12, kw21, kw123, kw132, kw213, kw231, kw312, kw321, dSM, dListM, dPopAt, dListR1, dListC, daStar, dCallX, dCallKX, dRaise, dMk1, dTryAs, dXf, dIsX, bodySp, startD, dSeq, dRet, dRetN, dDrop, dSet, dIfS, dNext, dTst, dtNot, dtAnd, dtOr, dOp, dV, dC, dNeg, dNot, dAnd, dOr, dIf, dChain, daNil, daCons, dTup, dLst, dCB, dTy, dAsg, dPar, gN, gNl, gCn, gTp, dGet, dPut, dPop, dAppend, dCall, dCallK, kw1, dSl, dNoPart, dPart, dRev, dDicE, dLstM,
  List.map_cons, List.map_nil, List.length_cons, List.length_nil, List.cons_append, List.nil_append, List.append_nil, List.replicate_succ, List.replicate_zero, Nat.reduceAdd, Nat.reduceSub, List.set_cons_zero, List.set_cons_succ,
  List.getElem?_cons_zero, List.getElem?_cons_succ, Option.some.injEq, exists_eq_left', exists_eq_left, dBin_d, d1_d, rd_d, true_and, and_true, L.d.injEq, L.p.injEq, PyData.bool.injEq, PyData.int.injEq, PyData.str.injEq, PyData.tuple.injEq, List.cons.injEq, reduceCtorEq, exd_nil, exd_cons, sizeLine, Nat.reducePow, Nat.reduceLeDiff, Int.reducePow, Int.reduceNeg, Int.toNat_natCast, dYes, ite_true, addW_ii, addW_tt, addW_ll, subW_ii, ltW_ii, leW_ii, geW_ii, eqW_ii, slW_t, slW_l, revW_t, lenW_t, lenW_l, listW_t, tupleW_l, intW_i, dIx_t, dIx_l, and_assoc, exists_and_left])
def sp_law_pairs : DSp := fun ls M q => ∃ n : Nat, ls = [.d (.int n)] ∧ n ≤ 12 ∧ q (.d (.list ((pairsN n).map eP))) M
def sp_law_web : DSp := fun ls M q => ∃ (a l : Addr) (n : Nat), ls = [.p a, .d (.int n)] ∧ DeckAt a l M ∧ n ≤ 12 ∧ ∀ A M', Sy A → Irr A → DeckAt a l M' → Keep a l M M' → q (.d (eW n (lnsA n A))) M'
def sp_law_mixed : DSp := fun ls M q => ∃ (a l : Addr) (xs : List PyData), ls = [.p a, .d (.list xs)] ∧ DeckAt a l M ∧ (∀ x ∈ xs, LayD x) ∧ xs.length ≤ 1000 ∧ ∀ (b : Addr) (ys : List PyData) (M' : Ms), ys.Perm xs → M' b = some (.lst (ys.map L.d)) → M b = none → DeckAt a l M' → Keep a l M M' → q (.p b) M'
def sp_law_own : DSp := fun ls M q => ∃ (n : Nat) (A : Adj), ls = [.d (eW n (lnsA n A))] ∧ n ≤ 12 ∧ Sy A ∧ Irr A ∧ q (.d (eN ((List.range n).map (degA n A)))) M
def b_law_mixed : DS :=
  (dSeq (dPar 2 3 (daCons (dListM (dV 1)) (daCons (dLstM daNil) daNil)))
  (dSeq (dWhile (dTst (dOp (dBin neW) (dV 2) (dLst daNil))) (dDrop (dAppend (dV 3) (dPopAt (dV 2) (dCall 2 sp_law_draw (daCons (dV 0) (daCons (dCB (d1 lenW) (daCons (dV 2) daNil)) daNil)))))))
  (dRet (dV 3))))
def b_law_pairs : DS :=
  (dSeq (dSet 1 (dLst daNil))
  (dSeq (dFor (iR1 (daCons (dV 0) daNil)) (gN 2) (dSet 1 (dOp (dBin addW) (dV 1) (dLc (iR2 (daCons (dOp (dBin addW) (dV 2) (dC (.int 1))) (daCons (dV 0) daNil))) (gN 3) dYes (dTup (daCons (dV 2) (daCons (dV 3) daNil))) [3]))))
  (dRet (dV 1))))
def b_law_web : DS :=
  (dSeq (dSet 2 (dCall 2 sp_law_pick (daCons (dV 0) (daCons (dLst (daCons (dC (.int 0)) (daCons (dC (.int 1)) (daCons (dC (.int 3)) (daCons (dC (.int 3)) (daCons (dC (.int 4)) (daCons (dC (.int 5)) (daCons (dC (.int 5)) (daCons (dC (.int 6)) daNil))))))))) daNil))))
  (dRet (dTup (daCons (dV 1) (daCons (dCB (d1 tupleW) (daCons (dLc (iSq (dCall 1 sp_law_pairs (daCons (dV 1) daNil))) (gN 3) (dTst (dOp (dBin ltW) (dCall 2 sp_law_draw (daCons (dV 0) (daCons (dC (.int 6)) daNil))) (dV 2))) (dV 3) [3]) daNil)) daNil)))))
def b_law_own : DS :=
  (dRet (dCB (d1 tupleW) (daCons (dLc (iR1 (daCons (dOp dIx (dV 0) (dC (.int 0))) daNil)) (gN 1) dYes (dCB (d1 lenW) (daCons (dLc (iSq (dOp dIx (dV 0) (dC (.int 1)))) (gN 2) (dTst (dOp (dBin (memW false)) (dV 1) (dV 2))) (dC (.int 1)) [2]) daNil)) [1]) daNil)))
theorem rowN_data (n k : Nat) : (rangeD ((k : Int) + 1) ((n : Int) - ((k : Int) + 1)).toNat).map (fun b => PyData.tuple [.int (k : Nat), b]) = (rowN n k).map eP := by
  unfold rangeD rowN
  rw [List.map_map, List.map_map, show ((n : Int) - ((k : Int) + 1)).toNat = n - (k + 1) by omega]
  refine List.map_congr_left fun j _ => ?_
  simp only [Function.comp, eP]
  congr 3
theorem pairsN_upto (n k : Nat) : (List.range (k + 1)).flatMap (rowN n) = (List.range k).flatMap (rowN n) ++ rowN n k := by
  rw [List.range_succ, List.flatMap_append]
  simp
theorem upto_len (n : Nat) : ∀ k, ((List.range k).flatMap (rowN n)).length ≤ k * n
  | 0 => by simp
  | k + 1 => by
    rw [pairsN_upto, List.length_append]
    have := upto_len n k
    have : (rowN n k).length ≤ n := by
      unfold rowN
      rw [List.length_map, List.length_range]
      omega
    rw [Nat.succ_mul]
    omega
theorem v_law_pairs (ls : List L) (M : Ms) (q : DQ) (hl : ls.length = 1) (h : sp_law_pairs ls M q) : bodySp 4 b_law_pairs ls M q := by
  obtain ⟨n, rfl, hn, h⟩ := h
  unfold b_law_pairs
  walk_at "ev"
  unfold dFor iR1
  walk_at "ev"
  refine ⟨by omega, by omega, ?_⟩
  refine loop_inv (fun k η M' => M' = M ∧ ∃ x y : Option L, η = [some (L.d (PyData.int n)), some (L.d (PyData.list (((List.range k).flatMap (rowN n)).map eP))), x, y]) ?_ ?_ ⟨rfl, none, none, rfl⟩
  · rintro k x η M' nx hx ⟨rfl, u, v, rfl⟩ hnx
    obtain ⟨hk, rfl⟩ := rangeD_at hx
    walk_at "ev"
    unfold dLc iR2 wipeD wipeD
    walk_at "ev"
    refine ⟨by omega, by omega, by omega, by omega, ?_⟩
    refine lcN_map (f := fun b => .tuple [.int k, b]) (fun b _ Q E hQ => ?_) ?_ ?_
    · walk_at "ev"
      rw [Int.zero_add]
      exact hQ
    · rw [rangeD_len]
      have : (n : Int) - ((k : Int) + 1) ≤ 12 := by omega
      have : (12 : Nat) ≤ sizeLine := by decide
      simp
      omega
    · have e1 := upto_len n k
      have e3 : k * n ≤ 12 * 12 := Nat.mul_le_mul (by omega) hn
      have e2 : ((rowN n k).map eP).length ≤ 12 := by
        unfold rowN
        rw [List.length_map, List.length_map, List.length_range]
        omega
      rw [Int.zero_add, List.nil_append, rowN_data]
      refine ⟨?_, ?_⟩
      · rw [List.length_map]
        have : (144 : Nat) + 12 ≤ sizeLine := by decide
        simp only [sizeLine] at this
        omega
      · refine hnx _ _ ⟨rfl, some (L.d (PyData.int k)), v, ?_⟩
        rw [pairsN_upto, List.map_append]
  · rintro η M' ⟨rfl, x, y, rfl⟩
    rw [rangeD_len]
    exact ⟨_, rfl, h⟩
theorem sub_map_eP {n : Nat} {zs : List PyData} (h : zs.Sublist ((pairsN n).map eP)) : ∃ A, Sy A ∧ Irr A ∧ zs = (lnsA n A).map eP := by
  obtain ⟨ls, hs, rfl⟩ := List.sublist_map_iff.mp h
  exact ⟨adjL ls, adjL_sy ls, adjL_irr ls, congrArg (List.map eP) (lns_of_sub hs)⟩
theorem v_law_web (ls : List L) (M : Ms) (q : DQ) (hl : ls.length = 2) (h : sp_law_web ls M q) : bodySp 4 b_law_web ls M q := by
  obtain ⟨a, l, n, rfl, D, hn, h⟩ := h
  unfold b_law_web
  walk_at "ev"
  simp only [sp_law_pick]
  walk_at "ev"
  refine ⟨l, _, rfl, D, by simp, by decide, fun x M1 hx D1 k1 => ?_⟩
  obtain ⟨w, rfl⟩ : ∃ w : Int, x = .int w := by
    simp at hx
    rcases hx with rfl | rfl | rfl | rfl | rfl | rfl <;> exact ⟨_, rfl⟩
  unfold dLc iSq wipeD wipeD
  walk_at "ev"
  simp only [sp_law_pairs]
  refine ⟨n, rfl, hn, ?_⟩
  refine lcN_sub (fun M2 => DeckAt a l M2 ∧ Keep a l M M2) (fun y hy M2 hM2 Q E hQ hE => ?_) ?_ ⟨D1, k1⟩ fun zs M2 hz hM2 => ?_
  · walk_at "ev"
    simp only [sp_law_draw]
    walk_at "ev"
    refine ⟨l, hM2.1, by decide, fun r M3 _ _ D3 k3 => ?_⟩
    split
    · exact hQ _ ⟨D3, hM2.2.trans k3⟩
    · exact hE _ ⟨D3, hM2.2.trans k3⟩
  · have := pairsN_le n (by omega)
    have : (144 : Nat) ≤ sizeLine := by decide
    simp
    omega
  · obtain ⟨A, sy, ir, rfl⟩ := sub_map_eP hz
    exact h A _ sy ir hM2.1 hM2.2
theorem map_erase {α β : Type} (f : α → β) : ∀ (xs : List α) (k : Nat), (xs.eraseIdx k).map f = (xs.map f).eraseIdx k
  | [], _ => rfl
  | _ :: _, 0 => rfl
  | x :: xs, k + 1 => by
    show f x :: (xs.eraseIdx k).map f = f x :: (xs.map f).eraseIdx k
    rw [map_erase f xs k]
theorem rd_lst {M : Ms} {a : Addr} {ys : List PyData} (h : M a = some (.lst (ys.map L.d))) : rd M (.p a) = some (.list ys) := rd_p h
theorem v_law_mixed (ls : List L) (M : Ms) (q : DQ) (hl : ls.length = 2) (h : sp_law_mixed ls M q) : bodySp 4 b_law_mixed ls M q := by
  obtain ⟨a, l, xs, rfl, D, hx, hz, h⟩ := h
  unfold b_law_mixed
  walk_at "ev"
  refine ⟨xs, .inl rfl, fun b1 hb1 b2 hb2 => ?_⟩
  have e12 : b2 ≠ b1 := by
    rintro rfl
    rw [updM_same] at hb2
    cases hb2
  have hb2' : M b2 = none := by
    rw [updM_ne e12] at hb2
    exact hb2
  have nM : ∀ {b : Addr}, M b = none → b ≠ a ∧ b ≠ l := by
    intro b hb
    obtain ⟨ds, st, h1, h2, _⟩ := D
    exact ⟨fun e => (by rw [e, h1] at hb; cases hb), fun e => (by rw [e, h2] at hb; cases hb)⟩
  refine while_inv (fun k η M' => η = [some (.p a), some (.d (.list xs)), some (.p b1), some (.p b2)] ∧ ∃ zs ys : List PyData, M' b1 = some (.lst (zs.map L.d)) ∧ M' b2 = some (.lst (ys.map L.d)) ∧ (ys ++ zs).Perm xs ∧ zs.length = k ∧ DeckAt a l M' ∧ ∀ b, b ≠ a → b ≠ l → M b ≠ none → M' b = M b) ?_ (k := xs.length) ⟨rfl, xs, [], ?_, ?_, List.Perm.refl _, rfl, ?_, ?_⟩
  · rintro k η M' nx ⟨rfl, zs, ys, h1, h2, hp, hk, D', K'⟩ hnx
    walk_at "ev"
    have hsub : ∀ x ∈ zs, x ∈ xs := fun x hm => hp.mem_iff.mp (List.mem_append_right _ hm)
    refine ⟨.list zs, .list [], rd_lst h1, rfl, ?_⟩
    refine ⟨by unfold eqOk; rw [shaped_layL fun x hm => hx x (hsub x hm)]; rfl, _, rfl, ?_⟩
    rw [eqv_nil]
    cases zs with
    | nil =>
      refine iteF ?_
      rw [List.append_nil] at hp
      exact h b2 ys M' hp h2 hb2' D' K'
    | cons z zs =>
      refine iteT ?_
      refine ⟨⟨_, h2⟩, ⟨_, h1⟩, ?_⟩
      simp only [sp_law_draw]
      have hlz : (z :: zs).length ≤ 1000 := by
        have := hp.length_eq
        rw [List.length_append] at this
        omega
      refine ⟨_, _, rfl, rd_lst h1, a, l, _, rfl, D', by omega, fun r M2 r0 r1 D2 k2 => ?_⟩
      have n1 := nM hb1
      have n2 := nM hb2'
      have hr : r < ((z :: zs).length : Int) := by
        rcases r1 with r1 | r1
        · exact r1
        · subst r1
          rw [List.length_cons]
          omega
      obtain ⟨j, rfl⟩ := Int.eq_ofNat_of_zero_le r0
      have hj : j < (z :: zs).length := by omega
      have g1 : M2 b1 = some (.lst ((z :: zs).map L.d)) := (k2 b1 n1.1 n1.2 (by rw [h1]; simp)).trans h1
      have g2 : M2 b2 = some (.lst (ys.map L.d)) := (k2 b2 n2.1 n2.2 (by rw [h2]; simp)).trans h2
      obtain ⟨w, hw⟩ : ∃ w, (z :: zs)[j]? = some w := ⟨_, List.getElem?_eq_getElem hj⟩
      have pe := eraseIdx_perm hw
      have hyl : ys.length ≤ 1000 := by
        have := hp.length_eq
        rw [List.length_append] at this
        omega
      refine ⟨_, g1, j, rfl, by omega, by omega, j, ?_, .d w, ?_, _, (updM_ne e12).trans g2, ?_, ?_⟩
      · rw [List.length_map]
        exact seqIndex_nat hj
      · rw [List.getElem?_map, hw]
        rfl
      · rw [List.length_map]
        omega
      · refine hnx zs.length _ _ (by rw [← hk, List.length_cons]; omega) ⟨rfl, (z :: zs).eraseIdx j, ys ++ [w], ?_, ?_, ?_, ?_, ?_, ?_⟩
        · rw [updM_ne e12.symm, updM_same, map_erase]
        · rw [updM_same, List.map_append]
          rfl
        · rw [List.append_assoc]
          exact (List.Perm.append_left ys pe).trans hp
        · have := pe.length_eq
          rw [List.length_cons, List.length_cons] at this
          omega
        · obtain ⟨ds, st, a1, a2, a3, a4⟩ := D2
          refine ⟨ds, st, ?_, ?_, a3, a4⟩
          · rw [updM_ne n2.1.symm, updM_ne n1.1.symm]
            exact a1
          · rw [updM_ne n2.2.symm, updM_ne n1.2.symm]
            exact a2
        · intro b c1 c2 c3
          rw [updM_ne (show b ≠ b2 from fun e => c3 (e ▸ hb2')), updM_ne (show b ≠ b1 from fun e => c3 (e ▸ hb1))]
          have c4 := K' b c1 c2 c3
          rw [k2 b c1 c2 (by rw [c4]; exact c3), c4]
  · rw [updM_ne e12.symm, updM_same]
  · rw [updM_same]
    rfl
  · obtain ⟨ds, st, a1, a2, a3, a4⟩ := D
    have n1 := nM hb1
    have n2 := nM hb2'
    refine ⟨ds, st, ?_, ?_, a3, a4⟩
    · rw [updM_ne n2.1.symm, updM_ne n1.1.symm]
      exact a1
    · rw [updM_ne n2.2.symm, updM_ne n1.2.symm]
      exact a2
  · intro b c1 c2 c3
    rw [updM_ne (show b ≠ b2 from fun e => c3 (e ▸ hb2')), updM_ne (show b ≠ b1 from fun e => c3 (e ▸ hb1))]
theorem inLine {p : Nat} {x : Pr} : ([PyData.int (x.1 : Nat), PyData.int (x.2 : Nat)].any fun z => z.eqv (.int (p : Nat))) = (decide (x.1 = p) || decide (x.2 = p)) := by
  have e : ∀ a b : Nat, PyData.eqv (.int (a : Nat)) (.int (b : Nat)) = decide (a = b) := fun a b => by
    simp only [PyData.eqv]
    rw [Bool.eq_iff_iff]
    simp
    omega
  simp only [List.any_cons, List.any_nil, e, Bool.or_false]
theorem memW_inLine {p : Nat} {x : Pr} {Q : PyData → Prop} (h : Q (.bool (decide (x.1 = p) || decide (x.2 = p)))) : memW false (.int (p : Nat)) (eP x) Q := by
  refine ⟨rfl, shaped_eP x, ?_⟩
  rw [inLine, Bool.bne_false]
  exact h
theorem v_law_own (ls : List L) (M : Ms) (q : DQ) (hl : ls.length = 1) (h : sp_law_own ls M q) : bodySp 3 b_law_own ls M q := by
  obtain ⟨n, A, rfl, hn, sy, ir, h⟩ := h
  have hxl := lnsA_le (n := n) (by omega) A
  unfold b_law_own eW
  walk_at "ev"
  unfold dLc iR1 wipeD wipeD
  walk_at "ev"
  refine ⟨by omega, by omega, ?_⟩
  refine lcN_map (f := fun v => match v with | .int p => PyData.int ((degA n A p.toNat : Nat) : Int) | v => v) (fun v hv Q E hQ => ?_) ?_ ?_
  · obtain ⟨p, hp, rfl⟩ := mem_rangeD hv
    have hp' : p < n := by simpa using hp
    walk_at "ev"
    unfold iSq eL
    walk_at "ev"
    refine lcN_filt (c := fun x => match x with | .tuple [.int i, .int j] => decide (i.toNat = p) || decide (j.toNat = p) | _ => false) (f := fun _ => .int 1) (fun x hxx Q' E' h1 h2 => ?_) ?_ ?_
    · obtain ⟨y, hy, rfl⟩ := List.mem_map.mp hxx
      walk_at "ev"
      rw [Int.zero_add]
      refine memW_inLine ⟨_, rfl, ?_⟩
      split
      · rename_i z
        exact h1 z
      · rename_i z
        exact h2 (Bool.eq_false_iff.mpr z)
    · rw [List.length_nil, List.length_map]
      have : (144 : Nat) ≤ sizeLine := by decide
      omega
    · rw [List.nil_append, List.length_map]
      have e : (((lnsA n A).map eP).filter fun x => match x with | .tuple [.int i, .int j] => decide (i.toNat = p) || decide (j.toNat = p) | _ => false).length = degA n A p := by
        rw [List.filter_map, List.length_map, ← List.countP_eq_length_filter, ← cnt_deg sy ir hp']
        rfl
      rw [e]
      have e2 : ((0 : Int) + (p : Int)).toNat = p := by omega
      simp only [e2] at hQ
      exact hQ
  · rw [rangeD_len]
    simp
    have : (144 : Nat) ≤ sizeLine := by decide
    omega
  · rw [List.nil_append]
    have e : (rangeD 0 n).map (fun v => match v with | .int p => PyData.int ((degA n A p.toNat : Nat) : Int) | v => v) = ((List.range n).map (degA n A)).map fun i => .int (i : Nat) := by
      unfold rangeD
      rw [List.map_map, List.map_map]
      refine List.map_congr_left fun p _ => ?_
      simp
    rw [e]
    exact h
end NS
end
section
/-! contrary webs, people renamed, a person more -/
namespace WB
def cmpA (A : Adj) : Adj := fun i j => decide (i ≠ j) && !A i j
theorem cmpA_sy {A : Adj} (h : Sy A) : Sy (cmpA A) := fun i j => by
  unfold cmpA
  rw [h i j]
  congr 1
  exact decide_eq_decide.mpr ⟨Ne.symm, Ne.symm⟩
theorem cmpA_irr (A : Adj) : Irr (cmpA A) := fun i => by simp [cmpA]
theorem lns_cmp (n : Nat) (A : Adj) : (pairsN n).filter (fun p => decide (p ∉ lnsA n A)) = lnsA n (cmpA A) := by
  refine sorted_ext ((pairsN_sorted n).sublist List.filter_sublist) (lnsA_sorted n _) fun p => ?_
  rw [List.mem_filter, mem_pairsN, decide_eq_true_iff, mem_lnsA, mem_lnsA]
  unfold cmpA
  constructor
  · rintro ⟨⟨h1, h2⟩, h3⟩
    refine ⟨h1, h2, ?_⟩
    have : p.1 ≠ p.2 := by omega
    cases e : A p.1 p.2
    · simp [this]
    · exact absurd ⟨h1, h2, e⟩ h3
  · rintro ⟨h1, h2, h3⟩
    refine ⟨⟨h1, h2⟩, fun h => ?_⟩
    rw [h.2.2] at h3
    simp at h3
theorem lns_cmp_cmp (n : Nat) (A : Adj) : lnsA n (cmpA (cmpA A)) = lnsA n A := lnsA_congr fun i j h1 h2 => by
  have : i ≠ j := by omega
  simp [cmpA, this]
/-- the person i is who os tells -/
def renA (os : List Nat) (A : Adj) : Adj := fun i j => A (os.getD i 0) (os.getD j 0)
theorem renA_sy {os : List Nat} {A : Adj} (h : Sy A) : Sy (renA os A) := fun i j => h _ _
theorem renA_irr {os : List Nat} {A : Adj} (h : Irr A) : Irr (renA os A) := fun i => h _
theorem perm_lt {os : List Nat} {n : Nat} (h : os.Perm (List.range n)) {i : Nat} (hi : i < n) : os.getD i 0 < n := by
  have hl : os.length = n := by rw [h.length_eq, List.length_range]
  rw [List.getD_eq_getElem?_getD, List.getElem?_eq_getElem (by omega)]
  exact List.mem_range.mp (h.mem_iff.mp (List.getElem_mem (by omega)))
theorem perm_map {os : List Nat} {n : Nat} (h : os.Perm (List.range n)) : (List.range n).map (fun i => os.getD i 0) = os := by
  have hl : os.length = n := by rw [h.length_eq, List.length_range]
  refine List.ext_getElem (by rw [List.length_map, List.length_range, hl]) fun i h1 h2 => ?_
  rw [List.getElem_map, List.getElem_range, List.getD_eq_getElem?_getD, List.getElem?_eq_getElem h2]
  rfl
theorem degA_ren {os : List Nat} {n : Nat} {A : Adj} (h : os.Perm (List.range n)) (i : Nat) : degA n (renA os A) i = degA n A (os.getD i 0) := by
  unfold degA renA
  have e : (List.range n).countP (A (os.getD i 0)) = ((List.range n).map fun i => os.getD i 0).countP (A (os.getD i 0)) := by
    rw [perm_map h]
    exact (h.countP_eq _).symm
  rw [e, List.countP_map]
  rfl
theorem perm_inj {os : List Nat} {n : Nat} (h : os.Perm (List.range n)) {i j : Nat} (hi : i < n) (hj : j < n) (e : os.getD i 0 = os.getD j 0) : i = j := by
  have hl : os.length = n := by rw [h.length_eq, List.length_range]
  have nd : os.Nodup := h.nodup_iff.mpr List.nodup_range
  rw [List.getD_eq_getElem?_getD, List.getD_eq_getElem?_getD, List.getElem?_eq_getElem (by omega), List.getElem?_eq_getElem (by omega)] at e
  exact (List.getElem_inj nd).mp e
/-- the way back of an order -/
def invO (os : List Nat) : List Nat := (List.range os.length).map fun p => os.idxOf p
theorem invO_at {os : List Nat} {n : Nat} (h : os.Perm (List.range n)) {p : Nat} (hp : p < n) : os.getD ((invO os).getD p 0) 0 = p ∧ (invO os).getD p 0 < n := by
  have hl : os.length = n := by rw [h.length_eq, List.length_range]
  have hm : p ∈ os := h.mem_iff.mpr (List.mem_range.mpr hp)
  have hi : os.idxOf p < os.length := List.idxOf_lt_length_iff.mpr hm
  have e : (invO os).getD p 0 = os.idxOf p := by
    unfold invO
    rw [List.getD_eq_getElem?_getD, List.getElem?_map, List.getElem?_range (by omega)]
    rfl
  rw [e, List.getD_eq_getElem?_getD, List.getElem?_eq_getElem hi]
  exact ⟨List.getElem_idxOf hi, by omega⟩
theorem invO_perm {os : List Nat} {n : Nat} (h : os.Perm (List.range n)) : (invO os).Perm (List.range n) := by
  have hl : os.length = n := by rw [h.length_eq, List.length_range]
  refine (List.perm_ext_iff_of_nodup ?_ List.nodup_range).mpr fun x => ?_
  · unfold invO
    show List.Pairwise _ _
    rw [List.pairwise_map]
    refine (List.nodup_range (n := os.length)).imp_of_mem fun {a b} ha hb hab e => ?_
    have m1 : a ∈ os := h.mem_iff.mpr (List.mem_range.mpr (by have := List.mem_range.mp ha; omega))
    have m2 : b ∈ os := h.mem_iff.mpr (List.mem_range.mpr (by have := List.mem_range.mp hb; omega))
    have h1 := List.getElem_idxOf (List.idxOf_lt_length_iff.mpr m1)
    have h2 := List.getElem_idxOf (List.idxOf_lt_length_iff.mpr m2)
    refine hab ?_
    rw [← h1, ← h2]
    congr 1
  · unfold invO
    rw [List.mem_map, List.mem_range]
    constructor
    · rintro ⟨p, hp, rfl⟩
      have hm : p ∈ os := h.mem_iff.mpr (List.mem_range.mpr (by have := List.mem_range.mp hp; omega))
      have := List.idxOf_lt_length_iff.mpr hm
      omega
    · intro hx
      refine ⟨os.getD x 0, List.mem_range.mpr (by have := perm_lt h hx; omega), ?_⟩
      have hm : os.getD x 0 ∈ os := h.mem_iff.mpr (List.mem_range.mpr (perm_lt h hx))
      have hi : os.idxOf (os.getD x 0) < os.length := List.idxOf_lt_length_iff.mpr hm
      refine perm_inj h (by omega) hx ?_
      have := List.getElem_idxOf hi
      rw [List.getD_eq_getElem?_getD, List.getElem?_eq_getElem hi]
      exact this
theorem lns_ren_back {os : List Nat} {n : Nat} {A : Adj} (h : os.Perm (List.range n)) : lnsA n (renA (invO os) (renA os A)) = lnsA n A := lnsA_congr fun i j h1 h2 => by
  unfold renA
  rw [(invO_at h (by omega : i < n)).1, (invO_at h h2).1]
/-- a person more, tied to all others or to nobody -/
def addA (n : Nat) (t : Bool) (A : Adj) : Adj := fun i j => if i = n ∨ j = n then decide (i ≠ j) && t else A i j
theorem addA_sy {n : Nat} {t : Bool} {A : Adj} (h : Sy A) : Sy (addA n t A) := fun i j => by
  unfold addA
  by_cases c : i = n ∨ j = n
  · rw [if_pos c, if_pos c.symm]
    congr 1
    exact decide_eq_decide.mpr ⟨Ne.symm, Ne.symm⟩
  · rw [if_neg c, if_neg fun c' => c c'.symm]
    exact h i j
theorem addA_irr {n : Nat} {t : Bool} {A : Adj} (h : Irr A) : Irr (addA n t A) := fun i => by
  unfold addA
  split
  · simp
  · exact h i
theorem lns_add {n : Nat} {t : Bool} {A : Adj} {ms : List Pr} (hp : ms.Perm (lnsA n A ++ if t then (List.range n).map (fun a => (a, n)) else [])) (hs : ms.Pairwise ltPr) : ms = lnsA (n + 1) (addA n t A) := by
  refine sorted_ext hs (lnsA_sorted _ _) fun p => ?_
  rw [hp.mem_iff, List.mem_append, mem_lnsA, mem_lnsA]
  unfold addA
  obtain ⟨x, y⟩ := p
  simp only
  constructor
  · rintro (⟨h1, h2, h3⟩ | h)
    · refine ⟨h1, by omega, ?_⟩
      rw [if_neg (by omega)]
      exact h3
    · cases t with
      | false => simp at h
      | true =>
        rw [if_pos rfl, List.mem_map] at h
        obtain ⟨a, ha, e⟩ := h
        have := List.mem_range.mp ha
        simp only [Prod.mk.injEq] at e
        obtain ⟨rfl, rfl⟩ := e
        have : a ≠ n := by omega
        exact ⟨by omega, by omega, by simp [this]⟩
  · rintro ⟨h1, h2, h3⟩
    by_cases c : x = n ∨ y = n
    · rw [if_pos c] at h3
      have : y = n := by omega
      subst this
      cases t with
      | false => simp at h3
      | true =>
        right
        rw [if_pos rfl, List.mem_map]
        exact ⟨x, List.mem_range.mpr h1, rfl⟩
    · rw [if_neg c] at h3
      left
      exact ⟨h1, by omega, h3⟩
theorem degA_add_old {n : Nat} {t : Bool} {A : Adj} {p : Nat} (hp : p < n) : degA (n + 1) (addA n t A) p = degA n A p + if t then 1 else 0 := by
  unfold degA
  rw [List.range_succ, List.countP_append]
  have e1 : (List.range n).countP (addA n t A p) = (List.range n).countP (A p) := by
    refine List.countP_congr fun a ha => ?_
    have := List.mem_range.mp ha
    unfold addA
    rw [if_neg (by omega)]
  rw [e1]
  have e2 : addA n t A p n = t := by
    unfold addA
    have : p ≠ n := by omega
    simp [this]
  rw [List.countP_cons, List.countP_nil, e2]
  cases t <;> simp
theorem degA_add_new {n : Nat} {t : Bool} {A : Adj} : degA (n + 1) (addA n t A) n = if t then n else 0 := by
  unfold degA
  rw [List.range_succ, List.countP_append]
  have e2 : addA n t A n n = false := by
    unfold addA
    simp
  rw [List.countP_cons, List.countP_nil, e2]
  cases t with
  | true =>
    have e1 : (List.range n).countP (addA n true A n) = (List.range n).length := by
      rw [List.countP_eq_length]
      intro a ha
      have := List.mem_range.mp ha
      unfold addA
      have : n ≠ a := by omega
      simp [this]
    rw [e1, List.length_range]
    simp
  | false =>
    have e1 : (List.range n).countP (addA n false A n) = 0 := by
      rw [List.countP_eq_zero]
      intro a ha
      unfold addA
      simp
    rw [e1]
    simp
theorem lns_cmp_add (n : Nat) (t : Bool) (A : Adj) : lnsA (n + 1) (cmpA (addA n t A)) = lnsA (n + 1) (addA n (!t) (cmpA A)) := lnsA_congr fun i j h1 h2 => by
  have : i ≠ j := by omega
  unfold cmpA addA
  by_cases c : i = n ∨ j = n
  · simp [c, this]
  · simp [c, this]
end WB
end
section
/-! webs.py -/
namespace NS
open PySem PySem.Spec PyProof.Rows L2 DL WB
local macro_rules | `(tactic| walk_at "ev") => `(tactic| simp only [ite_self, intW_b, tupleW_t, listW_l, revW_l, atI_zero, atI_one, atI_two, true_imp_iff, false_imp_iff, Int.natCast_inj, kw12, kw21, kw123, kw132, kw213, kw231, kw312, kw321, dSM, dListM, dPopAt, dListR1, dListC, daStar, dCallX, dCallKX, dRaise, dMk1, dTryAs, dXf, dIsX, bodySp, startD, dSeq, dRet, dRetN, dDrop, dSet, dIfS, dNext, dTst, dtNot, dtAnd, dtOr, dOp, dV, dC, dNeg, dNot, dAnd, dOr, dIf, dChain, daNil, daCons, dTup, dLst, dCB, dTy, dAsg, dPar, gN, gNl, gCn, gTp, dGet, dPut, dPop, dAppend, dCall, dCallK, kw1, dSl, dNoPart, dPart, dRev, dDicE, dLstM,
  List.map_cons, List.map_nil, List.length_cons, List.length_nil, List.cons_append, List.nil_append, List.append_nil, List.replicate_succ, List.replicate_zero, Nat.reduceAdd, Nat.reduceSub, List.set_cons_zero, List.set_cons_succ,
  List.getElem?_cons_zero, List.getElem?_cons_succ, Option.some.injEq, exists_eq_left', exists_eq_left, dBin_d, d1_d, rd_d, true_and, and_true, L.d.injEq, L.p.injEq, PyData.bool.injEq, PyData.int.injEq, PyData.str.injEq, PyData.tuple.injEq, List.cons.injEq, reduceCtorEq, exd_nil, exd_cons, sizeLine, Nat.reducePow, Nat.reduceLeDiff, Int.reducePow, Int.reduceNeg, Int.toNat_natCast, dYes, ite_true, addW_ii, addW_tt, addW_ll, subW_ii, ltW_ii, leW_ii, geW_ii, eqW_ii, slW_t, slW_l, revW_t, lenW_t, lenW_l, listW_t, tupleW_l, intW_i, dIx_t, dIx_l, and_assoc, exists_and_left])
structure Cls where
  aOddError : Addr := 0
  aUnfit : Addr := 0
  aBadText : Addr := 0
  aBadWeb : Addr := 0
  aRefused : Addr := 0
  aApart : Addr := 0
  aTooMany : Addr := 0
  aTooManyEdits : Addr := 0
  aNothingToUndo : Addr := 0
  aNothingToRedo : Addr := 0
  aNoVersion : Addr := 0
  aBadLog : Addr := 0
def spnumbers : DSp := sp_law_own
def spline_between : DSp := fun ls M q => ∃ i j : Nat, ls = [.d (.int i), .d (.int j)] ∧ q (.d (eP (min i j, max i j))) M
def sphas_line : DSp := fun ls M q => ∃ (n : Nat) (A : Adj) (i j : Nat), ls = [.d (eW n (lnsA n A)), .d (.int i), .d (.int j)] ∧ i < n ∧ j < n ∧ Sy A ∧ Irr A ∧ q (.d (.bool (A i j))) M
def spcontrary : DSp := fun ls M q => ∃ (n : Nat) (A : Adj), ls = [.d (eW n (lnsA n A))] ∧ 2 ≤ n ∧ n ≤ 12 ∧ q (.d (eW n (lnsA n (cmpA A)))) M
def sprenamed : DSp := fun ls M q => ∃ (n : Nat) (A : Adj) (os : List Nat), ls = [.d (eW n (lnsA n A)), .d (eN os)] ∧ 2 ≤ n ∧ n ≤ 12 ∧ Sy A ∧ Irr A ∧ os.Perm (List.range n) ∧ q (.d (eW n (lnsA n (renA os A)))) M
def spone_more (cs : Cls) : DSpX := fun ls M q e => ∃ (n : Nat) (A : Adj) (t : Bool), ls = [.d (eW n (lnsA n A)), .d (.bool t)] ∧ n ≤ 10 ∧ (n = 10 → e (.ref cs.aTooMany) [("limit", .d (.int 10))] M) ∧ (n ≠ 10 → q (.d (eW (n + 1) (lnsA (n + 1) (addA n t A)))) M)
def bnumbers : DS :=
  (dSeq (dAsg (dV 0) (gTp 2 (gCn (gN 1) (gCn (gN 2) gNl))))
  (dRet (dCB (d1 tupleW) (daCons (dLc (iR1 (daCons (dV 1) daNil)) (gN 3) dYes (dCB (d1 lenW) (daCons (dLc (iSq (dV 2)) (gN 4) (dTst (dOp (dBin (memW false)) (dV 3) (dV 4))) (dV 4) [4]) daNil)) [3]) daNil))))
def bline_between : DS :=
  (dRet (dIf (dTst (dOp (dBin ltW) (dV 0) (dV 1))) (dTup (daCons (dV 0) (daCons (dV 1) daNil))) (dTup (daCons (dV 1) (daCons (dV 0) daNil)))))
def bhas_line : DS :=
  (dRet (dOp (dBin (memW false)) (dCall 2 spline_between (daCons (dV 1) (daCons (dV 2) daNil))) (dOp dIx (dV 0) (dC (.int 1)))))
def bcontrary : DS :=
  (dSeq (dAsg (dV 0) (gTp 2 (gCn (gN 1) (gCn (gN 2) gNl))))
  (dSeq (dSet 3 (dListC (dV 1)))
  (dRet (dTup (daCons (dV 1) (daCons (dCB (d1 tupleW) (daCons (dLc (iSq (dV 3)) (gN 4) (dTst (dOp (dBin (memW true)) (dV 4) (dV 2))) (dV 4) [4]) daNil)) daNil))))))
def brenamed : DS :=
  (dSeq (dSet 2 (dOp dIx (dV 0) (dC (.int 0))))
  (dSeq (dSet 3 (dListC (dV 2)))
  (dRet (dTup (daCons (dV 2) (daCons (dCB (d1 tupleW) (daCons (dLc (iSq (dV 3)) (gTp 2 (gCn (gN 4) (gCn (gN 5) gNl))) (dTst (dCall 3 sphas_line (daCons (dV 0) (daCons (dOp dIx (dV 1) (dV 4)) (daCons (dOp dIx (dV 1) (dV 5)) daNil))))) (dTup (daCons (dV 4) (daCons (dV 5) daNil))) [4, 5]) daNil)) daNil))))))
def bone_more (cs : Cls) (wd : Ev → DXQ) : DS :=
  (dSeq (dAsg (dV 0) (gTp 2 (gCn (gN 2) (gCn (gN 3) gNl))))
  (dSeq (dIfS (dTst (dOp (dBin eqW) (dV 2) (dC (.int 10)))) (dRaise (dMk1 cs.aTooMany "limit" (dC (.int 10))) wd) dNext)
  (dSeq (dIfS (dtNot (dTst (dV 1))) (dRet (dTup (daCons (dOp (dBin addW) (dV 2) (dC (.int 1))) (daCons (dV 3) daNil)))) dNext)
  (dSeq (dSet 4 (dLc (iR1 (daCons (dV 2) daNil)) (gN 5) dYes (dTup (daCons (dV 5) (daCons (dV 2) daNil))) [5]))
  (dRet (dTup (daCons (dOp (dBin addW) (dV 2) (dC (.int 1))) (daCons (dCB (d1 tupleW) (daCons (dCB (d1 sortAW) (daCons (dLst (daStar (dV 3) (daStar (dV 4) daNil))) daNil)) daNil)) daNil))))))))
theorem vnumbers (ls : List L) (M : Ms) (q : DQ) (hl : ls.length = 1) (h : spnumbers ls M q) : bodySp 5 bnumbers ls M q := by
  obtain ⟨n, A, rfl, hn, sy, ir, h⟩ := h
  have hxl := lnsA_le (n := n) (by omega) A
  unfold bnumbers eW
  walk_at "ev"
  unfold dLc iR1 wipeD wipeD
  walk_at "ev"
  refine ⟨by omega, by omega, ?_⟩
  refine lcN_map (f := fun v => match v with | .int p => PyData.int ((degA n A p.toNat : Nat) : Int) | v => v) (fun v hv Q E hQ => ?_) ?_ ?_
  · obtain ⟨p, hp, rfl⟩ := mem_rangeD hv
    have hp' : p < n := by simpa using hp
    walk_at "ev"
    unfold iSq eL
    walk_at "ev"
    refine lcN_filt (c := fun x => match x with | .tuple [.int i, .int j] => decide (i.toNat = p) || decide (j.toNat = p) | _ => false) (f := id) (fun x hxx Q' E' h1 h2 => ?_) ?_ ?_
    · obtain ⟨y, hy, rfl⟩ := List.mem_map.mp hxx
      walk_at "ev"
      rw [Int.zero_add]
      refine memW_inLine ⟨_, rfl, ?_⟩
      split
      · rename_i z
        exact h1 z
      · rename_i z
        exact h2 (Bool.eq_false_iff.mpr z)
    · rw [List.length_nil, List.length_map]
      have : (144 : Nat) ≤ sizeLine := by decide
      omega
    · rw [List.nil_append, List.length_map]
      have e : (((lnsA n A).map eP).filter fun x => match x with | .tuple [.int i, .int j] => decide (i.toNat = p) || decide (j.toNat = p) | _ => false).length = degA n A p := by
        rw [List.filter_map, List.length_map, ← List.countP_eq_length_filter, ← cnt_deg sy ir hp']
        rfl
      rw [e]
      have e2 : ((0 : Int) + (p : Int)).toNat = p := by omega
      simp only [e2] at hQ
      exact hQ
  · rw [rangeD_len]
    simp
    have : (144 : Nat) ≤ sizeLine := by decide
    omega
  · rw [List.nil_append]
    have e : (rangeD 0 n).map (fun v => match v with | .int p => PyData.int ((degA n A p.toNat : Nat) : Int) | v => v) = ((List.range n).map (degA n A)).map fun i => .int (i : Nat) := by
      unfold rangeD
      rw [List.map_map, List.map_map]
      refine List.map_congr_left fun p _ => ?_
      simp
    rw [e]
    exact h
theorem vline_between (ls : List L) (M : Ms) (q : DQ) (hl : ls.length = 2) (h : spline_between ls M q) : bodySp 2 bline_between ls M q := by
  obtain ⟨i, j, rfl, h⟩ := h
  unfold bline_between
  walk_at "ev"
  split
  · rename_i z
    have z : i < j := by simpa using z
    rw [Nat.min_eq_left (by omega), Nat.max_eq_right (by omega)] at h
    exact h
  · rename_i z
    have z : ¬ i < j := by simpa using z
    rw [Nat.min_eq_right (by omega), Nat.max_eq_left (by omega)] at h
    exact h
theorem has_lns {n : Nat} {A : Adj} {i j : Nat} (hi : i < n) (hj : j < n) (sy : Sy A) (ir : Irr A) : decide ((min i j, max i j) ∈ lnsA n A) = A i j := by
  rw [Bool.eq_iff_iff, decide_eq_true_iff, mem_lnsA]
  rcases Nat.lt_trichotomy i j with h | h | h
  · rw [Nat.min_eq_left (by omega), Nat.max_eq_right (by omega)]
    exact ⟨fun h => h.2.2, fun h' => ⟨h, hj, h'⟩⟩
  · subst h
    simp [ir i]
  · rw [Nat.min_eq_right (by omega), Nat.max_eq_left (by omega), sy i j]
    exact ⟨fun h => h.2.2, fun h' => ⟨h, hi, h'⟩⟩
theorem vhas_line (ls : List L) (M : Ms) (q : DQ) (hl : ls.length = 3) (h : sphas_line ls M q) : bodySp 3 bhas_line ls M q := by
  obtain ⟨n, A, i, j, rfl, hi, hj, sy, ir, h⟩ := h
  unfold bhas_line eW
  walk_at "ev"
  refine ⟨i, j, rfl, ?_⟩
  show dBin (memW false) _ _ _ _
  rw [dBin_d]
  refine memW_eP ?_
  rw [Bool.bne_false, has_lns hi hj sy ir]
  exact h
theorem filt_eP {n : Nat} (c : Pr → Bool) : (((pairsN n).map eP).filter fun x => c (unP x)).map id = ((pairsN n).filter c).map eP := by
  rw [List.map_id, List.filter_map]
  rfl
theorem vcontrary (ls : List L) (M : Ms) (q : DQ) (hl : ls.length = 1) (h : spcontrary ls M q) : bodySp 5 bcontrary ls M q := by
  obtain ⟨n, A, rfl, hn2, hn, h⟩ := h
  have hpl := pairsN_le n (by omega)
  unfold bcontrary eW
  walk_at "ev"
  refine ⟨hn2, by omega, ?_⟩
  rw [combD_eq (by omega)]
  unfold dLc iSq wipeD wipeD
  walk_at "ev"
  refine lcN_filt (c := fun x => decide (unP x ∉ lnsA n A)) (f := id) (fun x hx Q E h1 h2 => ?_) ?_ ?_
  · obtain ⟨p, hp, rfl⟩ := List.mem_map.mp hx
    walk_at "ev"
    refine memW_eP ⟨_, rfl, ?_⟩
    rw [unP_eP] at h1 h2
    by_cases z : p ∈ lnsA n A
    · rw [decide_eq_true z]
      exact h2 (by simp [z])
    · rw [decide_eq_false z]
      exact h1 (by simp [z])
  · rw [List.length_nil, List.length_map]
    have : (144 : Nat) ≤ sizeLine := by decide
    omega
  · rw [List.nil_append, filt_eP (fun p => decide (p ∉ lnsA n A)), lns_cmp]
    exact h
theorem atI_map {α : Type} {xs : List α} {f : α → PyData} {i : Nat} {x : α} (h : xs[i]? = some x) : atI (xs.map f) (i : Int) = some (f x) := atI_nat (by rw [List.getElem?_map, h]; rfl)
theorem getD_at {os : List Nat} {i : Nat} (h : i < os.length) : os[i]? = some (os.getD i 0) := by
  rw [List.getD_eq_getElem?_getD, List.getElem?_eq_getElem h]
  rfl
theorem vrenamed (ls : List L) (M : Ms) (q : DQ) (hl : ls.length = 2) (h : sprenamed ls M q) : bodySp 6 brenamed ls M q := by
  obtain ⟨n, A, os, rfl, hn2, hn, sy, ir, hp, h⟩ := h
  have hpl := pairsN_le n (by omega)
  have hol : os.length = n := by rw [hp.length_eq, List.length_range]
  unfold brenamed eW
  walk_at "ev"
  refine ⟨hn2, by omega, ?_⟩
  rw [combD_eq (by omega)]
  unfold dLc iSq wipeD wipeD wipeD
  walk_at "ev"
  refine lcN_filt (c := fun x => renA os A (unP x).1 (unP x).2) (f := id) (fun x hx Q E h1 h2 => ?_) ?_ ?_
  · obtain ⟨p, hp', rfl⟩ := List.mem_map.mp hx
    have hm := mem_pairsN.mp hp'
    rw [unP_eP] at h1 h2
    unfold eP eN
    walk_at "ev"
    refine ⟨_, atI_map (getD_at (by omega)), _, atI_map (getD_at (by omega)), ?_⟩
    simp only [sphas_line]
    refine ⟨n, A, _, _, rfl, perm_lt hp (by omega), perm_lt hp hm.2, sy, ir, _, rfl, ?_⟩
    by_cases z : A (os.getD p.1 0) (os.getD p.2 0) = true
    · rw [z]
      exact iteT (h1 z)
    · have z' : A (os.getD p.1 0) (os.getD p.2 0) = false := by simpa using z
      rw [z']
      exact iteF (h2 z')
  · rw [List.length_nil, List.length_map]
    have : (144 : Nat) ≤ sizeLine := by decide
    omega
  · rw [List.nil_append, filt_eP (fun p => renA os A p.1 p.2)]
    exact h
theorem vone_more (cs : Cls) (ls : List L) (M : Ms) (q : DQ) (e : DXQ) (hl : ls.length = 2) (h : spone_more cs ls M q e) : bodySpX 6 (bone_more cs) ls M q e := by
  obtain ⟨n, A, t, rfl, hn, h1, h2⟩ := h
  have hxl := lnsA_le (n := n) (by omega) A
  unfold bone_more eW bodySpX
  walk_at "ev"
  split
  · rename_i z
    exact h1 (by have : (n : Int) = 10 := by simpa using z
                 omega)
  · rename_i z
    have z : n ≠ 10 := by
      intro e
      subst e
      simp at z
    have h2 := h2 z
    cases t with
    | false =>
      have e0 : lnsA n A = lnsA (n + 1) (addA n false A) := lns_add (ms := lnsA n A) (by simp) (lnsA_sorted n A)
      rw [← e0] at h2
      exact iteT h2
    | true =>
      refine iteF ?_
      unfold dLc iR1 wipeD wipeD
      walk_at "ev"
      refine ⟨by omega, by omega, ?_⟩
      refine lcN_map (f := fun v => .tuple [v, .int n]) (fun v hv Q E hQ => ?_) ?_ ?_
      · walk_at "ev"
        exact hQ
      · rw [rangeD_len, List.length_nil]
        have : (144 : Nat) ≤ sizeLine := by decide
        omega
      · have e1 : (rangeD 0 n).map (fun v => PyData.tuple [v, .int n]) = ((List.range n).map fun a => ((a, n) : Pr)).map eP := by
          unfold rangeD
          rw [List.map_map, List.map_map]
          refine List.map_congr_left fun p _ => ?_
          simp [eP]
        rw [List.nil_append, e1]
        refine ⟨_, .inr rfl, _, .inl rfl, (lnsA n A ++ (List.range n).map fun a => ((a, n) : Pr)).map eP, ?_, ?_, ?_⟩
        · rw [List.map_append, List.map_append]
        · rw [List.length_map, List.length_append, List.length_map, List.length_range]
          omega
        · have hb : ∀ p ∈ lnsA n A ++ (List.range n).map (fun a => ((a, n) : Pr)), p.1 < p.2 ∧ p.2 ≤ n := by
            intro p hp
            rcases List.mem_append.mp hp with hp | hp
            · have := mem_lnsA.mp hp
              omega
            · obtain ⟨a, ha, rfl⟩ := List.mem_map.mp hp
              have := List.mem_range.mp ha
              exact ⟨this, Nat.le_refl _⟩
          have h45 : (lnsA n A).length ≤ 45 := Nat.le_trans (lnsA_sub n A).length_le ((by decide +kernel : ∀ n, n < 11 → (pairsN n).length ≤ 45) n (by omega))
          refine sortAW_eP ?_ (fun p hp => by have := hb p hp; omega) ?_ fun ms hm hs => ?_
          · rw [List.length_append, List.length_map, List.length_range]
            omega
          · rw [List.nodup_append]
            refine ⟨nodup_of_ltPr (lnsA_sorted n A), ?_, ?_⟩
            · show List.Pairwise _ _
              rw [List.pairwise_map]
              exact (List.nodup_range (n := n)).imp fun hab e => hab (by simpa using e)
            · intro p hp r hr e0
              subst e0
              obtain ⟨a, ha, rfl⟩ := List.mem_map.mp hr
              have := (mem_lnsA.mp hp).2.1
              simp at this
          · have e0 := lns_add (t := true) (by rw [if_pos rfl]; exact hm) hs
            rw [e0]
            exact h2
end NS
end
section
/-! more of comprehensions and draws -/
namespace NS
open PySem PySem.Spec PyProof.Rows L2 DL
/-- a comprehension whose items are made while the store changes -/
theorem lcN_all {g : DG} {t : DT} {e : DE} {η : Ev} {k : List PyData → Ms → Prop} (I : Ms → Prop) (P : PyData → Prop) : ∀ {xs acc : List PyData} {M : Ms},
    (∀ x ∈ xs, ∀ M1, I M1 → ∀ (Q : DQ) (E : Ms → Prop), (∀ y M2, P y → I M2 → Q (.d y) M2) → g (.d x) η M1 fun η1 M2 => t η1 M2 fun c M3 => if c = true then e η1 M3 Q else E M3) →
    acc.length + xs.length ≤ sizeLine → I M → (∀ zs M', zs.length = xs.length → (∀ z ∈ zs, P z) → I M' → k (acc ++ zs) M') → dLcN g t e η k xs acc M
  | [], acc, M, _, _, hI, h => by
    have := h [] M rfl (fun z hz => by cases hz) hI
    rw [List.append_nil] at this
    exact this
  | x :: xs, acc, M, hs, hl, hI, h => by
    rw [List.length_cons] at hl
    refine hs x (List.mem_cons_self) M hI (fun l M3 => ∃ y, l = .d y ∧ acc.length < sizeLine ∧ dLcN g t e η k xs (acc ++ [y]) M3) (fun M2 => dLcN g t e η k xs acc M2) (fun y M2 hy h2 => ⟨_, rfl, by omega, ?_⟩)
    refine lcN_all I P (fun z hz => hs z (List.mem_cons_of_mem _ hz)) (by rw [List.length_append, List.length_singleton]; omega) h2 fun zs M' hl' hz hM => ?_
    rw [List.append_assoc]
    refine h _ _ (by simp [hl']) (fun w hw => ?_) hM
    rcases List.mem_cons.mp hw with rfl | hw
    · exact hy
    · exact hz w hw
/-- over range(n) -/
theorem lc_r1 {da : DA} {g : DG} {t : DT} {e : DE} {vs : List Nat} {η : Ev} {M : Ms} {q : DQ} (n : Nat) (hn : n < 1000) (he : ∀ k : List L → Ms → Prop, k [.d (.int (n : Nat))] M → da η M k)
    (h : dLcN g t e (wipeD η vs) (fun ys M2 => q (.d (.list ys)) M2) (rangeD 0 n) [] M) : dLc (iR1 da) g t e vs η M q := by
  unfold dLc iR1
  exact he _ ⟨(n : Nat), rfl, by omega, by omega, by simpa using h⟩
theorem for_r1 {da : DA} {g : DG} {b : DS} {d : DEnds} {η : Ev} {M : Ms} (n : Nat) (hn : n < 1000) (he : ∀ k : List L → Ms → Prop, k [.d (.int (n : Nat))] M → da η M k)
    (h : dLoop g b d (rangeD 0 n) η M) : dFor (iR1 da) g b d η M := by
  unfold dFor iR1
  exact he _ ⟨(n : Nat), rfl, by omega, by omega, by simpa using h⟩
theorem lc_r2 {da : DA} {g : DG} {t : DT} {e : DE} {vs : List Nat} {η : Ev} {M : Ms} {q : DQ} (m n : Nat) (hm : m < 1000) (hn : n < 1000) (he : ∀ k : List L → Ms → Prop, k [.d (.int (m : Nat)), .d (.int (n : Nat))] M → da η M k)
    (h : dLcN g t e (wipeD η vs) (fun ys M2 => q (.d (.list ys)) M2) (rangeD m (n - m)) [] M) : dLc (iR2 da) g t e vs η M q := by
  unfold dLc iR2
  refine he _ ⟨(m : Nat), (n : Nat), rfl, ⟨by omega, by omega, by omega, by omega⟩, ?_⟩
  rw [show ((n : Int) - (m : Int)).toNat = n - m by omega]
  exact h
theorem for_r2 {da : DA} {g : DG} {b : DS} {d : DEnds} {η : Ev} {M : Ms} (m n : Nat) (hm : m < 1000) (hn : n < 1000) (he : ∀ k : List L → Ms → Prop, k [.d (.int (m : Nat)), .d (.int (n : Nat))] M → da η M k)
    (h : dLoop g b d (rangeD m (n - m)) η M) : dFor (iR2 da) g b d η M := by
  unfold dFor iR2
  refine he _ ⟨(m : Nat), (n : Nat), rfl, ⟨by omega, by omega, by omega, by omega⟩, ?_⟩
  rw [show ((n : Int) - (m : Int)).toNat = n - m by omega]
  exact h
theorem ints_of {lo hi : Int} : ∀ {zs : List PyData}, (∀ z ∈ zs, ∃ i : Int, z = .int i ∧ lo ≤ i ∧ i < hi) → ∃ is : List Int, zs = is.map .int ∧ ∀ i ∈ is, lo ≤ i ∧ i < hi
  | [], _ => ⟨[], rfl, fun i h => by cases h⟩
  | z :: zs, h => by
    obtain ⟨i, rfl, h1⟩ := h z List.mem_cons_self
    obtain ⟨is, rfl, h2⟩ := ints_of (zs := zs) fun w hw => h w (List.mem_cons_of_mem _ hw)
    refine ⟨i :: is, rfl, fun j hj => ?_⟩
    rcases List.mem_cons.mp hj with rfl | hj
    · exact h1
    · exact h2 j hj
theorem nats_of {hi : Nat} : ∀ {zs : List PyData}, (∀ z ∈ zs, ∃ i : Nat, z = .int (i : Nat) ∧ i < hi) → ∃ is : List Nat, zs = is.map (fun i => .int (i : Nat)) ∧ ∀ i ∈ is, i < hi
  | [], _ => ⟨[], rfl, fun i h => by cases h⟩
  | z :: zs, h => by
    obtain ⟨i, rfl, h1⟩ := h z List.mem_cons_self
    obtain ⟨is, rfl, h2⟩ := nats_of (zs := zs) fun w hw => h w (List.mem_cons_of_mem _ hw)
    refine ⟨i :: is, rfl, fun j hj => ?_⟩
    rcases List.mem_cons.mp hj with rfl | hj
    · exact h1
    · exact h2 j hj
theorem rep_one {α : Type} (n : Nat) (x : α) : (List.replicate n [x]).flatten = List.replicate n x := by
  induction n with
  | zero => rfl
  | succ n ih =>
    rw [List.replicate_succ, List.replicate_succ, List.flatten_cons, ih]
    rfl
/-- the length of a small tuple's or list's items -/
theorem SmA_len {b : Bool} {k n : Nat} {xs : List PyData} (h : SmA b k n xs) : xs.length ≤ n := by
  refine Nat.le_trans ?_ h.bk
  clear h
  induction xs with
  | nil => exact Nat.zero_le _
  | cons x xs ih =>
    simp only [PyData.bulkAll, List.length_cons]
    omega
theorem SmA_sub {b : Bool} {k n : Nat} {xs ys : List PyData} (h : SmA b k n xs) (hs : ys.Sublist xs) : SmA b k n ys := by
  induction hs generalizing n with
  | slnil => exact h
  | cons x s ih =>
    have hs := h.sh
    have hlf := h.lf
    have hb := h.bk
    have hd := h.dp
    have hnd := h.nd
    have hnl := h.nl
    simp only [PyData.showableAll, Bool.and_eq_true] at hs
    simp only [PyData.leavesShortAll, Bool.and_eq_true] at hlf
    simp only [PyData.bulkAll] at hb
    simp only [PyData.depthAll] at hd
    simp only [PyData.hasDictAll, Bool.or_eq_false_iff] at hnd
    simp only [hasListA, Bool.or_eq_false_iff] at hnl
    exact ih ⟨hs.2, hlf.2, by omega, Nat.le_trans (Nat.le_max_right _ _) hd, fun e => (hnd e).2, fun e => (hnl e).2⟩
  | cons_cons x s ih =>
    have hs := h.sh
    have hlf := h.lf
    have hb := h.bk
    have hd := h.dp
    have hnd := h.nd
    have hnl := h.nl
    simp only [PyData.showableAll, Bool.and_eq_true] at hs
    simp only [PyData.leavesShortAll, Bool.and_eq_true] at hlf
    simp only [PyData.bulkAll] at hb
    simp only [PyData.depthAll] at hd
    simp only [PyData.hasDictAll, Bool.or_eq_false_iff] at hnd
    simp only [hasListA, Bool.or_eq_false_iff] at hnl
    rename_i l1 l2
    have hx : Sm b k x.bulk x := ⟨hs.1, hlf.1, Nat.le_refl _, Nat.le_trans (Nat.le_max_left _ _) hd, fun e => (hnd e).1, fun e => (hnl e).1⟩
    have := ih (n := n - (x.bulk + 1)) ⟨hs.2, hlf.2, by omega, Nat.le_trans (Nat.le_max_right _ _) hd, fun e => (hnd e).2, fun e => (hnl e).2⟩
    exact (SmA_cons hx this).mono (Nat.le_refl _) (by omega)
end NS
end
section
/-! kinds.py -/
namespace NS
open PySem PySem.Spec PyProof.Rows L2 DL WB
local macro_rules | `(tactic| walk_at "ev") => `(tactic| simp only [ite_self, intW_b, tupleW_t, listW_l, revW_l, atI_zero, atI_one, atI_two, true_imp_iff, false_imp_iff, Int.natCast_inj, kw12, kw21, kw123, kw132, kw213, kw231, kw312, kw321, dSM, dListM, dPopAt, dListR1, dListC, daStar, dCallX, dCallKX, dRaise, dMk1, dTryAs, dXf, dIsX, bodySp, startD, dSeq, dRet, dRetN, dDrop, dSet, dIfS, dNext, dTst, dtNot, dtAnd, dtOr, dOp, dV, dC, dNeg, dNot, dAnd, dOr, dIf, dChain, daNil, daCons, dTup, dLst, dCB, dTy, dAsg, dPar, gN, gNl, gCn, gTp, dGet, dPut, dPop, dAppend, dCall, dCallK, kw1, dSl, dNoPart, dPart, dRev, dDicE, dLstM,
  List.map_cons, List.map_nil, List.length_cons, List.length_nil, List.cons_append, List.nil_append, List.append_nil, List.replicate_succ, List.replicate_zero, Nat.reduceAdd, Nat.reduceSub, List.set_cons_zero, List.set_cons_succ,
  List.getElem?_cons_zero, List.getElem?_cons_succ, Option.some.injEq, exists_eq_left', exists_eq_left, dBin_d, d1_d, rd_d, true_and, and_true, L.d.injEq, L.p.injEq, PyData.bool.injEq, PyData.int.injEq, PyData.str.injEq, PyData.tuple.injEq, List.cons.injEq, reduceCtorEq, exd_nil, exd_cons, sizeLine, Nat.reducePow, Nat.reduceLeDiff, Int.reducePow, Int.reduceNeg, Int.toNat_natCast, dYes, ite_true, addW_ii, addW_tt, addW_ll, subW_ii, ltW_ii, leW_ii, geW_ii, eqW_ii, slW_t, slW_l, revW_t, lenW_t, lenW_l, listW_t, tupleW_l, intW_i, dIx_t, dIx_l, and_assoc, exists_and_left])
def isB (v : PyData) (lo hi : Int) : Bool := match v with
  | .int i => decide (lo ≤ i) && decide (i ≤ hi)
  | _ => false
def isPr (v : PyData) : Bool := match v with
  | .tuple [_, _] => true
  | _ => false
def firstNot (p : PyData → Bool) : List PyData → Nat → Option Nat
  | [], _ => none
  | x :: xs, i => if p x then firstNot p xs (i + 1) else some i
def spis_int_between : DSp := fun ls M q => ∃ v lo hi, ls = [.d v, .d (.int lo), .d (.int hi)] ∧ q (.d (.bool (isB v lo hi))) M
def spis_pair : DSp := fun ls M q => ∃ v, ls = [.d v] ∧ q (.d (.bool (isPr v))) M
def bis_int_between : DS :=
  (dRet (dAnd (dCB isiW (daCons (dV 0) (daCons (dTy "int") daNil))) (dAnd (dNot (dCB isiW (daCons (dV 0) (daCons (dTy "bool") daNil)))) (dChain leW leW (dV 1) (dV 0) (dV 2)))))
def bis_pair : DS :=
  (dRet (dAnd (dCB isiW (daCons (dV 0) (daCons (dTy "tuple") daNil))) (dOp (dBin eqW) (dCB (d1 lenW) (daCons (dV 0) daNil)) (dC (.int 2)))))
theorem vis_int_between (ls : List L) (M : Ms) (q : DQ) (hl : ls.length = 3) (h : spis_int_between ls M q) : bodySp 3 bis_int_between ls M q := by
  obtain ⟨v, lo, hi, rfl, h⟩ := h
  unfold bis_int_between
  walk_at "ev"
  simp only [isi_iff, ty_int, ty_bool, Option.some.injEq, exists_eq_left']
  cases v <;> simp_all [isB, leW, tyN]
  split <;> simp_all
theorem vis_pair (ls : List L) (M : Ms) (q : DQ) (hl : ls.length = 1) (h : spis_pair ls M q) : bodySp 1 bis_pair ls M q := by
  obtain ⟨v, rfl, h⟩ := h
  unfold bis_pair
  walk_at "ev"
  simp only [isi_iff, ty_tuple, Option.some.injEq, exists_eq_left']
  cases v with
  | tuple xs =>
    simp only [tyN, lenW, eqW, eqOk, scalD, PyData.eqv, Bool.true_or, true_and]
    simp
    match xs, h with
    | [], h => exact h
    | [a], h => exact h
    | [a, b], h => exact h
    | a :: b :: c :: r, h =>
      have e : (((r.length : Nat) : Int) + 1 + 1 + 1 == 2) = false := by
        rw [beq_eq_false_iff_ne]
        omega
      simpa [isPr, e] using h
  | _ => simpa [tyN, isPr] using h
theorem firstNot_none {p : PyData → Bool} : ∀ {xs : List PyData} {i : Nat}, firstNot p xs i = none → ∀ x ∈ xs, p x = true
  | [], _, _ => fun x hx => by cases hx
  | y :: ys, i, h => by
    unfold firstNot at h
    intro x hx
    cases hp : p y with
    | false => rw [hp] at h; cases h
    | true =>
      rw [hp] at h
      rcases List.mem_cons.mp hx with rfl | hx
      · exact hp
      · exact firstNot_none h x hx
theorem firstNot_f {p : PyData → Bool} {x : PyData} {xs : List PyData} {i : Nat} (h : p x = false) : firstNot p (x :: xs) i = some i := by
  unfold firstNot
  rw [h]
  rfl
theorem firstNot_t {p : PyData → Bool} {x : PyData} {xs : List PyData} {i : Nat} (h : p x = true) : firstNot p (x :: xs) i = firstNot p xs (i + 1) := by
  conv => lhs; unfold firstNot
  rw [h]
  rfl
theorem firstNot_lt {p : PyData → Bool} : ∀ {xs : List PyData} {i j : Nat}, firstNot p xs i = some j → j < i + xs.length
  | [], i, j, h => by cases h
  | x :: xs, i, j, h => by
    rw [List.length_cons]
    cases hp : p x with
    | false =>
      rw [firstNot_f hp] at h
      cases h
      omega
    | true =>
      rw [firstNot_t hp] at h
      have := firstNot_lt h
      omega
end NS
end
section
/-! more that a walk knows -/
namespace NS
open PySem PySem.Spec PyProof.Rows L2 DL WB
section
variable {v x y : PyData} {M : Ms} {q : DQ} {Q : PyData → Prop} {i j : Int} {s t : Str}
theorem isi_tup : isiW [.d v, .c (.ty "tuple")] M q = q (.d (.bool (tyN v == "tuple"))) M := by rw [propext isi_iff, ty_tuple]; simp
theorem isi_int : isiW [.d v, .c (.ty "int")] M q = q (.d (.bool (tyN v == "int" || tyN v == "bool"))) M := by rw [propext isi_iff, ty_int]; simp
theorem isi_bool : isiW [.d v, .c (.ty "bool")] M q = q (.d (.bool (tyN v == "bool"))) M := by rw [propext isi_iff, ty_bool]; simp
theorem isi_str : isiW [.d v, .c (.ty "str")] M q = q (.d (.bool (tyN v == "str"))) M := by rw [propext isi_iff, ty_str]; simp
theorem isi_lst : isiW [.d v, .c (.ty "list")] M q = q (.d (.bool (tyN v == "list"))) M := by rw [propext isi_iff, ty_list]; simp
theorem isi_dic : isiW [.d v, .c (.ty "dict")] M q = q (.d (.bool (tyN v == "dict"))) M := by rw [propext isi_iff, ty_dict]; simp
def strIs (s : Str) : PyData → Bool
  | .str t => decide (t = s)
  | _ => false
theorem eqv_str : PyData.eqv x (.str s) = strIs s x := by
  cases x <;> rfl
theorem eqv_str' : PyData.eqv (.str s) x = strIs s x := by
  cases x <;> try rfl
  simp only [PyData.eqv, strIs]
  rw [Bool.eq_iff_iff, beq_iff_eq, decide_eq_true_iff]
  exact eq_comm
theorem eqG_sh (h : SeqAt.shaped y = true) : eqG x y Q = Q (.bool (x.eqv y)) := by
  unfold eqG eqGok
  rw [h, Bool.or_true]
  simp
theorem eqG_shl (h : SeqAt.shaped x = true) : eqG x y Q = Q (.bool (x.eqv y)) := by
  unfold eqG eqGok
  rw [h, Bool.or_true, Bool.true_or]
  simp
theorem eqG_s (h : SeqAt.shaped (.str s) = true) : eqG x (.str s) Q = Q (.bool (strIs s x)) := by rw [eqG_sh h, eqv_str]
theorem eqG_ii : eqG (.int i) (.int j) Q = Q (.bool (i == j)) := by
  unfold eqG eqGok
  simp [scalD, PyData.eqv]
theorem eqG_bb {b c : Bool} : eqG (.bool b) (.bool c) Q = Q (.bool (b == c)) := by
  unfold eqG eqGok
  simp [scalD, PyData.eqv]
theorem eqG_ss : eqG (.str s) (.str t) Q = Q (.bool (decide (s = t))) := by
  unfold eqG eqGok
  rw [eqv_str]
  simp [scalD, strIs]
theorem neW_i : neW (.int i) (.int j) Q = Q (.bool (!(i == j))) := by
  unfold neW eqOk
  simp [scalD, PyData.eqv]
theorem neW_s : neW (.str s) (.str t) Q = Q (.bool (!decide (s = t))) := by
  unfold neW eqOk
  rw [eqv_str]
  simp [scalD, strIs]
theorem modW_ii : modW (.int i) (.int j) Q = (0 < j ∧ Q (.int (i % j))) := rfl
theorem fdivW_ii : fdivW (.int i) (.int j) Q = (CDiv i j ∧ Q (.int (i / j))) := rfl
theorem mulW_ii : mulW (.int i) (.int j) Q = (CMul i j ∧ Q (.int (i * j))) := rfl
theorem gtW_ii : gtW (.int i) (.int j) Q = Q (.bool (decide (j < i))) := rfl
theorem reprG_eq : reprG x Q = (okR x ∧ Q (.str x.shown)) := rfl
theorem isN_non : isNW true .none .none Q = Q (.bool false) := rfl
theorem isN_str : isNW true (.str s) .none Q = Q (.bool true) := rfl
theorem isN_tup {xs : List PyData} : isNW true (.tuple xs) .none Q = Q (.bool true) := rfl
theorem isn_non : isNW false .none .none Q = Q (.bool true) := rfl
theorem isn_str : isNW false (.str s) .none Q = Q (.bool false) := rfl
theorem isn_tup {xs : List PyData} : isNW false (.tuple xs) .none Q = Q (.bool false) := rfl
theorem min2W_ii : min2W [.d (.int i), .d (.int j)] M q = q (.d (.int (min i j))) M := by
  have : (if j < i then j else i) = min i j := by split <;> omega
  unfold min2W
  refine propext ⟨?_, fun h => ⟨_, _, rfl, by rw [this]; exact h⟩⟩
  rintro ⟨a, b, e, h⟩
  cases e
  rw [this] at h
  exact h
theorem max2W_ii : max2W [.d (.int i), .d (.int j)] M q = q (.d (.int (max i j))) M := by
  have : (if j > i then j else i) = max i j := by split <;> omega
  unfold max2W
  refine propext ⟨?_, fun h => ⟨_, _, rfl, by rw [this]; exact h⟩⟩
  rintro ⟨a, b, e, h⟩
  cases e
  rw [this] at h
  exact h
theorem best_two {mx : Bool} : bestW mx (.tuple [.int i, .int j]) Q = Q (.int (if mx then max i j else min i j)) := by
  unfold bestW
  refine propext ⟨?_, fun h => ⟨i, [j], rfl, by cases mx <;> exact h⟩⟩
  rintro ⟨n, ns, e, h⟩
  have e : some [i, j] = some (n :: ns) := e
  cases e
  cases mx <;> exact h
theorem all_two {b c : Bool} : allW (.list [.bool b, .bool c]) Q = Q (.bool (b && c)) := by
  unfold allW
  refine propext ⟨?_, fun h => ⟨[b, c], rfl, by simpa using h⟩⟩
  rintro ⟨bs, e, h⟩
  match bs, e with
  | [b', c'], e =>
    simp at e
    obtain ⟨rfl, rfl⟩ := e
    simpa using h
end
theorem ty_tu_non : (tyN PyData.none == "tuple") = false := rfl
theorem ty_tu_bl {b : Bool} : (tyN (PyData.bool b) == "tuple") = false := rfl
theorem ty_tu_in {i : Int} : (tyN (PyData.int i) == "tuple") = false := rfl
theorem ty_tu_st {s : Str} : (tyN (PyData.str s) == "tuple") = false := rfl
theorem ty_tu_ls {xs : List PyData} : (tyN (PyData.list xs) == "tuple") = false := rfl
theorem ty_tu_tu {xs : List PyData} : (tyN (PyData.tuple xs) == "tuple") = true := rfl
theorem ty_tu_di {xs : List (PyData × PyData)} : (tyN (PyData.dict xs) == "tuple") = false := rfl
theorem ty_in_non : (tyN PyData.none == "int") = false := rfl
theorem ty_in_bl {b : Bool} : (tyN (PyData.bool b) == "int") = false := rfl
theorem ty_in_in {i : Int} : (tyN (PyData.int i) == "int") = true := rfl
theorem ty_in_st {s : Str} : (tyN (PyData.str s) == "int") = false := rfl
theorem ty_in_ls {xs : List PyData} : (tyN (PyData.list xs) == "int") = false := rfl
theorem ty_in_tu {xs : List PyData} : (tyN (PyData.tuple xs) == "int") = false := rfl
theorem ty_in_di {xs : List (PyData × PyData)} : (tyN (PyData.dict xs) == "int") = false := rfl
theorem ty_bo_non : (tyN PyData.none == "bool") = false := rfl
theorem ty_bo_bl {b : Bool} : (tyN (PyData.bool b) == "bool") = true := rfl
theorem ty_bo_in {i : Int} : (tyN (PyData.int i) == "bool") = false := rfl
theorem ty_bo_st {s : Str} : (tyN (PyData.str s) == "bool") = false := rfl
theorem ty_bo_ls {xs : List PyData} : (tyN (PyData.list xs) == "bool") = false := rfl
theorem ty_bo_tu {xs : List PyData} : (tyN (PyData.tuple xs) == "bool") = false := rfl
theorem ty_bo_di {xs : List (PyData × PyData)} : (tyN (PyData.dict xs) == "bool") = false := rfl
theorem ty_st_non : (tyN PyData.none == "str") = false := rfl
theorem ty_st_bl {b : Bool} : (tyN (PyData.bool b) == "str") = false := rfl
theorem ty_st_in {i : Int} : (tyN (PyData.int i) == "str") = false := rfl
theorem ty_st_st {s : Str} : (tyN (PyData.str s) == "str") = true := rfl
theorem ty_st_ls {xs : List PyData} : (tyN (PyData.list xs) == "str") = false := rfl
theorem ty_st_tu {xs : List PyData} : (tyN (PyData.tuple xs) == "str") = false := rfl
theorem ty_st_di {xs : List (PyData × PyData)} : (tyN (PyData.dict xs) == "str") = false := rfl
theorem ty_li_non : (tyN PyData.none == "list") = false := rfl
theorem ty_li_bl {b : Bool} : (tyN (PyData.bool b) == "list") = false := rfl
theorem ty_li_in {i : Int} : (tyN (PyData.int i) == "list") = false := rfl
theorem ty_li_st {s : Str} : (tyN (PyData.str s) == "list") = false := rfl
theorem ty_li_ls {xs : List PyData} : (tyN (PyData.list xs) == "list") = true := rfl
theorem ty_li_tu {xs : List PyData} : (tyN (PyData.tuple xs) == "list") = false := rfl
theorem ty_li_di {xs : List (PyData × PyData)} : (tyN (PyData.dict xs) == "list") = false := rfl
theorem ty_di_non : (tyN PyData.none == "dict") = false := rfl
theorem ty_di_bl {b : Bool} : (tyN (PyData.bool b) == "dict") = false := rfl
theorem ty_di_in {i : Int} : (tyN (PyData.int i) == "dict") = false := rfl
theorem ty_di_st {s : Str} : (tyN (PyData.str s) == "dict") = false := rfl
theorem ty_di_ls {xs : List PyData} : (tyN (PyData.list xs) == "dict") = false := rfl
theorem ty_di_tu {xs : List PyData} : (tyN (PyData.tuple xs) == "dict") = false := rfl
theorem ty_di_di {xs : List (PyData × PyData)} : (tyN (PyData.dict xs) == "dict") = true := rfl
/-- what stood there stays -/
def Grow (M M' : Ms) : Prop := ∀ b, M b ≠ none → M' b = M b
theorem Grow.refl (M : Ms) : Grow M M := fun _ _ => rfl
theorem Grow.trans {M M1 M2 : Ms} (h : Grow M M1) (k : Grow M1 M2) : Grow M M2 := fun b hb => (k b (by rw [h b hb]; exact hb)).trans (h b hb)
theorem Grow.keep {a l : Addr} {M M' : Ms} (h : Grow M M') : Keep a l M M' := fun b _ _ hb => h b hb
theorem Grow.new {M : Ms} {p : Addr} {o : MO} (h : M p = none) : Grow M (updM M p o) := fun b hb => updM_ne fun e => by subst e; exact hb h
theorem Grow.put {M M' : Ms} {p : Addr} {o : MO} (h : M p = none) (g : Grow M M') : Grow M (updM M' p o) := fun b hb => (updM_ne fun e => by subst e; exact hb h).trans (g b hb)
theorem Grow.get {M M' : Ms} {p : Addr} {o : MO} (h : Grow M M') (e : M p = some o) : M' p = some o := (h p (by rw [e]; simp)).trans e
/-- small data, of any kind -/
structure Sz (k n : Nat) (x : PyData) : Prop where
  sh : x.showable = true
  lf : x.leavesShort 200 = true
  bk : x.bulk ≤ n
  dp : x.depth ≤ k
structure SzA (k n : Nat) (xs : List PyData) : Prop where
  sh : PyData.showableAll xs = true
  lf : PyData.leavesShortAll 200 xs = true
  bk : PyData.bulkAll xs ≤ n
  dp : PyData.depthAll xs ≤ k
theorem Sz.of {b : Bool} {k n : Nat} {x : PyData} (h : Sm b k n x) : Sz k n x := ⟨h.sh, h.lf, h.bk, h.dp⟩
theorem Sz.mono {k n k' n' : Nat} {x : PyData} (h : Sz k n x) (h1 : k ≤ k' := by decide) (h2 : n ≤ n' := by decide) : Sz k' n' x := ⟨h.sh, h.lf, Nat.le_trans h.bk h2, Nat.le_trans h.dp h1⟩
theorem SzA.mono {k n k' n' : Nat} {x : List PyData} (h : SzA k n x) (h1 : k ≤ k' := by decide) (h2 : n ≤ n' := by decide) : SzA k' n' x := ⟨h.sh, h.lf, Nat.le_trans h.bk h2, Nat.le_trans h.dp h1⟩
def szB (k n : Nat) (x : PyData) : Bool := x.showable && x.leavesShort 200 && decide (x.bulk ≤ n) && decide (x.depth ≤ k)
theorem Sz.b {k n : Nat} {x : PyData} (h : szB k n x = true) : Sz k n x := by
  unfold szB at h
  simp only [Bool.and_eq_true, decide_eq_true_eq] at h
  exact ⟨h.1.1.1, h.1.1.2, h.1.2, h.2⟩
theorem SzA.nil {k : Nat} : SzA k 0 [] := ⟨rfl, rfl, Nat.le_refl _, Nat.zero_le _⟩
theorem SzA.cons {k n m : Nat} {x : PyData} {xs : List PyData} (h : Sz k n x) (t : SzA k m xs) : SzA k (n + 1 + m) (x :: xs) := by
  refine ⟨?_, ?_, ?_, ?_⟩
  · simp only [PyData.showableAll, h.sh, t.sh, Bool.and_self]
  · simp only [PyData.leavesShortAll, h.lf, t.lf, Bool.and_self]
  · have h1 := h.bk
    have h2 := t.bk
    simp only [PyData.bulkAll]
    omega
  · exact Nat.max_le.mpr ⟨h.dp, t.dp⟩
theorem SzA.all {k n : Nat} : ∀ {xs : List PyData}, (∀ x ∈ xs, Sz k n x) → SzA k (xs.length * (n + 1)) xs
  | [], _ => SzA.nil.mono (Nat.le_refl _) (Nat.zero_le _)
  | x :: xs, h => ((SzA.cons (h x List.mem_cons_self) (SzA.all fun y hy => h y (List.mem_cons_of_mem _ hy)))).mono (Nat.le_refl _) (by rw [List.length_cons, Nat.succ_mul]; omega)
theorem Sz.tupA {k n : Nat} {xs : List PyData} (h : SzA k n xs) : Sz (k + 1) n (.tuple xs) := by
  refine ⟨?_, ?_, ?_, ?_⟩
  · simp only [PyData.showable, h.sh]
  · simp only [PyData.leavesShort, h.lf]
  · simp only [PyData.bulk]
    exact h.bk
  · simp only [PyData.depth]
    exact Nat.succ_le_succ h.dp
theorem Sz.lstA {k n : Nat} {xs : List PyData} (h : SzA k n xs) : Sz (k + 1) n (.list xs) := by
  refine ⟨?_, ?_, ?_, ?_⟩
  · simp only [PyData.showable, h.sh]
  · simp only [PyData.leavesShort, h.lf]
  · simp only [PyData.bulk]
    exact h.bk
  · simp only [PyData.depth]
    exact Nat.succ_le_succ h.dp
theorem Sz.tup {k n m : Nat} {xs : List PyData} (h : ∀ x ∈ xs, Sz k n x) (hm : xs.length * (n + 1) ≤ m) : Sz (k + 1) m (.tuple xs) := .tupA ((SzA.all h).mono (Nat.le_refl _) hm)
theorem Sz.lst {k n m : Nat} {xs : List PyData} (h : ∀ x ∈ xs, Sz k n x) (hm : xs.length * (n + 1) ≤ m) : Sz (k + 1) m (.list xs) := .lstA ((SzA.all h).mono (Nat.le_refl _) hm)
theorem Sz.ok {k n : Nat} {x : PyData} (h : Sz k n x) (hk : k ≤ 60 := by decide) (hn : n ≤ 60000 := by decide) : okR x := by
  refine ⟨h.sh, ?_, Nat.le_trans h.dp hk⟩
  have := PyData.shown_le_bulk 200 (by decide) x h.lf
  have h2 := h.bk
  have h3 : (200 + 2) * x.bulk ≤ 202 * 60000 := Nat.mul_le_mul (Nat.le_refl _) (Nat.le_trans h2 hn)
  have h4 : 202 * 60000 + 200 ≤ sizeLine := by decide
  omega
theorem Sz.int {k : Nat} {i : Int} (h : -1000000 ≤ i ∧ i ≤ 1000000) : Sz k 0 (.int i) := .of (b := true) (Sm_int (by omega))
theorem Sz.nat {k i : Nat} (h : i ≤ 1000000) : Sz k 0 (.int i) := .int (by omega)
theorem Sz.bl {k : Nat} {b : Bool} : Sz k 0 (.bool b) := .of (b := true) Sm_bool
theorem Sz.non {k : Nat} : Sz k 0 .none := .of (b := true) Sm_none
theorem Sz.two {k n m : Nat} {x y : PyData} (h1 : Sz k n x) (h2 : Sz k m y) : Sz (k + 1) (n + m + 2) (.list [x, y]) := (Sz.lstA (.cons h1 (.cons h2 .nil))).mono (Nat.le_refl _) (by omega)
theorem Sz.twoT {k n m : Nat} {x y : PyData} (h1 : Sz k n x) (h2 : Sz k m y) : Sz (k + 1) (n + m + 2) (.tuple [x, y]) := (Sz.tupA (.cons h1 (.cons h2 .nil))).mono (Nat.le_refl _) (by omega)
theorem Sz.tri {k n m o : Nat} {x y z : PyData} (h1 : Sz k n x) (h2 : Sz k m y) (h3 : Sz k o z) : Sz (k + 1) (n + m + o + 3) (.list [x, y, z]) := (Sz.lstA (.cons h1 (.cons h2 (.cons h3 .nil)))).mono (Nat.le_refl _) (by omega)
/-- two like data, one repr -/
theorem reprG_same {x y : PyData} {Q : PyData → Prop} (h : okR x) (e : x = y) (k : Q (.bool false)) : reprG x fun a => reprG y fun b => neW a b Q := by
  subst e
  exact ⟨h, h, ne_str k⟩
theorem lc_T {de : DE} {g : DG} {t : DT} {e : DE} {vs : List Nat} {η : Ev} {M : Ms} {q : DQ} (xs : List PyData) (he : ∀ k : L → Ms → Prop, k (.d (.tuple xs)) M → de η M k) (h : dLcN g t e (wipeD η vs) (fun ys M2 => q (.d (.list ys)) M2) xs [] M) : dLc (iSq de) g t e vs η M q := he _ h
theorem lc_L {de : DE} {g : DG} {t : DT} {e : DE} {vs : List Nat} {η : Ev} {M : Ms} {q : DQ} (xs : List PyData) (he : ∀ k : L → Ms → Prop, k (.d (.list xs)) M → de η M k) (h : dLcN g t e (wipeD η vs) (fun ys M2 => q (.d (.list ys)) M2) xs [] M) : dLc (iSq de) g t e vs η M q := he _ h
theorem for_T {de : DE} {g : DG} {b : DS} {d : DEnds} {η : Ev} {M : Ms} (xs : List PyData) (he : ∀ k : L → Ms → Prop, k (.d (.tuple xs)) M → de η M k) (h : dLoop g b d xs η M) : dFor (iSq de) g b d η M := he _ h
theorem for_L {de : DE} {g : DG} {b : DS} {d : DEnds} {η : Ev} {M : Ms} (xs : List PyData) (he : ∀ k : L → Ms → Prop, k (.d (.list xs)) M → de η M k) (h : dLoop g b d xs η M) : dFor (iSq de) g b d η M := he _ h
theorem lc_en {de : DE} {g : DG} {t : DT} {e : DE} {vs : List Nat} {η : Ev} {M : Ms} {q : DQ} (xs : List PyData) (he : ∀ k : L → Ms → Prop, k (.d (.list xs)) M → de η M k) (h : dLcN g t e (wipeD η vs) (fun ys M2 => q (.d (.list ys)) M2) (enumD xs) [] M) : dLc (iEn (daCons de daNil)) g t e vs η M q := he _ h
theorem lc_enT {de : DE} {g : DG} {t : DT} {e : DE} {vs : List Nat} {η : Ev} {M : Ms} {q : DQ} (xs : List PyData) (he : ∀ k : L → Ms → Prop, k (.d (.tuple xs)) M → de η M k) (h : dLcN g t e (wipeD η vs) (fun ys M2 => q (.d (.list ys)) M2) (enumD xs) [] M) : dLc (iEn (daCons de daNil)) g t e vs η M q := he _ h
theorem for_en {de : DE} {g : DG} {b : DS} {d : DEnds} {η : Ev} {M : Ms} (xs : List PyData) (he : ∀ k : L → Ms → Prop, k (.d (.list xs)) M → de η M k) (h : dLoop g b d (enumD xs) η M) : dFor (iEn (daCons de daNil)) g b d η M := he _ h
theorem for_enT {de : DE} {g : DG} {b : DS} {d : DEnds} {η : Ev} {M : Ms} (xs : List PyData) (he : ∀ k : L → Ms → Prop, k (.d (.tuple xs)) M → de η M k) (h : dLoop g b d (enumD xs) η M) : dFor (iEn (daCons de daNil)) g b d η M := he _ h
theorem enumD_le (xs : List PyData) : (enumD xs).length = xs.length := by
  unfold enumD
  rw [List.length_map, List.length_zipIdx]
def sndD : PyData → PyData
  | .tuple [_, y] => y
  | _ => .none
theorem enum_snd (ds : List PyData) : (enumD ds).map sndD = ds := by
  unfold enumD
  rw [List.map_map]
  have : (sndD ∘ fun p : PyData × Nat => PyData.tuple [.int (p.2 : Nat), p.1]) = Prod.fst := by funext p; rfl
  rw [this, List.zipIdx_map_fst]
theorem enum_sub (ds : List PyData) (c : PyData → Bool) : (((enumD ds).filter c).map sndD).Sublist ds := by
  have := (List.filter_sublist (l := enumD ds) (p := c)).map sndD
  rwa [enum_snd] at this
theorem lcN_filt0 {g : DG} {t : DT} {e : DE} {η : Ev} {k : List PyData → Ms → Prop} {M : Ms} (c : PyData → Bool) (f : PyData → PyData) {xs : List PyData}
    (hs : ∀ x ∈ xs, ∀ (Q : DQ) (E : Ms → Prop), (c x = true → Q (.d (f x)) M) → (c x = false → E M) → g (.d x) η M fun η1 M1 => t η1 M1 fun b M2 => if b = true then e η1 M2 Q else E M2)
    (hz : xs.length ≤ 100000) (h : ∀ zs, zs = (xs.filter c).map f → k zs M) : dLcN g t e η k xs [] M :=
  lcN_filt (c := c) (f := f) hs (Nat.le_trans (by simpa using hz) (by decide)) (by rw [List.nil_append]; exact h _ rfl)
theorem lcN_map0 {g : DG} {t : DT} {e : DE} {η : Ev} {k : List PyData → Ms → Prop} {M : Ms} (f : PyData → PyData) {xs : List PyData}
    (hs : ∀ x ∈ xs, ∀ (Q : DQ) (E : Ms → Prop), Q (.d (f x)) M → g (.d x) η M fun η1 M1 => t η1 M1 fun b M2 => if b = true then e η1 M2 Q else E M2)
    (hz : xs.length ≤ 100000) (h : ∀ zs, zs = xs.map f → k zs M) : dLcN g t e η k xs [] M :=
  lcN_map (f := f) hs (Nat.le_trans (by simpa using hz) (by decide)) (by rw [List.nil_append]; exact h _ rfl)
theorem lcN_mapI {g : DG} {t : DT} {e : DE} {η : Ev} {k : List PyData → Ms → Prop} (I : Ms → Prop) (f : PyData → PyData) : ∀ {xs acc : List PyData} {M : Ms},
    (∀ x ∈ xs, ∀ M1, I M1 → ∀ (Q : DQ) (E : Ms → Prop), (∀ M2, I M2 → Q (.d (f x)) M2) → g (.d x) η M1 fun η1 M2 => t η1 M2 fun c M3 => if c = true then e η1 M3 Q else E M3) →
    acc.length + xs.length ≤ sizeLine → I M → (∀ zs M', zs = acc ++ xs.map f → I M' → k zs M') → dLcN g t e η k xs acc M
  | [], acc, M, _, _, hI, h => h _ M (by simp) hI
  | x :: xs, acc, M, hs, hl, hI, h => by
    rw [List.length_cons] at hl
    refine hs x (List.mem_cons_self) M hI (fun l M3 => ∃ y, l = .d y ∧ acc.length < sizeLine ∧ dLcN g t e η k xs (acc ++ [y]) M3) (fun M2 => dLcN g t e η k xs acc M2) fun M2 h2 => ⟨_, rfl, by omega, ?_⟩
    refine lcN_mapI I f (fun z hz => hs z (List.mem_cons_of_mem _ hz)) (by rw [List.length_append, List.length_singleton]; omega) h2 fun zs M' hz hM => ?_
    exact h zs M' (by rw [hz]; simp) hM
theorem lcN_nil {g : DG} {t : DT} {e : DE} {η : Ev} {k : List PyData → Ms → Prop} {acc : List PyData} {M : Ms} : dLcN g t e η k [] acc M = k acc M := rfl
theorem lcN_cons {g : DG} {t : DT} {e : DE} {η : Ev} {k : List PyData → Ms → Prop} {x : PyData} {xs acc : List PyData} {M : Ms} : dLcN g t e η k (x :: xs) acc M = (g (.d x) η M fun η1 M1 => t η1 M1 fun c M2 => if c = true then e η1 M2 fun l M3 => ∃ y, l = .d y ∧ acc.length < sizeLine ∧ dLcN g t e η k xs (acc ++ [y]) M3 else dLcN g t e η k xs acc M2) := rfl
theorem sl0 : (0 < sizeLine) = True := eq_true (by decide)
theorem sl1 : (1 < sizeLine) = True := eq_true (by decide)
theorem sl2 : (2 < sizeLine) = True := eq_true (by decide)
theorem sl3 : (3 < sizeLine) = True := eq_true (by decide)
theorem sl4 : (4 < sizeLine) = True := eq_true (by decide)
theorem sl5 : (5 < sizeLine) = True := eq_true (by decide)
theorem iteT2 {c : Bool} {P Q : Prop} (hc : c = true) (h : P) : if c = true then P else Q := by rw [hc]; exact h
theorem iteF2 {c : Bool} {P Q : Prop} (hc : c = false) (h : Q) : if c = true then P else Q := by rw [hc]; exact h
theorem cut1 {α : Type} {x : α} {xs : List α} : DL.cutD (x :: xs) (some 1) none = xs := cutD_from (x :: xs) 1
theorem cut2 {α : Type} {x y : α} {xs : List α} : DL.cutD (x :: y :: xs) (some 2) none = xs := cutD_from (x :: y :: xs) 2
theorem isXo {a : Addr} {ki : Value → Bool → Prop} {w : V} {cv : Value} {b : Bool} {M : Ms} {q : DQ} (h1 : clsV w = some cv) (h2 : ki cv b) (h : q (.d (.bool b)) M) : isXW a ki [.c (.ref a), .c w] M q := ⟨w, cv, b, rfl, h1, h2, h⟩
theorem len_lt {α : Type} {xs : List α} (h : xs.length ≤ 100 := by simp) : xs.length < sizeLine := sz _ (by omega)
end NS
end
section
/-! texts of numbers and lines; dicts made from lists -/
namespace NS
open PySem PySem.Spec PyProof.Rows L2 DL WB
/-! ### dicts -/
theorem putL_new {acc : List (L2.Key × L)} {k : L2.Key} {v : L} (h : k ∉ acc.map (·.1)) : putL acc k v = acc ++ [(k, v)] := by
  unfold putL
  rw [if_neg]
  intro hc
  obtain ⟨kv, hk, e⟩ := List.any_eq_true.mp hc
  exact h (List.mem_map.mpr ⟨kv, hk, of_decide_eq_true e⟩)
theorem dcN_map {g : DG} {t : DT} {dk dv : DE} {η : Ev} {k : List (L2.Key × L) → Ms → Prop} {M : Ms} (fk : PyData → L2.Key) (fv : PyData → L) : ∀ {xs : List PyData} {acc : List (L2.Key × L)},
    (∀ x ∈ xs, ∀ (Q : L → L → Ms → Prop) (E : Ms → Prop), Q (.d (kD (fk x))) (fv x) M → g (.d x) η M fun η1 M1 => t η1 M1 fun c M2 => if c = true then dk η1 M2 fun y M3 => dv η1 M3 fun z M4 => Q y z M4 else E M2) →
    (acc.map (·.1) ++ xs.map fk).Nodup → acc.length + xs.length ≤ 100000 → k (acc ++ xs.map fun x => (fk x, fv x)) M → dDcN g t dk dv η k xs acc M
  | [], acc, hs, hd, hl, h => by
    rw [List.map_nil, List.append_nil] at h
    exact h
  | x :: xs, acc, hs, hd, hl, h => by
    rw [List.length_cons] at hl
    have hz : acc.length < sizeLine := Nat.lt_of_le_of_lt (by omega : acc.length ≤ 100000) (by decide)
    refine hs x List.mem_cons_self (fun y z M4 => ∃ k', y = .d (kD k') ∧ acc.length < sizeLine ∧ dDcN g t dk dv η k xs (putL acc k' z) M4) _ ⟨_, rfl, hz, ?_⟩
    have hn : fk x ∉ acc.map (·.1) := by
      intro hm
      rw [List.map_cons] at hd
      exact (List.nodup_append.mp hd).2.2 _ hm _ List.mem_cons_self rfl
    rw [putL_new hn]
    refine dcN_map fk fv (fun z hz => hs z (List.mem_cons_of_mem _ hz)) ?_ (by rw [List.length_append, List.length_singleton]; omega) ?_
    · rw [List.map_append, List.append_assoc]
      exact hd
    · rw [List.append_assoc]
      exact h
theorem valL_map {α : Type} (fk : α → L2.Key) (fv : α → L) (xs : List α) (k : L2.Key) : valL (xs.map fun x => (fk x, fv x)) k = (xs.find? fun x => decide (fk x = k)).map fv := by
  unfold valL
  rw [List.find?_map]
  show ((xs.find? fun x => decide (fk x = k)).map fun x => (fk x, fv x)).map (·.2) = _
  rw [Option.map_map]
  rfl
theorem find_inj {α β : Type} [DecidableEq β] {f : α → β} (hf : ∀ x y, f x = f y → x = y) : ∀ {xs : List α} {y : α}, y ∈ xs → xs.find? (fun x => decide (f x = f y)) = some y
  | x :: xs, y, h => by
    rw [List.find?_cons]
    by_cases e : f x = f y
    · rw [decide_eq_true e]
      exact congrArg some (hf _ _ e)
    · rw [decide_eq_false e]
      rcases List.mem_cons.mp h with rfl | h
      · exact absurd rfl e
      · exact find_inj hf h
/-! ### texts -/
/-- the text of a number -/
def nT (n : Nat) : Str := Str.ofString (toString ((n : Nat) : Int))
theorem tl_nT (n : Nat) : TL.tl (nT n) = TL.numL n := TL.tl_num n
theorem nT_inj {m n : Nat} (h : nT m = nT n) : m = n := TL.numL_inj (by rw [← tl_nT, ← tl_nT, h])
/-- the text of a line -/
def lT (p : Pr) : Str := nT p.1 ++ "-" ++ nT p.2
theorem tl_lT (p : Pr) : TL.tl (lT p) = TL.numL p.1 ++ 45 :: TL.numL p.2 := by
  unfold lT
  rw [TL.tl_append, TL.tl_append, tl_nT, tl_nT, List.append_assoc]
  rfl
theorem lT_inj (p q : Pr) (h : lT p = lT q) : p = q := by
  have e := congrArg TL.tl h
  rw [tl_lT, tl_lT] at e
  have e2 := congrArg (TL.par [45] []) e
  have f : ∀ a b : Nat, TL.par [45] [] (TL.numL a ++ 45 :: TL.numL b) = some (TL.numL a, TL.numL b) := fun a b => by
    have := TL.par_part1 (s := 45) (S := []) (p := TL.numL a) (rest := TL.numL b) (acc := []) (TL.numL_free (by decide))
    simpa using this
  rw [f, f] at e2
  simp only [Option.some.injEq, Prod.mk.injEq] at e2
  exact Prod.ext (TL.numL_inj e2.1) (TL.numL_inj e2.2)
theorem lT_free {p : Pr} {s : Nat} (h : s < 45 ∨ 57 < s) : s ∉ TL.tl (lT p) := by
  rw [tl_lT]
  intro hm
  rcases List.mem_append.mp hm with hm | hm
  · exact TL.numL_free (by omega) hm
  · rcases List.mem_cons.mp hm with rfl | hm
    · omega
    · exact TL.numL_free (by omega) hm
theorem lT_ne_none (p : Pr) : lT p ≠ "none" := fun e => by
  have := congrArg TL.tl e
  rw [tl_lT] at this
  have h2 : (45 : Nat) ∈ TL.tl (Str.ofString "none") := by rw [← this]; simp
  revert h2
  decide +kernel
/-- the text of lines -/
def tT (ls : List Pr) : Str := if ls = [] then "none" else Txt.join " " (ls.map lT)
/-- the text of a web -/
def webT (n : Nat) (ls : List Pr) : Str := nT n ++ ": " ++ tT ls
theorem split_tT {ls : List Pr} (h : ls ≠ []) : Txt.split (tT ls) " " = ls.map lT := by
  unfold tT
  rw [if_neg h]
  refine TL.split_join (s := 32) (S := []) (by decide +kernel) (by decide +kernel) (by simpa using h) fun p hp => ?_
  obtain ⟨q, _, rfl⟩ := List.mem_map.mp hp
  exact lT_free (by decide)
theorem tT_none {ls : List Pr} : tT ls = "none" ↔ ls = [] := by
  constructor
  · intro e
    cases ls with
    | nil => rfl
    | cons p l =>
      have h := split_tT (ls := p :: l) (by simp)
      rw [e, show Txt.split "none" " " = [Str.ofString "none"] by decide +kernel] at h
      rw [List.map_cons] at h
      exact absurd (List.cons.inj h).1.symm (lT_ne_none p)
  · rintro rfl
    rfl
theorem partn_webT (n : Nat) (ls : List Pr) : Txt.partition (webT n ls) ": " = (nT n, Str.ofString ": ", tT ls) :=
  TL.partition_app (s := 58) (S := [32]) (by decide +kernel) (by rw [tl_nT]; exact TL.numL_free (by decide))
theorem str_assoc (a b c : Str) : a ++ b ++ c = a ++ (b ++ c) := TL.ext_tl (by simp only [TL.tl_append, List.append_assoc])
theorem join_cons {y a : Str} {r : List Str} (h : r ≠ []) : Txt.join y (a :: r) = a ++ y ++ Txt.join y r := by
  rw [TL.join_eq, TL.join_eq]
  cases r with
  | nil => exact absurd rfl h
  | cons b r => rfl
theorem join_webT (n : Nat) (ls : List Pr) : Txt.join " " ((nT n ++ ":") :: (if ls = [] then [Str.ofString "none"] else ls.map lT)) = webT n ls := by
  have e : (nT n ++ ":" ++ " " : Str) = nT n ++ ": " := by
    rw [str_assoc]
    congr 1
  rw [join_cons, e]
  · unfold webT tT
    congr 1
    split
    · rfl
    · rfl
  · split
    · simp
    · simpa
theorem joinL_len (S : List Nat) : ∀ ps : List (List Nat), (TL.joinL S ps).length ≤ (ps.map List.length).sum + S.length * ps.length
  | [] => by simp [TL.joinL]
  | [p] => by simp [TL.joinL]
  | p :: q :: r => by
    have := joinL_len S (q :: r)
    show (p ++ (S ++ TL.joinL S (q :: r))).length ≤ _
    rw [List.length_append, List.length_append, List.map_cons, List.sum_cons, List.length_cons, Nat.mul_succ]
    omega
theorem join_len (y : Str) (ps : List Str) : (Txt.join y ps).length ≤ (ps.map (·.length)).sum + y.length * ps.length := by
  rw [TL.len_tl, TL.join_eq, TL.tl_join]
  have := joinL_len (TL.tl y) (ps.map TL.tl)
  rw [List.map_map, List.length_map, ← TL.len_tl] at this
  have e : ps.map (List.length ∘ TL.tl) = ps.map (·.length) := List.map_congr_left fun p _ => (TL.len_tl p).symm
  rw [e] at this
  exact this
theorem sum_le {c : Nat} : ∀ {ns : List Nat}, (∀ x ∈ ns, x ≤ c) → ns.sum ≤ c * ns.length
  | [], _ => by simp
  | n :: ns, h => by
    rw [List.sum_cons, List.length_cons, Nat.mul_succ]
    have := sum_le (ns := ns) fun x hx => h x (List.mem_cons_of_mem _ hx)
    have := h n List.mem_cons_self
    omega
theorem nT_len {n : Nat} (h : n < 1000) : (nT n).length ≤ 3 := by
  rw [TL.len_tl, tl_nT]
  exact TL.numL_len (by decide) h
theorem str_len (a b : Str) : (a ++ b).length = a.length + b.length := by
  rw [TL.len_tl, TL.len_tl, TL.len_tl, TL.tl_append, List.length_append]
theorem lT_len {p : Pr} (h1 : p.1 < 1000) (h2 : p.2 < 1000) : (lT p).length ≤ 7 := by
  unfold lT
  rw [str_len, str_len]
  have e1 := nT_len h1
  have e2 := nT_len h2
  have e3 : (Str.ofString "-").length = 1 := by decide +kernel
  omega
theorem lTs_sum {ls : List Pr} (h : ∀ p ∈ ls, p.1 < 1000 ∧ p.2 < 1000) : ((ls.map lT).map (·.length)).sum ≤ 7 * ls.length := by
  have := sum_le (c := 7) (ns := (ls.map lT).map (·.length)) fun x hx => by
    obtain ⟨t, ht, rfl⟩ := List.mem_map.mp hx
    obtain ⟨p, hp, rfl⟩ := List.mem_map.mp ht
    exact lT_len (h p hp).1 (h p hp).2
  simpa using this
theorem tT_len {ls : List Pr} (h : ∀ p ∈ ls, p.1 < 1000 ∧ p.2 < 1000) (hl : ls.length ≤ 66) : (tT ls).length ≤ 600 := by
  unfold tT
  split
  · exact Nat.le_trans (by decide +kernel : (Str.ofString "none").length ≤ 4) (by decide)
  · have e1 := join_len " " (ls.map lT)
    have e2 := lTs_sum h
    have e3 : (Str.ofString " ").length = 1 := by decide +kernel
    rw [e3, List.length_map] at e1
    omega
theorem webT_len {n : Nat} {ls : List Pr} (hn : n < 1000) (h : ∀ p ∈ ls, p.1 < 1000 ∧ p.2 < 1000) (hl : ls.length ≤ 66) : (webT n ls).length ≤ 605 := by
  unfold webT
  rw [str_len, str_len]
  have e1 := nT_len hn
  have e2 := tT_len h hl
  have e3 : (Str.ofString ": ").length = 2 := by decide +kernel
  omega
theorem webT_inj {n m : Nat} {ls ms : List Pr} (h : webT n ls = webT m ms) : n = m ∧ ls = ms := by
  have e := congrArg (fun t => Txt.partition t ": ") h
  simp only [partn_webT, Prod.mk.injEq, true_and] at e
  refine ⟨nT_inj e.1, ?_⟩
  have e2 := e.2
  by_cases c : ls = []
  · subst c
    exact (tT_none.mp (e2.symm.trans (tT_none.mpr rfl))).symm
  · have c2 : ms ≠ [] := fun c2 => c (tT_none.mp (e2.trans (tT_none.mpr c2)))
    have := split_tT c
    rw [e2, split_tT c2] at this
    exact (List.map_inj_right lT_inj).mp this.symm
/-! ### signs -/
theorem sz_str {k n : Nat} {t : Str} (h : ∀ c ∈ TL.tl t, c < 1000) (hl : t.length ≤ n) : Sz k n (.str t) := by
  refine ⟨rfl, ?_, hl, Nat.zero_le _⟩
  show (t.cps.toList.all fun c => decide (c < 16 ^ 8)) = true
  refine List.all_eq_true.mpr fun c hc => decide_eq_true ?_
  have := h c hc
  have e : (16 : Nat) ^ 8 = 4294967296 := by decide
  omega
theorem mem_joinL {S : List Nat} {c : Nat} : ∀ {ps : List (List Nat)}, c ∈ TL.joinL S ps → c ∈ S ∨ ∃ p ∈ ps, c ∈ p
  | [], h => by cases h
  | [p], h => .inr ⟨p, List.mem_singleton.mpr rfl, h⟩
  | p :: q :: r, h => by
    have h : c ∈ p ++ (S ++ TL.joinL S (q :: r)) := h
    rcases List.mem_append.mp h with h | h
    · exact .inr ⟨p, List.mem_cons_self, h⟩
    · rcases List.mem_append.mp h with h | h
      · exact .inl h
      · rcases mem_joinL h with h | ⟨z, hz, h⟩
        · exact .inl h
        · exact .inr ⟨z, List.mem_cons_of_mem _ hz, h⟩
theorem mem_join {y : Str} {ps : List Str} {c : Nat} (h : c ∈ TL.tl (Txt.join y ps)) : c ∈ TL.tl y ∨ ∃ p ∈ ps, c ∈ TL.tl p := by
  rw [TL.join_eq, TL.tl_join] at h
  rcases mem_joinL h with h | ⟨p, hp, h⟩
  · exact .inl h
  · obtain ⟨z, hz, rfl⟩ := List.mem_map.mp hp
    exact .inr ⟨z, hz, h⟩
theorem lit_sm {t : Str} (h : ((TL.tl t).all fun c => decide (c < 1000)) = true) : ∀ c ∈ TL.tl t, c < 1000 := fun c hc => of_decide_eq_true (List.all_eq_true.mp h c hc)
theorem nT_sm (n : Nat) : ∀ c ∈ TL.tl (nT n), c < 1000 := fun c hc => by
  rw [tl_nT] at hc
  have := TL.numL_digits n c hc
  omega
theorem lT_sm (p : Pr) : ∀ c ∈ TL.tl (lT p), c < 1000 := fun c hc => by
  rw [tl_lT] at hc
  rcases List.mem_append.mp hc with hc | hc
  · exact nT_sm p.1 c (by rw [tl_nT]; exact hc)
  · rcases List.mem_cons.mp hc with rfl | hc
    · decide
    · exact nT_sm p.2 c (by rw [tl_nT]; exact hc)
theorem webT_sm (n : Nat) (ls : List Pr) : ∀ c ∈ TL.tl (webT n ls), c < 1000 := fun c hc => by
  unfold webT at hc
  rw [TL.tl_append, TL.tl_append] at hc
  rcases List.mem_append.mp hc with hc | hc
  · rcases List.mem_append.mp hc with hc | hc
    · exact nT_sm n c hc
    · exact lit_sm (by decide +kernel) c hc
  · unfold tT at hc
    split at hc
    · exact lit_sm (t := "none") (by decide +kernel) c hc
    · rcases mem_join hc with hc | ⟨p, hp, hc⟩
      · exact lit_sm (t := " ") (by decide +kernel) c hc
      · obtain ⟨q, _, rfl⟩ := List.mem_map.mp hp
        exact lT_sm q c hc
end NS
end
section
/-! webtexts.py -/
namespace NS
open PySem PySem.Spec PyProof.Rows L2 DL WB
local macro_rules | `(tactic| walk_at "ev") => `(tactic| simp only [ite_self, intW_b, tupleW_t, listW_l, revW_l, atI_zero, atI_one, atI_two, true_imp_iff, false_imp_iff, Int.natCast_inj, kw12, kw21, kw123, kw132, kw213, kw231, kw312, kw321, dSM, dListM, dPopAt, dListR1, dListC, daStar, dCallX, dCallKX, dRaise, dMk1, dTryAs, dXf, dIsX, bodySp, startD, dSeq, dRet, dRetN, dDrop, dSet, dIfS, dNext, dTst, dtNot, dtAnd, dtOr, dOp, dV, dC, dNeg, dNot, dAnd, dOr, dIf, dChain, daNil, daCons, dTup, dLst, dCB, dTy, dAsg, dPar, gN, gNl, gCn, gTp, dGet, dPut, dPop, dAppend, dCall, dCallK, kw1, dSl, dNoPart, dPart, dRev, dDicE, dLstM,
  List.map_cons, List.map_nil, List.length_cons, List.length_nil, List.cons_append, List.nil_append, List.append_nil, List.replicate_succ, List.replicate_zero, Nat.reduceAdd, Nat.reduceSub, List.set_cons_zero, List.set_cons_succ,
  List.getElem?_cons_zero, List.getElem?_cons_succ, Option.some.injEq, exists_eq_left', exists_eq_left, dBin_d, d1_d, rd_d, true_and, and_true, L.d.injEq, L.p.injEq, PyData.bool.injEq, PyData.int.injEq, PyData.str.injEq, PyData.tuple.injEq, List.cons.injEq, reduceCtorEq, exd_nil, exd_cons, sizeLine, Nat.reducePow, Nat.reduceLeDiff, Int.reducePow, Int.reduceNeg, Int.toNat_natCast, dYes, ite_true, addW_ii, addW_tt, addW_ll, subW_ii, ltW_ii, leW_ii, geW_ii, eqW_ii, slW_t, slW_l, revW_t, lenW_t, lenW_l, listW_t, tupleW_l, intW_i, dIx_t, dIx_l, and_assoc, exists_and_left])
local macro_rules | `(tactic| walk_at "ew") => `(tactic| try simp only [ite_self, intW_b, tupleW_t, listW_l, revW_l, atI_zero, atI_one, atI_two, true_imp_iff, false_imp_iff, Int.natCast_inj, kw12, kw21, kw123, kw132, kw213, kw231, kw312, kw321, dSM, dListM, dPopAt, dListR1, dListC, daStar, dCallX, dCallKX, dRaise, dMk1, dTryAs, dXf, dIsX, bodySp, startD, dSeq, dRet, dRetN, dDrop, dSet, dIfS, dNext, dTst, dtNot, dtAnd, dtOr, dOp, dV, dC, dNeg, dNot, dAnd, dOr, dIf, dChain, daNil, daCons, dTup, dLst, dCB, dTy, dAsg, dPar, gN, gNl, gCn, gTp, dGet, dPut, dPop, dAppend, dCall, dCallK, kw1, dSl, dNoPart, dPart, dRev, dDicE, dLstM, List.map_cons, List.map_nil, List.length_cons, List.length_nil, List.cons_append, List.nil_append, List.append_nil, List.replicate_succ, List.replicate_zero, Nat.reduceAdd, Nat.reduceSub, List.set_cons_zero, List.set_cons_succ, List.getElem?_cons_zero, List.getElem?_cons_succ, Option.some.injEq, exists_eq_left', exists_eq_left, dBin_d, d1_d, rd_d, true_and, and_true, L.d.injEq, L.p.injEq, PyData.bool.injEq, PyData.int.injEq, PyData.str.injEq, PyData.tuple.injEq, List.cons.injEq, reduceCtorEq, exd_nil, exd_cons, sizeLine, Nat.reducePow, Nat.reduceLeDiff, Int.reducePow, Int.reduceNeg, Int.toNat_natCast, dYes, ite_true, addW_ii, addW_tt, addW_ll, subW_ii, ltW_ii, leW_ii, geW_ii, eqW_ii, slW_t, slW_l, revW_t, lenW_t, lenW_l, listW_t, tupleW_l, intW_i, dIx_t, dIx_l, and_assoc, exists_and_left, dTryM, dCls, endD, evO, dPar3, dParT, gTq_t, gTq_l, PyData.list.injEq, cut1, cut2, isi_tup, isi_int, isi_bool, isi_str, isi_lst, isi_dic, eqG_ii, eqG_ss, eqG_bb, neW_i, neW_s, modW_ii, fdivW_ii, gtW_ii, min2W_ii, max2W_ii, best_two, all_two, isN_non, isN_str, isN_tup, isn_non, isn_str, isn_tup, ty_tu_non, ty_tu_bl, ty_tu_in, ty_tu_st, ty_tu_ls, ty_tu_tu, ty_tu_di, ty_in_non, ty_in_bl, ty_in_in, ty_in_st, ty_in_ls, ty_in_tu, ty_in_di, ty_bo_non, ty_bo_bl, ty_bo_in, ty_bo_st, ty_bo_ls, ty_bo_tu, ty_bo_di, ty_st_non, ty_st_bl, ty_st_in, ty_st_st, ty_st_ls, ty_st_tu, ty_st_di, ty_li_non, ty_li_bl, ty_li_in, ty_li_st, ty_li_ls, ty_li_tu, ty_li_di, ty_di_non, ty_di_bl, ty_di_in, ty_di_st, ty_di_ls, ty_di_tu, ty_di_di, eq_self, decide_true, decide_false, Bool.not_true, Bool.not_false, Bool.or_false, Bool.false_or, Bool.true_or, Bool.or_true, Bool.and_true, Bool.true_and, Bool.false_and, Bool.and_false, if_true, if_false, Bool.false_eq_true, reprG_eq, Int.cast_ofNat_Int, Nat.reduceLT, Int.reduceBEq, Nat.reduceBEq, Int.reduceLT, Int.reduceLE, Int.reduceEq, Int.reduceMod, Int.reduceAdd, Int.reduceSub, Int.reduceMul, gStar, List.take_succ_cons, List.take_zero, List.drop_succ_cons, List.drop_zero, sl0, sl1, sl2, sl3, sl4, sl5])
local macro_rules | `(tactic| walk_at "ec") => `(tactic| try simp only [dLc, iSq, iEn, dFor, wipeD, ite_self, intW_b, tupleW_t, listW_l, revW_l, atI_zero, atI_one, atI_two, true_imp_iff, false_imp_iff, Int.natCast_inj, kw12, kw21, kw123, kw132, kw213, kw231, kw312, kw321, dSM, dListM, dPopAt, dListR1, dListC, daStar, dCallX, dCallKX, dRaise, dMk1, dTryAs, dXf, dIsX, bodySp, startD, dSeq, dRet, dRetN, dDrop, dSet, dIfS, dNext, dTst, dtNot, dtAnd, dtOr, dOp, dV, dC, dNeg, dNot, dAnd, dOr, dIf, dChain, daNil, daCons, dTup, dLst, dCB, dTy, dAsg, dPar, gN, gNl, gCn, gTp, dGet, dPut, dPop, dAppend, dCall, dCallK, kw1, dSl, dNoPart, dPart, dRev, dDicE, dLstM, List.map_cons, List.map_nil, List.length_cons, List.length_nil, List.cons_append, List.nil_append, List.append_nil, List.replicate_succ, List.replicate_zero, Nat.reduceAdd, Nat.reduceSub, List.set_cons_zero, List.set_cons_succ, List.getElem?_cons_zero, List.getElem?_cons_succ, Option.some.injEq, exists_eq_left', exists_eq_left, dBin_d, d1_d, rd_d, true_and, and_true, L.d.injEq, L.p.injEq, PyData.bool.injEq, PyData.int.injEq, PyData.str.injEq, PyData.tuple.injEq, List.cons.injEq, reduceCtorEq, exd_nil, exd_cons, sizeLine, Nat.reducePow, Nat.reduceLeDiff, Int.reducePow, Int.reduceNeg, Int.toNat_natCast, dYes, ite_true, addW_ii, addW_tt, addW_ll, subW_ii, ltW_ii, leW_ii, geW_ii, eqW_ii, slW_t, slW_l, revW_t, lenW_t, lenW_l, listW_t, tupleW_l, intW_i, dIx_t, dIx_l, and_assoc, exists_and_left, dTryM, dCls, endD, evO, dPar3, dParT, gTq_t, gTq_l, PyData.list.injEq, cut1, cut2, isi_tup, isi_int, isi_bool, isi_str, isi_lst, isi_dic, eqG_ii, eqG_ss, eqG_bb, neW_i, neW_s, modW_ii, fdivW_ii, gtW_ii, min2W_ii, max2W_ii, best_two, all_two, isN_non, isN_str, isN_tup, isn_non, isn_str, isn_tup, ty_tu_non, ty_tu_bl, ty_tu_in, ty_tu_st, ty_tu_ls, ty_tu_tu, ty_tu_di, ty_in_non, ty_in_bl, ty_in_in, ty_in_st, ty_in_ls, ty_in_tu, ty_in_di, ty_bo_non, ty_bo_bl, ty_bo_in, ty_bo_st, ty_bo_ls, ty_bo_tu, ty_bo_di, ty_st_non, ty_st_bl, ty_st_in, ty_st_st, ty_st_ls, ty_st_tu, ty_st_di, ty_li_non, ty_li_bl, ty_li_in, ty_li_st, ty_li_ls, ty_li_tu, ty_li_di, ty_di_non, ty_di_bl, ty_di_in, ty_di_st, ty_di_ls, ty_di_tu, ty_di_di, eq_self, decide_true, decide_false, Bool.not_true, Bool.not_false, Bool.or_false, Bool.false_or, Bool.true_or, Bool.or_true, Bool.and_true, Bool.true_and, Bool.false_and, Bool.and_false, if_true, if_false, Bool.false_eq_true, reprG_eq, Int.cast_ofNat_Int, Nat.reduceLT, Int.reduceBEq, Nat.reduceBEq, Int.reduceLT, Int.reduceLE, Int.reduceEq, Int.reduceMod, Int.reduceAdd, Int.reduceSub, Int.reduceMul, gStar, List.take_succ_cons, List.take_zero, List.drop_succ_cons, List.drop_zero, sl0, sl1, sl2, sl3, sl4, sl5])
local macro_rules | `(tactic| walk_at "el") => `(tactic| try simp only [lcN_cons, lcN_nil, dLc, iSq, iEn, dFor, wipeD, ite_self, intW_b, tupleW_t, listW_l, revW_l, atI_zero, atI_one, atI_two, true_imp_iff, false_imp_iff, Int.natCast_inj, kw12, kw21, kw123, kw132, kw213, kw231, kw312, kw321, dSM, dListM, dPopAt, dListR1, dListC, daStar, dCallX, dCallKX, dRaise, dMk1, dTryAs, dXf, dIsX, bodySp, startD, dSeq, dRet, dRetN, dDrop, dSet, dIfS, dNext, dTst, dtNot, dtAnd, dtOr, dOp, dV, dC, dNeg, dNot, dAnd, dOr, dIf, dChain, daNil, daCons, dTup, dLst, dCB, dTy, dAsg, dPar, gN, gNl, gCn, gTp, dGet, dPut, dPop, dAppend, dCall, dCallK, kw1, dSl, dNoPart, dPart, dRev, dDicE, dLstM, List.map_cons, List.map_nil, List.length_cons, List.length_nil, List.cons_append, List.nil_append, List.append_nil, List.replicate_succ, List.replicate_zero, Nat.reduceAdd, Nat.reduceSub, List.set_cons_zero, List.set_cons_succ, List.getElem?_cons_zero, List.getElem?_cons_succ, Option.some.injEq, exists_eq_left', exists_eq_left, dBin_d, d1_d, rd_d, true_and, and_true, L.d.injEq, L.p.injEq, PyData.bool.injEq, PyData.int.injEq, PyData.str.injEq, PyData.tuple.injEq, List.cons.injEq, reduceCtorEq, exd_nil, exd_cons, sizeLine, Nat.reducePow, Nat.reduceLeDiff, Int.reducePow, Int.reduceNeg, Int.toNat_natCast, dYes, ite_true, addW_ii, addW_tt, addW_ll, subW_ii, ltW_ii, leW_ii, geW_ii, eqW_ii, slW_t, slW_l, revW_t, lenW_t, lenW_l, listW_t, tupleW_l, intW_i, dIx_t, dIx_l, and_assoc, exists_and_left, dTryM, dCls, endD, evO, dPar3, dParT, gTq_t, gTq_l, PyData.list.injEq, cut1, cut2, isi_tup, isi_int, isi_bool, isi_str, isi_lst, isi_dic, eqG_ii, eqG_ss, eqG_bb, neW_i, neW_s, modW_ii, fdivW_ii, gtW_ii, min2W_ii, max2W_ii, best_two, all_two, isN_non, isN_str, isN_tup, isn_non, isn_str, isn_tup, ty_tu_non, ty_tu_bl, ty_tu_in, ty_tu_st, ty_tu_ls, ty_tu_tu, ty_tu_di, ty_in_non, ty_in_bl, ty_in_in, ty_in_st, ty_in_ls, ty_in_tu, ty_in_di, ty_bo_non, ty_bo_bl, ty_bo_in, ty_bo_st, ty_bo_ls, ty_bo_tu, ty_bo_di, ty_st_non, ty_st_bl, ty_st_in, ty_st_st, ty_st_ls, ty_st_tu, ty_st_di, ty_li_non, ty_li_bl, ty_li_in, ty_li_st, ty_li_ls, ty_li_tu, ty_li_di, ty_di_non, ty_di_bl, ty_di_in, ty_di_st, ty_di_ls, ty_di_tu, ty_di_di, eq_self, decide_true, decide_false, Bool.not_true, Bool.not_false, Bool.or_false, Bool.false_or, Bool.true_or, Bool.or_true, Bool.and_true, Bool.true_and, Bool.false_and, Bool.and_false, if_true, if_false, Bool.false_eq_true, reprG_eq, Int.cast_ofNat_Int, Nat.reduceLT, Int.reduceBEq, Nat.reduceBEq, Int.reduceLT, Int.reduceLE, Int.reduceEq, Int.reduceMod, Int.reduceAdd, Int.reduceSub, Int.reduceMul, gStar, List.take_succ_cons, List.take_zero, List.drop_succ_cons, List.drop_zero, sl0, sl1, sl2, sl3, sl4, sl5])
local macro_rules | `(tactic| walk_at "wi") => `(tactic| simp only [wipeD, List.set_cons_zero, List.set_cons_succ, List.set_nil])
local macro_rules | `(tactic| walk_at "sd") => `(tactic| first | omega | decide | (simp; done) | (simp; omega))
/-- the lines of a web, as they stand in it -/
def WebP (n : Nat) (ps : List Pr) : Prop := 2 ≤ n ∧ n ≤ 10 ∧ ps.Pairwise ltPr ∧ ∀ p ∈ ps, p.1 < p.2 ∧ p.2 < n
theorem WebP.len {n : Nat} {ps : List Pr} (h : WebP n ps) : ps.length ≤ 66 := by
  rw [lns_of_sorted h.2.2.1 h.2.2.2]
  exact lnsA_le (by have := h.2.1; omega) _
theorem WebP.lt {n : Nat} {ps : List Pr} (h : WebP n ps) : ∀ p ∈ ps, p.1 < 1000 ∧ p.2 < 1000 := fun p hp => by
  have := h.2.1
  have := h.2.2.2 p hp
  omega
def sp_is_line : DSp := fun ls M q => ∃ (m : Nat) (p : Pr), ls = [.d (.int (m : Nat)), .d (eP p)] ∧ p.1 < p.2 ∧ p.2 < m ∧ q (.d (.bool true)) M
def spweb_error : DSp := fun ls M q => ∃ (n : Nat) (ps : List Pr), ls = [.d (eW n ps)] ∧ WebP n ps ∧ q (.d .none) M
def spweb_text : DSp := fun ls M q => ∃ (n : Nat) (ps : List Pr), ls = [.d (eW n ps)] ∧ WebP n ps ∧ q (.d (.str (webT n ps))) M
def sp_web_told : DSp := fun ls M q => ∃ (n : Nat) (ps : List Pr), ls = [.d (.str (webT n ps))] ∧ WebP n ps ∧ ∀ M', Grow M M' → q (.d (eW n ps)) M'
def spread_web (cs : Cls) : DSpX := fun ls M q e => ∃ (n : Nat) (ps : List Pr), ls = [.d (.str (webT n ps))] ∧ WebP n ps ∧ ∀ M', Grow M M' → q (.d (eW n ps)) M'
def b_is_line : DS :=
  (dSeq (dIfS (dtNot (dTst (dCall 1 spis_pair (daCons (dV 1) daNil)))) (dRet (dC (.bool false))) dNext)
  (dSeq (dAsg (dV 1) (gTp 2 (gCn (gN 2) (gCn (gN 3) gNl))))
  (dRet (dAnd (dCall 3 spis_int_between (daCons (dV 3) (daCons (dC (.int 0)) (daCons (dOp (dBin subW) (dV 0) (dC (.int 1))) daNil)))) (dCall 3 spis_int_between (daCons (dV 2) (daCons (dC (.int 0)) (daCons (dOp (dBin subW) (dV 3) (dC (.int 1))) daNil))))))))
def bweb_error : DS :=
  (dSeq (dIfS (dtOr (dtNot (dTst (dCall 1 spis_pair (daCons (dV 0) daNil)))) (dtNot (dTst (dCB isiW (daCons (dOp dIx (dV 0) (dC (.int 1))) (daCons (dTy "tuple") daNil)))))) (dRet (dC (.str "form"))) dNext)
  (dSeq (dAsg (dV 0) (gTp 2 (gCn (gN 1) (gCn (gN 2) gNl))))
  (dSeq (dIfS (dtNot (dTst (dCall 3 spis_int_between (daCons (dV 1) (daCons (dC (.int 2)) (daCons (dC (.int 10)) daNil)))))) (dRet (dC (.str "many"))) dNext)
  (dSeq (dFor (iEn (daCons (dV 2) daNil)) (gTp 2 (gCn (gN 3) (gCn (gN 4) gNl))) (dIfS (dtNot (dTst (dCall 2 sp_is_line (daCons (dV 1) (daCons (dV 4) daNil))))) (dRet (dTup (daCons (dC (.str "line")) (daCons (dV 3) daNil)))) dNext))
  (dSeq (dFor (iR2 (daCons (dC (.int 1)) (daCons (dCB (d1 lenW) (daCons (dV 2) daNil)) daNil))) (gN 3) (dIfS (dTst (dOp (dBin leW) (dOp dIx (dV 2) (dV 3)) (dOp dIx (dV 2) (dOp (dBin subW) (dV 3) (dC (.int 1)))))) (dRet (dTup (daCons (dC (.str "order")) (daCons (dV 3) daNil)))) dNext))
  (dRet (dC .none)))))))
def bweb_text : DS :=
  (dSeq (dAsg (dV 0) (gTp 2 (gCn (gN 1) (gCn (gN 2) gNl))))
  (dSeq (dSet 3 (dIf (dTru (dV 2)) (dLc (iSq (dV 2)) (gTp 2 (gCn (gN 4) (gCn (gN 5) gNl))) dYes (dFs [(dFmt (dV 4)), (dC (.str "-")), (dFmt (dV 5))]) [4, 5]) (dLst (daCons (dC (.str "none")) daNil))))
  (dRet (dJoin (dC (.str " ")) (dLst (daCons (dFs [(dFmt (dV 1)), (dC (.str ":"))]) (daStar (dV 3) daNil)))))))
def b_web_told : DS :=
  (dSeq (dAsg (dPartn (dV 0) (dC (.str ": "))) (gTp 3 (gCn (gN 1) (gCn (gN 2) (gCn (gN 3) gNl)))))
  (dSeq (dSet 4 (dDc (iR2 (daCons (dC (.int 2)) (daCons (dOp (dBin addW) (dC (.int 10)) (dC (.int 1))) daNil))) (gN 5) dYes (dCB (d1 strW) (daCons (dV 5) daNil)) (dV 5) [5]))
  (dSeq (dIfS (dtKin true (dV 1) (dV 4)) (dRet (dC .none)) dNext)
  (dSeq (dSet 6 (dGet (dV 4) (dV 1)))
  (dSeq (dSet 7 (dDc (iSq (dListC (dV 6))) (gTp 2 (gCn (gN 8) (gCn (gN 9) gNl))) dYes (dFs [(dFmt (dV 8)), (dC (.str "-")), (dFmt (dV 9))]) (dTup (daCons (dV 8) (daCons (dV 9) daNil))) [8, 9]))
  (dSeq (dSet 10 (dIf (dTst (dOp (dBin eqG) (dV 3) (dC (.str "none")))) (dLst daNil) (dSplit (dV 3) (dC (.str " ")))))
  (dRet (dTup (daCons (dV 6) (daCons (dCB (d1 tupleW) (daCons (dLc (iSq (dV 10)) (gN 11) dYes (dGetO (dV 7) (dV 11)) [11]) daNil)) daNil))))))))))
def bread_web (cs : Cls) (wd : Ev → DXQ) : DS :=
  (dSeq (dIfS (dtNot (dTst (dCB isiW (daCons (dV 0) (daCons (dTy "str") daNil))))) (dRaise (dMk0 cs.aBadText) wd) dNext)
  (dSeq (dSet 1 (dCall 1 sp_web_told (daCons (dV 0) daNil)))
  (dSeq (dIfS (dTst (dOp (dBin (isNW true)) (dCall 1 spweb_error (daCons (dV 1) daNil)) (dC .none))) (dRaise (dMk0 cs.aBadText) wd) dNext)
  (dRet (dV 1)))))
theorem log_nat {n : Nat} (h : n < 1000) : ((n : Nat) : Int).natAbs.log2 < 1920 := by
  rw [Int.natAbs_natCast]
  exact Nat.lt_of_le_of_lt (Nat.log2_le_self n) (by omega)
theorem sz_le {n : Nat} (h : n ≤ 1000) : n ≤ sizeLine := Nat.le_trans h (by decide)
theorem empty_str (a : Str) : Str.empty ++ a = a := TL.ext_tl (by rw [TL.tl_append]; rfl)
theorem fs_line {i j : Nat} {η : Ev} {M : Ms} {q : DQ} {p : Pr} (hi : η[i]? = some (some (.d (.int (p.1 : Nat))))) (hj : η[j]? = some (some (.d (.int (p.2 : Nat))))) (h1 : p.1 < 1000) (h2 : p.2 < 1000) (h : q (.d (.str (lT p))) M) :
    dFs [dFmt (dV i), dC (.str "-"), dFmt (dV j)] η M q := by
  unfold dFs dJs dFmt dV
  refine ⟨_, hi, .inr ⟨_, rfl, log_nat h1, nT p.1, rfl, ?_, ?_⟩⟩
  · rw [empty_str]
    exact sz_le (by have := nT_len h1; omega)
  rw [empty_str]
  have e1 : (nT p.1 ++ "-" : Str).length ≤ 4 := by
    rw [str_len]
    have := nT_len h1
    have : (Str.ofString "-").length = 1 := by decide +kernel
    omega
  unfold dJs dC
  refine ⟨_, rfl, sz_le (by omega), ?_⟩
  unfold dJs
  refine ⟨_, hj, .inr ⟨_, rfl, log_nat h2, nT p.2, rfl, ?_, h⟩⟩
  exact sz_le (by rw [str_len]; have := nT_len h2; omega)
theorem fs_many {i : Nat} {η : Ev} {M : Ms} {q : DQ} {n : Nat} (hi : η[i]? = some (some (.d (.int (n : Nat))))) (h1 : n < 1000) (h : q (.d (.str (nT n ++ ":"))) M) :
    dFs [dFmt (dV i), dC (.str ":")] η M q := by
  unfold dFs dJs dFmt dV
  refine ⟨_, hi, .inr ⟨_, rfl, log_nat h1, nT n, rfl, ?_, ?_⟩⟩
  · rw [empty_str]
    exact sz_le (by have := nT_len h1; omega)
  rw [empty_str]
  unfold dJs dC
  refine ⟨_, rfl, sz_le ?_, h⟩
  rw [str_len]
  have := nT_len h1
  have : (Str.ofString ":").length = 1 := by decide +kernel
  omega
theorem tru_T {i : Nat} {η : Ev} {M : Ms} {xs : List PyData} {K : Bool → Ms → Prop} (hi : η[i]? = some (some (.d (.tuple xs)))) (h : K (!xs.isEmpty) M) : dTru (dV i) η M K := ⟨_, hi, _, rfl, h⟩
theorem vweb_text (ls : List L) (M : Ms) (q : DQ) (hl : ls.length = 1) (h : spweb_text ls M q) : bodySp 6 bweb_text ls M q := by
  obtain ⟨n, ps, rfl, hw, h⟩ := h
  have h10 := hw.2.1
  have hlen := hw.len
  unfold bweb_text
  unfold eW eL
  walk_at "ew"
  have fin : ∀ ws : List Str, ws = (if ps = [] then [Str.ofString "none"] else ps.map lT) → (ws.map (·.length)).sum ≤ 500 → ws.length ≤ 66 → dJoin (dC (.str " ")) (dLst (daCons (dFs [dFmt (dV 1), dC (.str ":")]) (daStar (dV 3) daNil)))
      [some (L.d (PyData.tuple [PyData.int n, PyData.tuple (List.map eP ps)])), some (L.d (PyData.int n)), some (L.d (PyData.tuple (List.map eP ps))), some (L.d (.list (ws.map .str))), none, none] M q := fun ws hw2 hs hn => by
    unfold dJoin
    walk_at "ew"
    refine ⟨⟨_, rfl⟩, fs_many (n := n) rfl (by omega) ⟨_, .inl rfl, .str (nT n ++ ":") :: ws.map .str, rfl, ?_, (nT n ++ ":") :: ws, .inl rfl, ?_, ?_⟩⟩
    · rw [List.length_cons, List.length_map]
      omega
    · have e1 := nT_len (n := n) (by omega)
      have e2 : (Str.ofString ":").length = 1 := by decide +kernel
      have e3 : (Str.ofString " ").length = 1 := by decide +kernel
      rw [List.map_cons, List.sum_cons, List.length_cons, str_len, e2, e3]
      omega
    · rw [hw2, join_webT]
      exact h
  refine tru_T rfl ?_
  by_cases c : ps = []
  · subst c
    exact iteF (fin [Str.ofString "none"] (by simp) (by decide +kernel) (by simp))
  · have e : (!(ps.map eP).isEmpty) = true := by simpa using c
    refine iteT2 e ?_
    refine lc_T (ps.map eP) (fun k hk => by walk_at "ew"; exact hk) ?_
    walk_at "wi"
    refine lcN_map0 (fun y => .str (lT (unP y))) (fun y hy Q E hQ => ?_) (by rw [List.length_map]; omega) (fun zs hzs => ?_)
    · obtain ⟨p, hp, rfl⟩ := List.mem_map.mp hy
      have := hw.lt p hp
      rw [unP_eP] at hQ
      unfold eP
      walk_at "ew"
      exact fs_line rfl rfl this.1 this.2 hQ
    · have e2 : zs = (ps.map lT).map .str := by
        rw [hzs, List.map_map, List.map_map]
        exact List.map_congr_left fun p _ => by simp [unP_eP]
      rw [e2]
      exact fin (ps.map lT) (by rw [if_neg c]) (by have := lTs_sum hw.lt; omega) (by rw [List.length_map]; exact hlen)

theorem leL_pr {p r : Pr} : leL [(r.1 : Int), (r.2 : Int)] [(p.1 : Int), (p.2 : Int)] = false ↔ ltPr p r := by
  unfold ltPr
  by_cases n1 : (r.1 : Int) = (p.1 : Int)
  · by_cases n2 : (r.2 : Int) = (p.2 : Int)
    · simp [leL, Ob.lexAt, n1, n2]
      omega
    · by_cases n3 : (r.2 : Int) ≤ (p.2 : Int)
      · simp [leL, Ob.lexAt, n1, n2, n3]
        omega
      · simp [leL, Ob.lexAt, n1, n2, n3]
        omega
  · by_cases n2 : (r.1 : Int) ≤ (p.1 : Int)
    · simp [leL, Ob.lexAt, n1, n2]
      omega
    · simp [leL, Ob.lexAt, n1, n2]
      omega
theorem v_is_line (ls : List L) (M : Ms) (q : DQ) (hl : ls.length = 2) (h : sp_is_line ls M q) : bodySp 4 b_is_line ls M q := by
  obtain ⟨m, p, rfl, h1, h2, h⟩ := h
  unfold b_is_line eP
  walk_at "ew"
  refine ⟨_, rfl, _, rfl, iteF2 rfl ?_⟩
  refine ⟨_, _, _, rfl, ?_⟩
  have b1 : isB (.int (p.2 : Nat)) 0 ((m : Int) - 1) = true := by
    unfold isB
    simp only [Bool.and_eq_true, decide_eq_true_eq]
    omega
  have b2 : isB (.int (p.1 : Nat)) 0 ((p.2 : Int) - 1) = true := by
    unfold isB
    simp only [Bool.and_eq_true, decide_eq_true_eq]
    omega
  rw [b1]
  refine ⟨_, rfl, iteT2 rfl ?_⟩
  walk_at "ew"
  refine ⟨_, _, _, rfl, ?_⟩
  rw [b2]
  exact h
theorem g_two {i j : Nat} {x y : PyData} {η : Ev} {M : Ms} {K : Ev → Ms → Prop} (h : K ((η.set i (some (.d x))).set j (some (.d y))) M) : gTp 2 (gCn (gN i) (gCn (gN j) gNl)) (.d (.tuple [x, y])) η M K := by
  walk_at "ew"
  exact h
theorem vweb_error (ls : List L) (M : Ms) (q : DQ) (hl : ls.length = 1) (h : spweb_error ls M q) : bodySp 5 bweb_error ls M q := by
  obtain ⟨n, ps, rfl, hw, h⟩ := h
  have h2 := hw.1
  have h10 := hw.2.1
  have hlen := hw.len
  unfold bweb_error eW eL
  walk_at "ew"
  refine ⟨_, rfl, _, rfl, iteF2 rfl ?_⟩
  refine ⟨_, _, _, rfl, ?_⟩
  have b1 : isB (.int (n : Nat)) 2 10 = true := by
    unfold isB
    simp only [Bool.and_eq_true, decide_eq_true_eq]
    omega
  rw [b1]
  refine ⟨_, rfl, iteF2 rfl ?_⟩
  refine for_enT (ps.map eP) (fun k hk => by walk_at "ew"; exact hk) ?_
  refine loop_inv (fun k η M' => M' = M ∧ ∃ z3 z4, η = [some (.d (.tuple [.int (n : Nat), .tuple (ps.map eP)])), some (.d (.int (n : Nat))), some (.d (.tuple (ps.map eP))), z3, z4]) ?_ ?_ ⟨rfl, _, _, rfl⟩
  · rintro k x η M' nx hk ⟨rfl, z3, z4, rfl⟩ hnx
    obtain ⟨y, hy, rfl⟩ := enumD_at hk
    obtain ⟨p, hp, rfl⟩ := List.mem_map.mp (List.mem_of_getElem? hy)
    refine g_two ?_
    walk_at "ew"
    have := hw.2.2.2 p hp
    refine ⟨n, p, rfl, this.1, this.2, _, rfl, iteF2 rfl (hnx _ _ ⟨rfl, _, _, rfl⟩)⟩
  · rintro η M' ⟨rfl, z3, z4, rfl⟩
    walk_at "ew"
    refine for_r2 1 ps.length (by omega) (by omega) (fun k hk => by walk_at "ew"; rw [List.length_map]; exact hk) ?_
    refine loop_inv (fun k η M2 => M2 = M' ∧ ∃ z3 z4, η = [some (.d (.tuple [.int (n : Nat), .tuple (ps.map eP)])), some (.d (.int (n : Nat))), some (.d (.tuple (ps.map eP))), z3, z4]) ?_ ?_ ⟨rfl, _, _, rfl⟩
    · rintro k x η M2 nx hk ⟨rfl, z3, z4, rfl⟩ hnx
      obtain ⟨hk, rfl⟩ := rangeD_at hk
      have hk1 : k + 1 < ps.length := by omega
      walk_at "ew"
      refine ⟨eP ps[k + 1], ?_, eP ps[k], ?_, ?_⟩
      · rw [show (1 : Int) + (k : Int) = ((k + 1 : Nat) : Int) by omega]
        exact atI_map (List.getElem?_eq_getElem hk1)
      · rw [show (1 : Int) + (k : Int) - 1 = ((k : Nat) : Int) by omega]
        exact atI_map (List.getElem?_eq_getElem (by omega))
      refine ⟨[(ps[k + 1].1 : Int), (ps[k + 1].2 : Int)], [(ps[k].1 : Int), (ps[k].2 : Int)], rfl, rfl, ?_⟩
      have hc := leL_pr.mpr (List.pairwise_iff_getElem.mp hw.2.2.1 k (k + 1) (by omega) hk1 (by omega))
      rw [hc]
      exact ⟨_, rfl, iteF2 rfl (hnx _ _ ⟨rfl, _, _, rfl⟩)⟩
    · rintro η M2 ⟨rfl, z3, z4, rfl⟩
      walk_at "ew"
      exact h

def keyN : PyData → L2.Key
  | .int i => .inr (Str.ofString (toString i))
  | _ => .inl 0
theorem rangeD_nats (a n : Nat) : rangeD (a : Int) n = (List.range' a n).map fun i => PyData.int (i : Nat) := by
  unfold rangeD
  rw [List.range'_eq_map_range, List.map_map]
  refine List.map_congr_left fun i _ => ?_
  simp
theorem str_of {M : Ms} {q : DQ} {n : Nat} {i : Nat} {η : Ev} (hi : η[i]? = some (some (.d (.int (n : Nat))))) (hn : n < 1000) (h : q (.d (.str (nT n))) M) : dCB (d1 strW) (daCons (dV i) daNil) η M q := by
  walk_at "ew"
  refine ⟨_, hi, ?_⟩
  walk_at "ew"
  exact ⟨log_nat hn, h⟩
theorem dc_r2 {da : DA} {g : DG} {t : DT} {dk dv : DE} {vs : List Nat} {η : Ev} {M : Ms} {q : DQ} (m n : Nat) (hm : m < 1000) (hn : n < 1000) (he : ∀ k : List L → Ms → Prop, k [.d (.int (m : Nat)), .d (.int (n : Nat))] M → da η M k)
    (h : dDcN g t dk dv (wipeD η vs) (fun kvs M2 => ∀ a, M2 a = none → q (.p a) (updM M2 a (.dct kvs))) (rangeD m (n - m)) [] M) : dDc (iR2 da) g t dk dv vs η M q := by
  unfold dDc iR2
  refine he _ ⟨(m : Nat), (n : Nat), rfl, ⟨by omega, by omega, by omega, by omega⟩, ?_⟩
  rw [show ((n : Int) - (m : Int)).toNat = n - m by omega]
  exact h
theorem dc_L {de : DE} {g : DG} {t : DT} {dk dv : DE} {vs : List Nat} {η : Ev} {M : Ms} {q : DQ} (xs : List PyData) (he : ∀ k : L → Ms → Prop, k (.d (.list xs)) M → de η M k)
    (h : dDcN g t dk dv (wipeD η vs) (fun kvs M2 => ∀ a, M2 a = none → q (.p a) (updM M2 a (.dct kvs))) xs [] M) : dDc (iSq de) g t dk dv vs η M q := by
  unfold dDc iSq
  exact he _ h
theorem nodup_map {α β : Type} {f : α → β} (hf : ∀ a b, f a = f b → a = b) {l : List α} (h : l.Nodup) : (l.map f).Nodup := List.pairwise_map.mpr (h.imp fun ne e => ne (hf _ _ e))
/-- the dict of the counts -/
def cntK (lo n : Nat) : List (L2.Key × L) := (List.range' lo n).map fun i => (.inr (nT i), .d (.int (i : Nat)))
theorem cnt_val {lo n i : Nat} (h : lo ≤ i ∧ i < lo + n) : valL (cntK lo n) (.inr (nT i)) = some (.d (.int (i : Nat))) := by
  unfold cntK
  rw [valL_map, find_inj (f := fun i => (Sum.inr (nT i) : L2.Key)) (fun x y e => nT_inj (Sum.inr.inj e)) (List.mem_range'_1.mpr h)]
  rfl
theorem cnt_make {η : Ev} {k : List (L2.Key × L) → Ms → Prop} {M : Ms} {i lo n : Nat} (hi : i < η.length) (hn : lo + n < 1000) (h : k (cntK lo n) M) :
    dDcN (gN i) dYes (dCB (d1 strW) (daCons (dV i) daNil)) (dV i) η k (rangeD (lo : Nat) n) [] M := by
  refine dcN_map keyN (fun y => .d y) (fun y hy Q E hQ => ?_) ?_ ?_ ?_
  · rw [rangeD_nats] at hy
    obtain ⟨j, hj, rfl⟩ := List.mem_map.mp hy
    have := List.mem_range'_1.mp hj
    unfold gN dYes
    refine iteT (str_of (n := j) (by rw [List.getElem?_set_self hi]) (by omega) ⟨_, by rw [List.getElem?_set_self hi], hQ⟩)
  · rw [List.map_nil, List.nil_append, rangeD_nats, List.map_map]
    exact nodup_map (fun a b e => nT_inj (Sum.inr.inj e)) (List.nodup_range' (step := 1) (by decide))
  · rw [rangeD_len, List.length_nil]
    omega
  · rw [List.nil_append, rangeD_nats, List.map_map]
    exact h
/-- the dict of the lines -/
def linK (n : Nat) : List (L2.Key × L) := (pairsN n).map fun p => (.inr (lT p), .d (eP p))
theorem lin_val {n : Nat} {p : Pr} (h : p ∈ pairsN n) : valL (linK n) (.inr (lT p)) = some (.d (eP p)) := by
  unfold linK
  rw [valL_map, find_inj (f := fun p => (Sum.inr (lT p) : L2.Key)) (fun x y e => lT_inj _ _ (Sum.inr.inj e)) h]
  rfl
theorem v_web_told (ls : List L) (M : Ms) (q : DQ) (hl : ls.length = 1) (h : sp_web_told ls M q) : bodySp 12 b_web_told ls M q := by
  obtain ⟨n, ps, rfl, hw, h⟩ := h
  have h2 := hw.1
  have h10 := hw.2.1
  have hlen := hw.len
  have wl := webT_len (n := n) (by omega) hw.lt hlen
  unfold b_web_told dPartn
  walk_at "ew"
  rw [partn_webT]
  refine ⟨⟨_, rfl⟩, by decide +kernel, by omega, ?_⟩
  refine dc_r2 2 11 (by decide) (by decide) (fun k hk => by walk_at "ew"; exact hk) ?_
  walk_at "wi"
  refine cnt_make (by simp) (by decide) fun a ha => ?_
  unfold dtKin
  walk_at "ew"
  refine ⟨a, _, .inr (nT n), rfl, rfl, updM_same, ?_⟩
  have cv : valL (cntK 2 (11 - 2)) (.inr (nT n)) = some (.d (.int (n : Nat))) := cnt_val (by omega)
  rw [cv]
  refine iteF2 rfl ⟨_, updM_same, .inr (nT n), rfl, _, cv, ?_⟩
  refine dc_L ((pairsN n).map eP) (fun k hk => by walk_at "ew"; exact ⟨by omega, by omega, by rw [combD_eq (by omega)]; exact hk⟩) ?_
  walk_at "wi"
  have pl := pairsN_le n (by omega)
  refine dcN_map (fun y => .inr (lT (unP y))) (fun y => .d y) (fun y hy Q E hQ => ?_) ?_ ?_ ?_
  · obtain ⟨p, hp, rfl⟩ := List.mem_map.mp hy
    have := mem_pairsN.mp hp
    rw [unP_eP] at hQ
    refine g_two (x := .int (p.1 : Nat)) (y := .int (p.2 : Nat)) ?_
    walk_at "ew"
    refine fs_line rfl rfl (by omega) (by omega) ?_
    walk_at "ew"
    exact hQ
  · rw [List.map_nil, List.nil_append, List.map_map]
    refine nodup_map (fun a b e => ?_) (pairsN_nodup n)
    have e := Sum.inr.inj e
    simp only [unP_eP] at e
    exact lT_inj _ _ e
  · rw [List.length_map, List.length_nil]
    omega
  have ek : ([] ++ ((pairsN n).map eP).map fun y => ((Sum.inr (lT (unP y)) : L2.Key), L.d y)) = linK n := by
    rw [List.nil_append, List.map_map]
    unfold linK
    exact List.map_congr_left fun p _ => by simp only [Function.comp, unP_eP]
  rw [ek]
  intro b hb
  generalize hM : updM (updM M a (.dct (cntK 2 (11 - 2)))) b (.dct (linK n)) = M2
  have g2 : Grow M M2 := by
    rw [← hM]
    exact (Grow.new ha).trans (Grow.new hb)
  have m2 : M2 b = some (.dct (linK n)) := by rw [← hM]; exact updM_same
  have fin : ∀ z10, z10 = L.d (.list ((ps.map lT).map .str)) → dLc (iSq (dV 10)) (gN 11) dYes (dGetO (dV 7) (dV 11)) [11]
      [some (L.d (PyData.str (webT n ps))), some (L.d (PyData.str (nT n))), some (L.d (PyData.str (Str.ofString ": "))), some (L.d (PyData.str (tT ps))), some (L.p a), none, some (L.d (.int (n : Nat))), some (L.p b), none, none, some z10, none]
      M2 fun l M1 => d1 tupleW [l] M1 fun l M1 => ∃ xs, [l] = List.map L.d xs ∧ xs.length ≤ 16777215 ∧ q (L.d (PyData.tuple (.int (n : Nat) :: xs))) M1 := by
    rintro _ rfl
    refine lc_L ((ps.map lT).map .str) (fun k hk => by walk_at "ew"; exact hk) ?_
    walk_at "wi"
    refine lcN_map0 (fun y => match y with | .str w => (match (pairsN n).find? (fun p => decide (lT p = w)) with | some p => eP p | none => .none) | _ => .none) (fun y hy Q E hQ => ?_) (by rw [List.length_map, List.length_map]; omega) (fun zs hzs => ?_)
    · obtain ⟨w, hw1, rfl⟩ := List.mem_map.mp hy
      obtain ⟨p, hp, rfl⟩ := List.mem_map.mp hw1
      have hm : p ∈ pairsN n := mem_pairsN.mpr (hw.2.2.2 p hp)
      simp only [find_inj lT_inj hm] at hQ
      unfold dGetO
      walk_at "ew"
      refine ⟨⟨_, m2⟩, _, .inr (lT p), rfl, m2, ?_⟩
      rw [lin_val hm]
      exact hQ
    · have e2 : zs = ps.map eP := by
        rw [hzs, List.map_map, List.map_map]
        exact List.map_congr_left fun p hp => by
          have hm : p ∈ pairsN n := mem_pairsN.mpr (hw.2.2.2 p hp)
          simp only [Function.comp, find_inj lT_inj hm]
      rw [e2]
      walk_at "ew"
      exact h M2 g2
  by_cases c : ps = []
  · refine iteT2 (decide_eq_true (tT_none.mpr c)) ?_
    subst c
    walk_at "ew"
    exact fin _ rfl
  · refine iteF2 (decide_eq_false fun e => c (tT_none.mp e)) ?_
    unfold dSplit
    walk_at "ew"
    refine ⟨⟨_, rfl⟩, by decide +kernel, by have := tT_len hw.lt hlen; omega, ?_⟩
    rw [split_tT c]
    exact fin _ rfl
theorem vread_web (cs : Cls) (ls : List L) (M : Ms) (q : DQ) (e : DXQ) (hl : ls.length = 1) (h : spread_web cs ls M q e) : bodySpX 2 (bread_web cs) ls M q e := by
  obtain ⟨n, ps, rfl, hw, h⟩ := h
  unfold bread_web
  unfold bodySpX
  walk_at "ew"
  refine ⟨n, ps, rfl, hw, fun M' g => ⟨n, ps, rfl, hw, ?_⟩⟩
  walk_at "ew"
  exact h M' g
end NS
end
section
namespace NS
open PySem PySem.Spec PyProof.Rows L2 DL WB
local macro_rules | `(tactic| walk_at "ev") => `(tactic| simp only [ite_self, intW_b, tupleW_t, listW_l, revW_l, atI_zero, atI_one, atI_two, true_imp_iff, false_imp_iff, Int.natCast_inj, kw12, kw21, kw123, kw132, kw213, kw231, kw312, kw321, dSM, dListM, dPopAt, dListR1, dListC, daStar, dCallX, dCallKX, dRaise, dMk1, dTryAs, dXf, dIsX, bodySp, startD, dSeq, dRet, dRetN, dDrop, dSet, dIfS, dNext, dTst, dtNot, dtAnd, dtOr, dOp, dV, dC, dNeg, dNot, dAnd, dOr, dIf, dChain, daNil, daCons, dTup, dLst, dCB, dTy, dAsg, dPar, gN, gNl, gCn, gTp, dGet, dPut, dPop, dAppend, dCall, dCallK, kw1, dSl, dNoPart, dPart, dRev, dDicE, dLstM,
  List.map_cons, List.map_nil, List.length_cons, List.length_nil, List.cons_append, List.nil_append, List.append_nil, List.replicate_succ, List.replicate_zero, Nat.reduceAdd, Nat.reduceSub, List.set_cons_zero, List.set_cons_succ,
  List.getElem?_cons_zero, List.getElem?_cons_succ, Option.some.injEq, exists_eq_left', exists_eq_left, dBin_d, d1_d, rd_d, true_and, and_true, L.d.injEq, L.p.injEq, PyData.bool.injEq, PyData.int.injEq, PyData.str.injEq, PyData.tuple.injEq, List.cons.injEq, reduceCtorEq, exd_nil, exd_cons, sizeLine, Nat.reducePow, Nat.reduceLeDiff, Int.reducePow, Int.reduceNeg, Int.toNat_natCast, dYes, ite_true, addW_ii, addW_tt, addW_ll, subW_ii, ltW_ii, leW_ii, geW_ii, eqW_ii, slW_t, slW_l, revW_t, lenW_t, lenW_l, listW_t, tupleW_l, intW_i, dIx_t, dIx_l, and_assoc, exists_and_left])
local macro_rules | `(tactic| walk_at "ew") => `(tactic| try simp only [ite_self, intW_b, tupleW_t, listW_l, revW_l, atI_zero, atI_one, atI_two, true_imp_iff, false_imp_iff, Int.natCast_inj, kw12, kw21, kw123, kw132, kw213, kw231, kw312, kw321, dSM, dListM, dPopAt, dListR1, dListC, daStar, dCallX, dCallKX, dRaise, dMk1, dTryAs, dXf, dIsX, bodySp, startD, dSeq, dRet, dRetN, dDrop, dSet, dIfS, dNext, dTst, dtNot, dtAnd, dtOr, dOp, dV, dC, dNeg, dNot, dAnd, dOr, dIf, dChain, daNil, daCons, dTup, dLst, dCB, dTy, dAsg, dPar, gN, gNl, gCn, gTp, dGet, dPut, dPop, dAppend, dCall, dCallK, kw1, dSl, dNoPart, dPart, dRev, dDicE, dLstM, List.map_cons, List.map_nil, List.length_cons, List.length_nil, List.cons_append, List.nil_append, List.append_nil, List.replicate_succ, List.replicate_zero, Nat.reduceAdd, Nat.reduceSub, List.set_cons_zero, List.set_cons_succ, List.getElem?_cons_zero, List.getElem?_cons_succ, Option.some.injEq, exists_eq_left', exists_eq_left, dBin_d, d1_d, rd_d, true_and, and_true, L.d.injEq, L.p.injEq, PyData.bool.injEq, PyData.int.injEq, PyData.str.injEq, PyData.tuple.injEq, List.cons.injEq, reduceCtorEq, exd_nil, exd_cons, sizeLine, Nat.reducePow, Nat.reduceLeDiff, Int.reducePow, Int.reduceNeg, Int.toNat_natCast, dYes, ite_true, addW_ii, addW_tt, addW_ll, subW_ii, ltW_ii, leW_ii, geW_ii, eqW_ii, slW_t, slW_l, revW_t, lenW_t, lenW_l, listW_t, tupleW_l, intW_i, dIx_t, dIx_l, and_assoc, exists_and_left, dTryM, dCls, endD, evO, dPar3, dParT, gTq_t, gTq_l, PyData.list.injEq, cut1, cut2, isi_tup, isi_int, isi_bool, isi_str, isi_lst, isi_dic, eqG_ii, eqG_ss, eqG_bb, neW_i, neW_s, modW_ii, fdivW_ii, gtW_ii, min2W_ii, max2W_ii, best_two, all_two, isN_non, isN_str, isN_tup, isn_non, isn_str, isn_tup, ty_tu_non, ty_tu_bl, ty_tu_in, ty_tu_st, ty_tu_ls, ty_tu_tu, ty_tu_di, ty_in_non, ty_in_bl, ty_in_in, ty_in_st, ty_in_ls, ty_in_tu, ty_in_di, ty_bo_non, ty_bo_bl, ty_bo_in, ty_bo_st, ty_bo_ls, ty_bo_tu, ty_bo_di, ty_st_non, ty_st_bl, ty_st_in, ty_st_st, ty_st_ls, ty_st_tu, ty_st_di, ty_li_non, ty_li_bl, ty_li_in, ty_li_st, ty_li_ls, ty_li_tu, ty_li_di, ty_di_non, ty_di_bl, ty_di_in, ty_di_st, ty_di_ls, ty_di_tu, ty_di_di, eq_self, decide_true, decide_false, Bool.not_true, Bool.not_false, Bool.or_false, Bool.false_or, Bool.true_or, Bool.or_true, Bool.and_true, Bool.true_and, Bool.false_and, Bool.and_false, if_true, if_false, Bool.false_eq_true, reprG_eq, Int.cast_ofNat_Int, Nat.reduceLT, Int.reduceBEq, Nat.reduceBEq, Int.reduceLT, Int.reduceLE, Int.reduceEq, Int.reduceMod, Int.reduceAdd, Int.reduceSub, Int.reduceMul, gStar, List.take_succ_cons, List.take_zero, List.drop_succ_cons, List.drop_zero, sl0, sl1, sl2, sl3, sl4, sl5])
local macro_rules | `(tactic| walk_at "ec") => `(tactic| try simp only [dLc, iSq, iEn, dFor, wipeD, ite_self, intW_b, tupleW_t, listW_l, revW_l, atI_zero, atI_one, atI_two, true_imp_iff, false_imp_iff, Int.natCast_inj, kw12, kw21, kw123, kw132, kw213, kw231, kw312, kw321, dSM, dListM, dPopAt, dListR1, dListC, daStar, dCallX, dCallKX, dRaise, dMk1, dTryAs, dXf, dIsX, bodySp, startD, dSeq, dRet, dRetN, dDrop, dSet, dIfS, dNext, dTst, dtNot, dtAnd, dtOr, dOp, dV, dC, dNeg, dNot, dAnd, dOr, dIf, dChain, daNil, daCons, dTup, dLst, dCB, dTy, dAsg, dPar, gN, gNl, gCn, gTp, dGet, dPut, dPop, dAppend, dCall, dCallK, kw1, dSl, dNoPart, dPart, dRev, dDicE, dLstM, List.map_cons, List.map_nil, List.length_cons, List.length_nil, List.cons_append, List.nil_append, List.append_nil, List.replicate_succ, List.replicate_zero, Nat.reduceAdd, Nat.reduceSub, List.set_cons_zero, List.set_cons_succ, List.getElem?_cons_zero, List.getElem?_cons_succ, Option.some.injEq, exists_eq_left', exists_eq_left, dBin_d, d1_d, rd_d, true_and, and_true, L.d.injEq, L.p.injEq, PyData.bool.injEq, PyData.int.injEq, PyData.str.injEq, PyData.tuple.injEq, List.cons.injEq, reduceCtorEq, exd_nil, exd_cons, sizeLine, Nat.reducePow, Nat.reduceLeDiff, Int.reducePow, Int.reduceNeg, Int.toNat_natCast, dYes, ite_true, addW_ii, addW_tt, addW_ll, subW_ii, ltW_ii, leW_ii, geW_ii, eqW_ii, slW_t, slW_l, revW_t, lenW_t, lenW_l, listW_t, tupleW_l, intW_i, dIx_t, dIx_l, and_assoc, exists_and_left, dTryM, dCls, endD, evO, dPar3, dParT, gTq_t, gTq_l, PyData.list.injEq, cut1, cut2, isi_tup, isi_int, isi_bool, isi_str, isi_lst, isi_dic, eqG_ii, eqG_ss, eqG_bb, neW_i, neW_s, modW_ii, fdivW_ii, gtW_ii, min2W_ii, max2W_ii, best_two, all_two, isN_non, isN_str, isN_tup, isn_non, isn_str, isn_tup, ty_tu_non, ty_tu_bl, ty_tu_in, ty_tu_st, ty_tu_ls, ty_tu_tu, ty_tu_di, ty_in_non, ty_in_bl, ty_in_in, ty_in_st, ty_in_ls, ty_in_tu, ty_in_di, ty_bo_non, ty_bo_bl, ty_bo_in, ty_bo_st, ty_bo_ls, ty_bo_tu, ty_bo_di, ty_st_non, ty_st_bl, ty_st_in, ty_st_st, ty_st_ls, ty_st_tu, ty_st_di, ty_li_non, ty_li_bl, ty_li_in, ty_li_st, ty_li_ls, ty_li_tu, ty_li_di, ty_di_non, ty_di_bl, ty_di_in, ty_di_st, ty_di_ls, ty_di_tu, ty_di_di, eq_self, decide_true, decide_false, Bool.not_true, Bool.not_false, Bool.or_false, Bool.false_or, Bool.true_or, Bool.or_true, Bool.and_true, Bool.true_and, Bool.false_and, Bool.and_false, if_true, if_false, Bool.false_eq_true, reprG_eq, Int.cast_ofNat_Int, Nat.reduceLT, Int.reduceBEq, Nat.reduceBEq, Int.reduceLT, Int.reduceLE, Int.reduceEq, Int.reduceMod, Int.reduceAdd, Int.reduceSub, Int.reduceMul, gStar, List.take_succ_cons, List.take_zero, List.drop_succ_cons, List.drop_zero, sl0, sl1, sl2, sl3, sl4, sl5])
local macro_rules | `(tactic| walk_at "el") => `(tactic| try simp only [lcN_cons, lcN_nil, dLc, iSq, iEn, dFor, wipeD, ite_self, intW_b, tupleW_t, listW_l, revW_l, atI_zero, atI_one, atI_two, true_imp_iff, false_imp_iff, Int.natCast_inj, kw12, kw21, kw123, kw132, kw213, kw231, kw312, kw321, dSM, dListM, dPopAt, dListR1, dListC, daStar, dCallX, dCallKX, dRaise, dMk1, dTryAs, dXf, dIsX, bodySp, startD, dSeq, dRet, dRetN, dDrop, dSet, dIfS, dNext, dTst, dtNot, dtAnd, dtOr, dOp, dV, dC, dNeg, dNot, dAnd, dOr, dIf, dChain, daNil, daCons, dTup, dLst, dCB, dTy, dAsg, dPar, gN, gNl, gCn, gTp, dGet, dPut, dPop, dAppend, dCall, dCallK, kw1, dSl, dNoPart, dPart, dRev, dDicE, dLstM, List.map_cons, List.map_nil, List.length_cons, List.length_nil, List.cons_append, List.nil_append, List.append_nil, List.replicate_succ, List.replicate_zero, Nat.reduceAdd, Nat.reduceSub, List.set_cons_zero, List.set_cons_succ, List.getElem?_cons_zero, List.getElem?_cons_succ, Option.some.injEq, exists_eq_left', exists_eq_left, dBin_d, d1_d, rd_d, true_and, and_true, L.d.injEq, L.p.injEq, PyData.bool.injEq, PyData.int.injEq, PyData.str.injEq, PyData.tuple.injEq, List.cons.injEq, reduceCtorEq, exd_nil, exd_cons, sizeLine, Nat.reducePow, Nat.reduceLeDiff, Int.reducePow, Int.reduceNeg, Int.toNat_natCast, dYes, ite_true, addW_ii, addW_tt, addW_ll, subW_ii, ltW_ii, leW_ii, geW_ii, eqW_ii, slW_t, slW_l, revW_t, lenW_t, lenW_l, listW_t, tupleW_l, intW_i, dIx_t, dIx_l, and_assoc, exists_and_left, dTryM, dCls, endD, evO, dPar3, dParT, gTq_t, gTq_l, PyData.list.injEq, cut1, cut2, isi_tup, isi_int, isi_bool, isi_str, isi_lst, isi_dic, eqG_ii, eqG_ss, eqG_bb, neW_i, neW_s, modW_ii, fdivW_ii, gtW_ii, min2W_ii, max2W_ii, best_two, all_two, isN_non, isN_str, isN_tup, isn_non, isn_str, isn_tup, ty_tu_non, ty_tu_bl, ty_tu_in, ty_tu_st, ty_tu_ls, ty_tu_tu, ty_tu_di, ty_in_non, ty_in_bl, ty_in_in, ty_in_st, ty_in_ls, ty_in_tu, ty_in_di, ty_bo_non, ty_bo_bl, ty_bo_in, ty_bo_st, ty_bo_ls, ty_bo_tu, ty_bo_di, ty_st_non, ty_st_bl, ty_st_in, ty_st_st, ty_st_ls, ty_st_tu, ty_st_di, ty_li_non, ty_li_bl, ty_li_in, ty_li_st, ty_li_ls, ty_li_tu, ty_li_di, ty_di_non, ty_di_bl, ty_di_in, ty_di_st, ty_di_ls, ty_di_tu, ty_di_di, eq_self, decide_true, decide_false, Bool.not_true, Bool.not_false, Bool.or_false, Bool.false_or, Bool.true_or, Bool.or_true, Bool.and_true, Bool.true_and, Bool.false_and, Bool.and_false, if_true, if_false, Bool.false_eq_true, reprG_eq, Int.cast_ofNat_Int, Nat.reduceLT, Int.reduceBEq, Nat.reduceBEq, Int.reduceLT, Int.reduceLE, Int.reduceEq, Int.reduceMod, Int.reduceAdd, Int.reduceSub, Int.reduceMul, gStar, List.take_succ_cons, List.take_zero, List.drop_succ_cons, List.drop_zero, sl0, sl1, sl2, sl3, sl4, sl5])
local macro_rules | `(tactic| walk_at "wi") => `(tactic| simp only [wipeD, List.set_cons_zero, List.set_cons_succ, List.set_nil])
local macro_rules | `(tactic| walk_at "sd") => `(tactic| first | omega | decide | (simp; done) | (simp; omega))
def splaw0 : DSp := fun ls M q => ∃ ns : List Int, ls = [.d (.list (ns.map .int))] ∧ ns.length ≤ 63 ∧ ∀ M', q (.d (.bool true)) M'
def sp_law_text : DSp := fun ls M q => ∃ (n : Nat) (ps : List Pr), ls = [.d (eW n ps)] ∧ WebP n ps ∧ q (.d (.str (webT n ps))) M
def splaw (cs : Cls) : DSp := splaw0
def b_law_deck : DS :=
  (dSeq (dSet 1 (dDisp [(.inr "deep", (dLstM daNil)), (.inr "state", (dOp (dBin addW) (dC (.int 2704)) (dCB (d1 lenW) (daCons (dSl (dV 0) dNoPart (dPart (dC (.int 63)))) daNil))))]))
  (dSeq (dFor (iSq (dSl (dV 0) dNoPart (dPart (dC (.int 63))))) (gN 2) (dSeq (dSet 3 (dCB (d1 absW) (daCons (dV 2) daNil)))
  (dSeq (dIfS (dTst (dOp (dBin geW) (dV 3) (dOp (dBin powW) (dC (.int 10)) (dC (.int 18))))) (dPut (dV 1) (dC (.str "deep")) (dCatM (dLst (daCons (dV 3) daNil)) (dGet (dV 1) (dC (.str "deep"))))) dNext)
  (dSeq (dSet 4 (dOp (dBin addW) (dOp (dBin mulW) (dOp (dBin addW) (dOp (dBin addW) (dOp (dBin addW) (dGet (dV 1) (dC (.str "state"))) (dOp (dBin mulW) (dC (.int 2)) (dV 3))) (dCB (d1 intW) (daCons (dOp (dBin ltW) (dV 2) (dC (.int 0))) daNil))) (dC (.int 1))) (dC (.int 1181783497276652981))) (dC (.int 521288629))))
  (dPut (dV 1) (dC (.str "state")) (dOp (dBin modW) (dCB (d1 intW) (daCons (dV 4) daNil)) (dC (.int 2305843009213693951))))))))
  (dRet (dV 1))))
def b_law_text : DS :=
  (dSeq (dSet 1 (dLc (iSq (dOp dIx (dV 0) (dC (.int 1)))) (gTp 2 (gCn (gN 2) (gCn (gN 3) gNl))) dYes (dOp (dBin addW) (dOp (dBin addW) (dCB (d1 strW) (daCons (dV 2) daNil)) (dC (.str "-"))) (dCB (d1 strW) (daCons (dV 3) daNil))) [2, 3]))
  (dRet (dOp (dBin addW) (dOp (dBin addW) (dCB (d1 strW) (daCons (dOp dIx (dV 0) (dC (.int 0))) daNil)) (dC (.str ": "))) (dIf (dTst (dOp (dBin neW) (dV 1) (dLst daNil))) (dJoin (dC (.str " ")) (dV 1)) (dC (.str "none"))))))
def blaw (cs : Cls) : DS :=
  (dSeq (dSet 1 (dCall 1 sp_law_deck (daCons (dV 0) daNil)))
  (dSeq (dFor (iR1 (daCons (dC (.int 12)) daNil)) (gN 2) (dSeq (dSet 3 (dCall 2 sp_law_web (daCons (dV 1) (daCons (dOp (dBin addW) (dC (.int 2)) (dCall 2 sp_law_draw (daCons (dV 1) (daCons (dC (.int 9)) daNil)))) daNil))))
  (dSeq (dSet 4 (dCall 2 sp_law_pick (daCons (dV 1) (daCons (dCall 1 sp_law_pairs (daCons (dOp dIx (dV 3) (dC (.int 0))) daNil)) daNil))))
  (dSeq (dSet 5 (dIf (dTst (dOp (dBin (memG false)) (dV 4) (dOp dIx (dV 3) (dC (.int 1))))) (dLc (iSq (dOp dIx (dV 3) (dC (.int 1)))) (gN 12) (dTst (dOp (dBin neW) (dV 12) (dV 4))) (dV 12) [12]) (dCB (d1 sortAW) (daCons (dOp (dBin addW) (dCB (d1 listW) (daCons (dOp dIx (dV 3) (dC (.int 1))) daNil)) (dLst (daCons (dV 4) daNil))) daNil))))
  (dSeq (dSet 6 (dTup (daCons (dOp dIx (dV 3) (dC (.int 0))) (daCons (dCB (d1 tupleW) (daCons (dV 5) daNil)) daNil))))
  (dSeq (dIfS (dtAnd (dTst (dOp (dBin eqG) (dOp (dBin modW) (dV 2) (dC (.int 4))) (dC (.int 3)))) (dTst (dOp (dBin ltW) (dOp dIx (dV 3) (dC (.int 0))) (dC (.int 10))))) (dSet 6 (dTup (daCons (dOp (dBin addW) (dOp dIx (dV 3) (dC (.int 0))) (dC (.int 1))) (daCons (dOp dIx (dV 3) (dC (.int 1))) daNil)))) dNext)
  (dSeq (dFor (iSq (dTup (daCons (dV 3) (daCons (dV 6) daNil)))) (gN 7) (dSeq (dPar 10 11 (daCons (dCB (d1 reprG) (daCons (dV 7) daNil)) (daCons (dCall 1 sp_law_text (daCons (dV 7) daNil)) daNil)))
  (dSeq (dSet 8 (dIf (dTst (dOp (dBin eqG) (dV 2) (dC (.int 0)))) (dCallK 1 spweb_text (kw1 []) (daCons (dV 7) daNil)) (dCall 1 spweb_text (daCons (dV 7) daNil))))
  (dSeq (dSet 9 (dIf (dTst (dOp (dBin eqG) (dV 2) (dC (.int 1)))) (dCallKX 1 (spread_web cs) (fun _ _ _ _ => False) (kw1 []) (daCons (dV 11) daNil)) (dCallX 1 (spread_web cs) (fun _ _ _ _ => False) (daCons (dV 11) daNil))))
  (dIfS (dtOr (dTst (dOp (dBin neW) (dCB (d1 reprG) (daCons (dLst (daCons (dV 8) (daCons (dCall 1 spweb_text (daCons (dV 7) daNil)) (daCons (dV 9) (daCons (dCallX 1 (spread_web cs) (fun _ _ _ _ => False) (daCons (dV 8) daNil)) daNil))))) daNil)) (dCB (d1 reprG) (daCons (dLst (daCons (dV 11) (daCons (dV 11) (daCons (dV 7) (daCons (dV 7) daNil))))) daNil)))) (dTst (dOp (dBin neW) (dCB (d1 reprG) (daCons (dV 7) daNil)) (dV 10)))) (dRet (dC (.bool false))) dNext)))))
  (dIfS (dTst (dOp (dBin eqG) (dCall 1 spweb_text (daCons (dV 3) daNil)) (dCall 1 spweb_text (daCons (dV 6) daNil)))) (dRet (dC (.bool false))) dNext))))))))
  (dRet (dC (.bool true)))))
theorem v_law_deck (ls : List L) (M : Ms) (q : DQ) (hl : ls.length = 1) (h : sp_law_deck ls M q) : bodySp 5 b_law_deck ls M q := by
  unfold b_law_deck
  exact vdeckA 2704 (by decide) ls M q hl h
theorem strOk_sm {t : Str} (h : ∀ c ∈ TL.tl t, c < 1000) : PyData.strOk t = true := by
  unfold PyData.strOk
  rw [← Array.all_toList]
  refine List.all_eq_true.mpr fun c hc => decide_eq_true ?_
  have := h c hc
  omega
theorem LayD_sm {t : Str} (h : ∀ c ∈ TL.tl t, c < 1000) : LayD (.str t) := ⟨strOk_sm h, Nat.zero_le _⟩
theorem ne_nil {xs : List PyData} {Q : PyData → Prop} (hx : ∀ x ∈ xs, LayD x) (h : Q (.bool (!xs.isEmpty))) : neW (.list xs) (.list []) Q := by
  refine ⟨?_, ?_⟩
  · unfold eqOk
    rw [shaped_layL hx]
    simp
    exact .inr rfl
  · rw [eqv_nil]
    exact h
theorem strW_n {n : Nat} {Q : PyData → Prop} (h : n < 1000) (k : Q (.str (nT n))) : strW (.int (n : Nat)) Q := ⟨log_nat h, k⟩
theorem addW_s {a b : Str} {Q : PyData → Prop} (h : a.length + b.length ≤ 1000) (k : Q (.str (a ++ b))) : addW (.str a) (.str b) Q := ⟨sz_le h, k⟩
theorem v_law_text (ls : List L) (M : Ms) (q : DQ) (hl : ls.length = 1) (h : sp_law_text ls M q) : bodySp 4 b_law_text ls M q := by
  obtain ⟨n, ps, rfl, hw, h⟩ := h
  have h10 := hw.2.1
  have hlen := hw.len
  unfold b_law_text eW eL
  walk_at "ew"
  refine lc_T (ps.map eP) (fun k hk => by walk_at "ew"; exact hk) ?_
  walk_at "wi"
  refine lcN_map0 (fun y => .str (lT (unP y))) (fun y hy Q E hQ => ?_) (by rw [List.length_map]; omega) (fun zs hzs => ?_)
  · obtain ⟨p, hp, rfl⟩ := List.mem_map.mp hy
    have := hw.lt p hp
    rw [unP_eP] at hQ
    unfold eP
    walk_at "ew"
    have n1 := nT_len this.1
    have n2 := nT_len this.2
    have n3 : (Str.ofString "-").length = 1 := by decide +kernel
    refine strW_n this.1 (addW_s (by omega) (strW_n this.2 (addW_s (by rw [str_len]; omega) ?_)))
    exact hQ
  have e2 : zs = (ps.map lT).map .str := by
    rw [hzs, List.map_map, List.map_map]
    exact List.map_congr_left fun p _ => by simp [unP_eP]
  rw [e2]
  walk_at "ew"
  have n1 := nT_len (n := n) (by omega)
  have n3 : (Str.ofString ": ").length = 2 := by decide +kernel
  have tl := tT_len hw.lt hlen
  refine strW_n (by omega) (addW_s (by omega) (ne_nil (fun x hx => ?_) ⟨_, rfl, ?_⟩))
  · obtain ⟨t, ht, rfl⟩ := List.mem_map.mp hx
    obtain ⟨p, _, rfl⟩ := List.mem_map.mp ht
    exact LayD_sm (lT_sm p)
  by_cases c : ps = []
  · subst c
    refine iteF2 rfl (addW_s ?_ h)
    rw [str_len]
    have : (Str.ofString "none").length = 4 := by decide +kernel
    omega
  · refine iteT2 (by simpa using c) ?_
    have ew : webT n ps = nT n ++ ": " ++ Txt.join " " (ps.map lT) := by
      unfold webT tT
      rw [if_neg c]
    have et : tT ps = Txt.join " " (ps.map lT) := by
      unfold tT
      rw [if_neg c]
    rw [ew] at h
    rw [et] at tl
    unfold dJoin
    walk_at "ew"
    refine ⟨⟨_, rfl⟩, _, .inl rfl, ?_, ?_⟩
    · have e1 := lTs_sum hw.lt
      have e3 : (Str.ofString " ").length = 1 := by decide +kernel
      rw [e3, List.length_map]
      omega
    · exact addW_s (by rw [str_len]; omega) h
theorem seq5 {A B C D E R : DS} {d : DEnds} {η : Ev} {M : Ms} (h : dSeq (dSeq A (dSeq B (dSeq C (dSeq D E)))) R d η M) : dSeq A (dSeq B (dSeq C (dSeq D (dSeq E R)))) d η M := h
theorem adj_of {n : Nat} {ps qs : List Pr} (hn : 2 ≤ n ∧ n ≤ 10) (hs : qs.Pairwise ltPr) (hp : ∀ p ∈ qs, p.1 < p.2 ∧ p.2 < n) : WebP n qs := ⟨hn.1, hn.2, hs, hp⟩
theorem pairs_45 : ∀ n, n < 11 → (pairsN n).length ≤ 45 := by decide
theorem vlaw (cs : Cls) (ls : List L) (M : Ms) (q : DQ) (hl : ls.length = 1) (h : splaw cs ls M q) : bodySp 13 (blaw cs) ls M q := by
  obtain ⟨ns, rfl, hns, h⟩ := h
  unfold blaw
  walk_at "ew"
  simp only [sp_law_deck]
  refine ⟨ns, rfl, hns, fun a l M1 D1 _ _ => ?_⟩
  refine for_r1 12 (by decide) (fun k hk => by walk_at "ew"; exact hk) ?_
  refine loop_inv (fun k η M' => DeckAt a l M' ∧ ∃ x2 x3 x4 x5 x6 x7 x8 x9 x10 x11 x12 : Option L, η = [some (L.d (.list (ns.map .int))), some (L.p a), x2, x3, x4, x5, x6, x7, x8, x9, x10, x11, x12]) ?_ ?_ ⟨D1, _, _, _, _, _, _, _, _, _, _, _, rfl⟩
  · rintro k x η M2 nx hk ⟨D2, x2, x3, x4, x5, x6, x7, x8, x9, x10, x11, x12, rfl⟩ hnx
    obtain ⟨hk, rfl⟩ := rangeD_at hk
    rw [Int.zero_add]
    simp only [gN, List.set_cons_succ, List.set_cons_zero]
    refine seq5 (seq_inv (fun η' M' => ∃ (n : Nat) (ps : List Pr) (m : Nat) (qs : List Pr), WebP n ps ∧ WebP m qs ∧ (n ≠ m ∨ ps ≠ qs) ∧ DeckAt a l M' ∧ ∃ x4 x5 x7 x8 x9 x10 x11 x12 : Option L, η' = [some (L.d (.list (ns.map .int))), some (L.p a), some (.d (.int (k : Nat))), some (.d (eW n ps)), x4, x5, some (.d (eW m qs)), x7, x8, x9, x10, x11, x12]) (fun nx2 hn2 => ?_) ?_)
    · walk_at "ew"
      simp only [sp_law_draw]
      walk_at "ew"
      refine ⟨l, D2, fun r M3 r0 r1 D3 _ => ?_⟩
      obtain ⟨m, rfl⟩ := Int.eq_ofNat_of_zero_le r0
      have hm : m < 9 := by omega
      rw [show (2 : Int) + (m : Int) = ((2 + m : Nat) : Int) by omega]
      refine ⟨a, l, 2 + m, rfl, D3, by omega, fun A M4 sy ir D4 _ => ?_⟩
      have hn2' : 2 ≤ 2 + m := by omega
      have hn10 : 2 + m ≤ 10 := by omega
      generalize 2 + m = n at hn2' hn10
      generalize hps : lnsA n A = ps
      have hw : WebP n ps := ⟨hn2', hn10, by rw [← hps]; exact lnsA_sorted n A, fun p hp => by rw [← hps] at hp; have := mem_lnsA.mp hp; exact ⟨this.1, this.2.1⟩⟩
      have hlen := hw.len
      unfold eW eL
      walk_at "ew"
      refine ⟨n, rfl, by omega, ?_⟩
      have pl := pairsN_le n (by omega)
      refine ⟨a, l, _, rfl, D4, ?_, ?_, fun x M5 hx D5 _ => ?_⟩
      · intro e
        have : (0, 1) ∈ pairsN n := mem_pairsN.mpr ⟨by decide, by show 1 < n; omega⟩
        rw [List.map_eq_nil_iff.mp e] at this
        cases this
      · rw [List.length_map]
        omega
      obtain ⟨p, hp, rfl⟩ := List.mem_map.mp hx
      have hp2 := mem_pairsN.mp hp
      have done : ∀ qs : List Pr, WebP n qs → ps ≠ qs → ∀ z : L, (if ((k : Int) % 4 == 3) = true then if decide ((n : Int) < 10) = true then nx2 [some (L.d (.list (ns.map .int))), some (L.p a), some (.d (.int (k : Nat))), some (.d (.tuple [.int (n : Nat), .tuple (ps.map eP)])), some (.d (eP p)), some z, some (.d (.tuple [.int ((n : Int) + 1), .tuple (ps.map eP)])), x7, x8, x9, x10, x11, x12] M5 else nx2 [some (L.d (.list (ns.map .int))), some (L.p a), some (.d (.int (k : Nat))), some (.d (.tuple [.int (n : Nat), .tuple (ps.map eP)])), some (.d (eP p)), some z, some (.d (.tuple [.int (n : Nat), .tuple (qs.map eP)])), x7, x8, x9, x10, x11, x12] M5 else nx2 [some (L.d (.list (ns.map .int))), some (L.p a), some (.d (.int (k : Nat))), some (.d (.tuple [.int (n : Nat), .tuple (ps.map eP)])), some (.d (eP p)), some z, some (.d (.tuple [.int (n : Nat), .tuple (qs.map eP)])), x7, x8, x9, x10, x11, x12] M5) := by
        rintro qs hq ne z
        have g : nx2 [some (L.d (.list (ns.map .int))), some (L.p a), some (.d (.int (k : Nat))), some (.d (.tuple [.int (n : Nat), .tuple (ps.map eP)])), some (.d (eP p)), some z, some (.d (.tuple [.int (n : Nat), .tuple (qs.map eP)])), x7, x8, x9, x10, x11, x12] M5 := hn2 _ _ ⟨n, ps, n, qs, hw, hq, .inr ne, D5, _, _, _, _, _, _, _, _, rfl⟩
        split
        · split
          · rename_i c
            have c := of_decide_eq_true c
            refine hn2 _ _ ⟨n, ps, n + 1, ps, hw, ⟨by omega, by omega, hw.2.2.1, fun p hp => ?_⟩, .inl (by omega), D5, _, _, _, _, _, _, _, _, rfl⟩
            have := hw.2.2.2 p hp
            omega
          · exact g
        · exact g
      rw [dBin_d]
      refine ⟨shaped_eL ps, ?_⟩
      rw [any_eP]
      by_cases c : p ∈ ps
      · refine ⟨_, rfl, iteT2 (by simp [c]) ?_⟩
        refine lc_T (ps.map eP) (fun k hk => by walk_at "ew"; exact hk) ?_
        walk_at "wi"
        refine lcN_filt0 (fun y => !decide (unP y = p)) id (fun y hy Q E h1 h2 => ?_) (by rw [List.length_map]; omega) (fun zs hzs => ?_)
        · obtain ⟨r, hr, rfl⟩ := List.mem_map.mp hy
          rw [unP_eP] at h1 h2
          walk_at "ew"
          refine ⟨by unfold eqOk; rw [shaped_eP, shaped_eP]; simp, _, rfl, ?_⟩
          rw [eqv_eP]
          by_cases c2 : r = p
          · exact iteF2 (by simp [c2]) (h2 (by simp [c2]))
          · exact iteT2 (by simp [c2]) (h1 (by simp [c2]))
        have ez : zs = (ps.filter fun r => !decide (r = p)).map eP := by
          rw [hzs, List.filter_map, List.map_map]
          have e1 : ((fun y => !decide (unP y = p)) ∘ eP) = fun r => !decide (r = p) := funext fun r => by simp only [Function.comp, unP_eP]
          rw [e1]
          rfl
        rw [ez]
        walk_at "ew"
        refine done _ ⟨hn2', hn10, hw.2.2.1.sublist List.filter_sublist, fun r hr => hw.2.2.2 r (List.mem_filter.mp hr).1⟩ (fun e => ?_) _
        rw [e] at c
        have := (List.mem_filter.mp c).2
        simp at this
      · refine ⟨_, rfl, iteF2 (by simp [c]) ?_⟩
        refine ⟨[eP p], rfl, by simp, by rw [List.length_map]; simp; omega, ?_⟩
        rw [show ps.map eP ++ [eP p] = (ps ++ [p]).map eP by simp]
        have p45 := pairs_45 n (by omega)
        have pl45 : ps.length ≤ 45 := by
          rw [← hps]
          exact Nat.le_trans (lnsA_sub n A).length_le p45
        have nd : (ps ++ [p]).Nodup := by
          refine List.nodup_append.mpr ⟨nodup_of_ltPr hw.2.2.1, by simp, fun x hx y hy e => ?_⟩
          rw [List.mem_singleton.mp hy] at e
          exact c (e ▸ hx)
        refine sortAW_eP (by rw [List.length_append, List.length_singleton]; omega) (fun r hr => ?_) nd fun ms hm hs => ?_
        · rcases List.mem_append.mp hr with hr | hr
          · exact hw.lt r hr
          · rw [List.mem_singleton.mp hr]
            omega
        have hq : WebP n ms := ⟨hn2', hn10, hs, fun r hr => ?_⟩
        · walk_at "ew"
          exact done ms hq (fun e => c (by rw [e]; exact hm.mem_iff.mpr (by simp))) _
        · rcases List.mem_append.mp (hm.mem_iff.mp hr) with hr | hr
          · exact hw.2.2.2 r hr
          · rw [List.mem_singleton.mp hr]
            exact hp2
    · rintro η' M3 ⟨n, ps, m, qs, hw, hq, ne, D3, x4, x5, x7, x8, x9, x10, x11, x12, rfl⟩
      refine seq_inv (fun η' M' => DeckAt a l M' ∧ ∃ x7 x8 x9 x10 x11 : Option L, η' = [some (L.d (.list (ns.map .int))), some (L.p a), some (.d (.int (k : Nat))), some (.d (eW n ps)), x4, x5, some (.d (eW m qs)), x7, x8, x9, x10, x11, x12]) (fun nx2 hn2 => ?_) ?_
      · refine for_T [eW n ps, eW m qs] (fun k hk => by walk_at "ew"; exact hk) ?_
        refine loop_inv (fun _ η' M' => DeckAt a l M' ∧ ∃ x7 x8 x9 x10 x11 : Option L, η' = [some (L.d (.list (ns.map .int))), some (L.p a), some (.d (.int (k : Nat))), some (.d (eW n ps)), x4, x5, some (.d (eW m qs)), x7, x8, x9, x10, x11, x12]) ?_ ?_ ⟨D3, _, _, _, _, _, rfl⟩
        · rintro j x η M4 nx3 hj ⟨D4, y7, y8, y9, y10, y11, rfl⟩ hn3
          obtain ⟨t, rs, hr, rfl⟩ : ∃ t rs, WebP t rs ∧ x = eW t rs := by
            have := List.mem_of_getElem? hj
            simp only [List.mem_cons, List.not_mem_nil, or_false] at this
            rcases this with rfl | rfl
            · exact ⟨n, ps, hw, rfl⟩
            · exact ⟨m, qs, hq, rfl⟩
          walk_at "ew"
          have szW : Sz 3 202 (eW t rs) := by
            rw [lns_of_sorted hr.2.2.1 hr.2.2.2]
            exact .of (b := true) (Sm_eW (by have := hr.2.1; omega))
          have szT : Sz 3 605 (.str (webT t rs)) := sz_str (webT_sm t rs) (webT_len (by have := hr.2.1; omega) hr.lt hr.len)
          have okL : okR (.list [.str (webT t rs), .str (webT t rs), eW t rs, eW t rs]) := (Sz.lstA (.cons szT (.cons szT (.cons szW (.cons szW .nil))))).ok
          refine ⟨szW.ok, t, rs, rfl, hr, t, rs, rfl, hr, t, rs, rfl, hr, fun M5 g5 => ⟨t, rs, rfl, hr, t, rs, rfl, hr, fun M6 g6 => ?_⟩⟩
          have D6 : DeckAt a l M6 := by
            obtain ⟨ds, st, a1, a2, a3⟩ := D4
            exact ⟨ds, st, g6.get (g5.get a1), g6.get (g5.get a2), a3⟩
          walk_at "ew"
          exact ⟨okL, okL, szW.ok, hn3 _ _ ⟨D6, _, _, _, _, _, rfl⟩⟩
        · rintro η' M4 ⟨D4, y7, y8, y9, y10, y11, rfl⟩
          exact hn2 _ _ ⟨D4, _, _, _, _, _, rfl⟩
      · rintro η' M4 ⟨D4, y7, y8, y9, y10, y11, rfl⟩
        walk_at "ew"
        simp only [spweb_text]
        refine ⟨n, ps, rfl, hw, m, qs, rfl, hq, ?_⟩
        walk_at "ew"
        refine iteF2 (decide_eq_false fun e => ?_) (hnx _ _ ⟨D4, _, _, _, _, _, _, _, _, _, _, _, rfl⟩)
        obtain ⟨e1, e2⟩ := webT_inj e
        rcases ne with ne | ne
        · exact ne e1
        · exact ne e2
  · rintro η M2 ⟨D2, x2, x3, x4, x5, x6, x7, x8, x9, x10, x11, x12, rfl⟩
    walk_at "ew"
    exact h M2

end NS
end
namespace NS
open WB
section
open PySem PySem.Spec PyProof.Rows L2 DL
def topS (i : Nat) : Stmt := PySem.Challenge.pw_oddlines_k04_whole_texts_of_webs.main.body.getD i (.Pass ⟨0, 0, 0, 0⟩)
abbrev stis_int_between : Stmt := topS 6
theorem scis_int_between : FnScope ["value", "low", "high"] ["value", "low", "high"] (defScope stis_int_between) := ⟨rfl, rfl, rfl, by decide +kernel, rfl, by decide +kernel, by decide +kernel⟩
abbrev stis_pair : Stmt := topS 7
theorem scis_pair : FnScope ["value"] ["value"] (defScope stis_pair) := ⟨rfl, rfl, rfl, by decide +kernel, rfl, by decide +kernel, by decide +kernel⟩
abbrev st_is_line : Stmt := topS 9
theorem sc_is_line : FnScope ["many", "value", "low", "high"] ["many", "value"] (defScope st_is_line) := ⟨rfl, rfl, rfl, by decide +kernel, rfl, by decide +kernel, by decide +kernel⟩
abbrev stweb_error : Stmt := topS 10
theorem scweb_error : FnScope ["value", "many", "lines", "place", "line"] ["value"] (defScope stweb_error) := ⟨rfl, rfl, rfl, by decide +kernel, rfl, by decide +kernel, by decide +kernel⟩
abbrev stweb_text : Stmt := topS 12
theorem scweb_text : FnScope ["web", "many", "lines", "words", "a", "b"] ["web"] (defScope stweb_text) := ⟨rfl, rfl, rfl, by decide +kernel, rfl, by decide +kernel, by decide +kernel⟩
abbrev st_web_told : Stmt := topS 13
theorem sc_web_told : FnScope ["value", "head", "_", "tail", "counts", "count", "many", "pairs", "a", "b", "words", "word"] ["value"] (defScope st_web_told) := ⟨rfl, rfl, rfl, by decide +kernel, rfl, by decide +kernel, by decide +kernel⟩
abbrev stread_web : Stmt := topS 14
theorem scread_web : FnScope ["value", "web"] ["value"] (defScope stread_web) := ⟨rfl, rfl, rfl, by decide +kernel, rfl, by decide +kernel, by decide +kernel⟩
abbrev st_law_deck : Stmt := topS 16
theorem sc_law_deck : FnScope ["script", "deck", "cell", "whole", "state"] ["script"] (defScope st_law_deck) := ⟨rfl, rfl, rfl, by decide +kernel, rfl, by decide +kernel, by decide +kernel⟩
abbrev st_law_draw : Stmt := topS 17
theorem sc_law_draw : FnScope ["deck", "many", "whole", "one", "two"] ["deck", "many"] (defScope st_law_draw) := ⟨rfl, rfl, rfl, by decide +kernel, rfl, by decide +kernel, by decide +kernel⟩
abbrev st_law_pick : Stmt := topS 18
theorem sc_law_pick : FnScope ["deck", "items"] ["deck", "items"] (defScope st_law_pick) := ⟨rfl, rfl, rfl, by decide +kernel, rfl, by decide +kernel, by decide +kernel⟩
abbrev st_law_pairs : Stmt := topS 19
theorem sc_law_pairs : FnScope ["many", "found", "a", "b"] ["many"] (defScope st_law_pairs) := ⟨rfl, rfl, rfl, by decide +kernel, rfl, by decide +kernel, by decide +kernel⟩
abbrev st_law_web : Stmt := topS 20
theorem sc_law_web : FnScope ["deck", "many", "dense", "pair"] ["deck", "many"] (defScope st_law_web) := ⟨rfl, rfl, rfl, by decide +kernel, rfl, by decide +kernel, by decide +kernel⟩
abbrev st_law_text : Stmt := topS 21
theorem sc_law_text : FnScope ["web", "lines", "a", "b"] ["web"] (defScope st_law_text) := ⟨rfl, rfl, rfl, by decide +kernel, rfl, by decide +kernel, by decide +kernel⟩
abbrev stlaw : Stmt := topS 22
theorem sclaw : FnScope ["script", "deck", "turn", "web", "pair", "lines", "other", "own", "told", "read", "known", "due", "line"] ["script"] (defScope stlaw) := ⟨rfl, rfl, rfl, by decide +kernel, rfl, by decide +kernel, by decide +kernel⟩
def clsB : Stmt → List Stmt
  | .ClassDef _ _ _ b _ _ _ _ _ _ _ => b
  | _ => []
def inS (i j : Nat) : Stmt := (clsB (topS i)).getD j (.Pass ⟨0, 0, 0, 0⟩)
structure Txt (K : PySem.W.Frag) (mg : Str → Option Value) where
  cs : Cls
  GBadText : mg "BadText" = some (.ref cs.aBadText)
  q_BadText : PySem.W.excIn K cs.aBadText [.type "ValueError", .type "Exception", .type "BaseException", .type "object"] "ValueError.__new__" = true
  kp_BadText : PySem.W.keepIn K (.ref cs.aBadText) = true
  sb_BadText : PySem.W.subIn K (.ref cs.aBadText) (.type "BaseException") = some true
  tp_BadText : PySem.W.typeIn K (.ref cs.aBadText) = some (.type "type")
  g_combinations : mg "combinations" = some (.type "itertools.combinations")
  ais_int_between : Addr
  fis_int_between : FuncData
  Fis_int_between : Fun K "is_int_between" "is_int_between" stis_int_between ais_int_between fis_int_between
  gis_int_between : mg "is_int_between" = some (.ref ais_int_between)
  ais_pair : Addr
  fis_pair : FuncData
  Fis_pair : Fun K "is_pair" "is_pair" stis_pair ais_pair fis_pair
  gis_pair : mg "is_pair" = some (.ref ais_pair)
  a_is_line : Addr
  f_is_line : FuncData
  F_is_line : Fun K "_is_line" "_is_line" st_is_line a_is_line f_is_line
  g_is_line : mg "_is_line" = some (.ref a_is_line)
  aweb_error : Addr
  fweb_error : FuncData
  Fweb_error : Fun K "web_error" "web_error" stweb_error aweb_error fweb_error
  gweb_error : mg "web_error" = some (.ref aweb_error)
  aweb_text : Addr
  fweb_text : FuncData
  Fweb_text : Fun K "web_text" "web_text" stweb_text aweb_text fweb_text
  gweb_text : mg "web_text" = some (.ref aweb_text)
  a_web_told : Addr
  f_web_told : FuncData
  F_web_told : Fun K "_web_told" "_web_told" st_web_told a_web_told f_web_told
  g_web_told : mg "_web_told" = some (.ref a_web_told)
  aread_web : Addr
  fread_web : FuncData
  Fread_web : Fun K "read_web" "read_web" stread_web aread_web fread_web
  gread_web : mg "read_web" = some (.ref aread_web)
  a_law_deck : Addr
  f_law_deck : FuncData
  F_law_deck : Fun K "_law_deck" "_law_deck" st_law_deck a_law_deck f_law_deck
  g_law_deck : mg "_law_deck" = some (.ref a_law_deck)
  a_law_draw : Addr
  f_law_draw : FuncData
  F_law_draw : Fun K "_law_draw" "_law_draw" st_law_draw a_law_draw f_law_draw
  g_law_draw : mg "_law_draw" = some (.ref a_law_draw)
  a_law_pick : Addr
  f_law_pick : FuncData
  F_law_pick : Fun K "_law_pick" "_law_pick" st_law_pick a_law_pick f_law_pick
  g_law_pick : mg "_law_pick" = some (.ref a_law_pick)
  a_law_pairs : Addr
  f_law_pairs : FuncData
  F_law_pairs : Fun K "_law_pairs" "_law_pairs" st_law_pairs a_law_pairs f_law_pairs
  g_law_pairs : mg "_law_pairs" = some (.ref a_law_pairs)
  a_law_web : Addr
  f_law_web : FuncData
  F_law_web : Fun K "_law_web" "_law_web" st_law_web a_law_web f_law_web
  g_law_web : mg "_law_web" = some (.ref a_law_web)
  a_law_text : Addr
  f_law_text : FuncData
  F_law_text : Fun K "_law_text" "_law_text" st_law_text a_law_text f_law_text
  g_law_text : mg "_law_text" = some (.ref a_law_text)
  alaw : Addr
  flaw : FuncData
  Flaw : Fun K "law" "law" stlaw alaw flaw
  glaw : mg "law" = some (.ref alaw)
  m_abs : mg "abs" = none
  m_bool : mg "bool" = none
  m_enumerate : mg "enumerate" = none
  m_int : mg "int" = none
  m_isinstance : mg "isinstance" = none
  m_len : mg "len" = none
  m_list : mg "list" = none
  m_range : mg "range" = none
  m_repr : mg "repr" = none
  m_sorted : mg "sorted" = none
  m_str : mg "str" = none
  m_tuple : mg "tuple" = none
  c_MAX_PEOPLE : ∃ t, mg "MAX_PEOPLE" = some (.int 10 t)
variable {P : Program} {w : World} {K : PySem.W.Frag} {mg : Str → Option Value} {base : Heap}
theorem biis_int_between (T : Txt K mg) : Binds K T.fis_int_between ["value", "low", "high"] [] := T.Fis_int_between.binds (ps := ["value", "low", "high"]) fun _ _ _ _ _ _ us hl => match us, hl with | [_, _, _], _ => rfl
theorem biis_pair (T : Txt K mg) : Binds K T.fis_pair ["value"] [] := T.Fis_pair.binds (ps := ["value"]) fun _ _ _ _ _ _ us hl => match us, hl with | [_], _ => rfl
theorem bi_is_line (T : Txt K mg) : Binds K T.f_is_line ["many", "value"] [] := T.F_is_line.binds (ps := ["many", "value"]) fun _ _ _ _ _ _ us hl => match us, hl with | [_, _], _ => rfl
theorem biweb_error (T : Txt K mg) : Binds K T.fweb_error ["value"] [] := T.Fweb_error.binds (ps := ["value"]) fun _ _ _ _ _ _ us hl => match us, hl with | [_], _ => rfl
theorem biweb_text (T : Txt K mg) : Binds K T.fweb_text ["web"] [] := T.Fweb_text.binds (ps := ["web"]) fun _ _ _ _ _ _ us hl => match us, hl with | [_], _ => rfl
theorem bi_web_told (T : Txt K mg) : Binds K T.f_web_told ["value"] [] := T.F_web_told.binds (ps := ["value"]) fun _ _ _ _ _ _ us hl => match us, hl with | [_], _ => rfl
theorem biread_web (T : Txt K mg) : Binds K T.fread_web ["value"] [] := T.Fread_web.binds (ps := ["value"]) fun _ _ _ _ _ _ us hl => match us, hl with | [_], _ => rfl
theorem bi_law_deck (T : Txt K mg) : Binds K T.f_law_deck ["script"] [] := T.F_law_deck.binds (ps := ["script"]) fun _ _ _ _ _ _ us hl => match us, hl with | [_], _ => rfl
theorem bi_law_draw (T : Txt K mg) : Binds K T.f_law_draw ["deck", "many"] [] := T.F_law_draw.binds (ps := ["deck", "many"]) fun _ _ _ _ _ _ us hl => match us, hl with | [_, _], _ => rfl
theorem bi_law_pick (T : Txt K mg) : Binds K T.f_law_pick ["deck", "items"] [] := T.F_law_pick.binds (ps := ["deck", "items"]) fun _ _ _ _ _ _ us hl => match us, hl with | [_, _], _ => rfl
theorem bi_law_pairs (T : Txt K mg) : Binds K T.f_law_pairs ["many"] [] := T.F_law_pairs.binds (ps := ["many"]) fun _ _ _ _ _ _ us hl => match us, hl with | [_], _ => rfl
theorem bi_law_web (T : Txt K mg) : Binds K T.f_law_web ["deck", "many"] [] := T.F_law_web.binds (ps := ["deck", "many"]) fun _ _ _ _ _ _ us hl => match us, hl with | [_, _], _ => rfl
theorem bi_law_text (T : Txt K mg) : Binds K T.f_law_text ["web"] [] := T.F_law_text.binds (ps := ["web"]) fun _ _ _ _ _ _ us hl => match us, hl with | [_], _ => rfl
theorem bilaw (T : Txt K mg) : Binds K T.flaw ["script"] [] := T.Flaw.binds (ps := ["script"]) fun _ _ _ _ _ _ us hl => match us, hl with | [_], _ => rfl
theorem kb_kw1_web_text (T : Txt K mg) : KBinds K T.fweb_text ["web"] ["web"] kw1 kw1 := Fun.kbinds T.Fweb_text (fun _ _ _ _ _ _ us ws hl => match us, ws, hl with | [], [_], _ => rfl) kw1_rel
theorem kb_kw1_read_web (T : Txt K mg) : KBinds K T.fread_web ["value"] ["value"] kw1 kw1 := Fun.kbinds T.Fread_web (fun _ _ _ _ _ _ us ws hl => match us, ws, hl with | [], [_], _ => rfl) kw1_rel
theorem dis_int_between (T : Txt K mg) (cdv : Value) (A : Around) (outer : List Env) (s : Shared) (H : Hp) (E : XK) (G : GH) (hr : RoomG 0 (A.deeper (envOfC "is_int_between" (defScope stis_int_between) s.heap.objs.size T.ais_int_between cdv))) :
    PXB (cxOf CX0 P w K mg base ["value", "low", "high"] "is_int_between" (defScope stis_int_between) T.ais_int_between cdv A outer s H E).nox G (defBody stis_int_between) bis_int_between :=
  (pxb_one (pxs_ret (px_and (px_callB call_isi cd_isi T.m_isinstance boot_isinstance (pxa_cons (px_v 0) (pxa_cons (px_ty T.m_int boot_int) pxa_nil))) (px_and (px_not (px_callB call_isi cd_isi T.m_isinstance boot_isinstance (pxa_cons (px_v 0) (pxa_cons (px_ty T.m_bool boot_bool) pxa_nil)))) (px_one (x_lele hr (px_v 1) (px_v 0) (px_v 2)))))))
theorem okis_int_between (T : Txt K mg) : FnG P w K mg base CX0 1 T.ais_int_between T.fis_int_between ["value", "low", "high"] (LSp K 3 spis_int_between) :=
  okD T.Fis_int_between scis_int_between (fun cdv A outer s H E G hr => dis_int_between T cdv A outer s H E G hr) fun ls M q hl h => vis_int_between ls M q hl h
theorem dis_pair (T : Txt K mg) (cdv : Value) (A : Around) (outer : List Env) (s : Shared) (H : Hp) (E : XK) (G : GH) (hr : RoomG 0 (A.deeper (envOfC "is_pair" (defScope stis_pair) s.heap.objs.size T.ais_pair cdv))) :
    PXB (cxOf CX0 P w K mg base ["value"] "is_pair" (defScope stis_pair) T.ais_pair cdv A outer s H E).nox G (defBody stis_pair) bis_pair :=
  (pxb_one (pxs_ret (px_and (px_callB call_isi cd_isi T.m_isinstance boot_isinstance (pxa_cons (px_v 0) (pxa_cons (px_ty T.m_tuple boot_tuple) pxa_nil))) (px_one (x_eq hr (px_callB call_len cd_len T.m_len PySem.boot_len (pxa_cons (px_v 0) pxa_nil)) px_int)))))
theorem okis_pair (T : Txt K mg) : FnG P w K mg base CX0 1 T.ais_pair T.fis_pair ["value"] (LSp K 1 spis_pair) :=
  okD T.Fis_pair scis_pair (fun cdv A outer s H E G hr => dis_pair T cdv A outer s H E G hr) fun ls M q hl h => vis_pair ls M q hl h
theorem d_is_line (T : Txt K mg) (cdv : Value) (A : Around) (outer : List Env) (s : Shared) (H : Hp) (E : XK) (G : GH) (hr : RoomG 1 (A.deeper (envOfC "_is_line" (defScope st_is_line) s.heap.objs.size T.a_is_line cdv))) :
    PXB (cxOf CX0 P w K mg base ["many", "value", "low", "high"] "_is_line" (defScope st_is_line) T.a_is_line cdv A outer s H E).nox G (defBody st_is_line) b_is_line :=
  (pxb_cons (pxs_if (pxt_not (pxt_val (px_call (okis_pair T) (hr.mono (by decide)) T.gis_pair T.Fis_pair.kp (biis_pair T) (pxa_cons (px_v 1) pxa_nil)))) (pxb_one (pxs_ret px_bl)) pxb_nil)
  (pxb_cons (pxs_asg (px_v 1) (pxg_tup rfl (pxg_cons (pxg_name 2 sc_is_line.nd) (pxg_cons (pxg_name 3 sc_is_line.nd) pxg_nil))))
  (pxb_one (pxs_ret (px_and (px_call (okis_int_between T) (hr.mono (by decide)) T.gis_int_between T.Fis_int_between.kp (biis_int_between T) (pxa_cons (px_v 3) (pxa_cons px_int (pxa_cons (px_sub (px_v 0) px_int) pxa_nil)))) (px_one (px_call (okis_int_between T) (hr.mono (by decide)) T.gis_int_between T.Fis_int_between.kp (biis_int_between T) (pxa_cons (px_v 2) (pxa_cons px_int (pxa_cons (px_sub (px_v 3) px_int) pxa_nil))))))))))
theorem ok_is_line (T : Txt K mg) : FnG P w K mg base CX0 2 T.a_is_line T.f_is_line ["many", "value"] (LSp K 2 sp_is_line) :=
  okD T.F_is_line sc_is_line (fun cdv A outer s H E G hr => d_is_line T cdv A outer s H E G hr) fun ls M q hl h => v_is_line ls M q hl h
theorem dweb_error (T : Txt K mg) (cdv : Value) (A : Around) (outer : List Env) (s : Shared) (H : Hp) (E : XK) (G : GH) (hr : RoomG 2 (A.deeper (envOfC "web_error" (defScope stweb_error) s.heap.objs.size T.aweb_error cdv))) :
    PXB (cxOf CX0 P w K mg base ["value", "many", "lines", "place", "line"] "web_error" (defScope stweb_error) T.aweb_error cdv A outer s H E).nox G (defBody stweb_error) bweb_error :=
  (pxb_cons (pxs_if (pxt_w (pxw_or (pxt_not (pxt_val (px_call (okis_pair T) (hr.mono (by decide)) T.gis_pair T.Fis_pair.kp (biis_pair T) (pxa_cons (px_v 0) pxa_nil)))) (pxw_or1 (pxt_not (pxt_val (px_callB call_isi cd_isi T.m_isinstance boot_isinstance (pxa_cons (px_ix (px_v 0) px_int) (pxa_cons (px_ty T.m_tuple boot_tuple) pxa_nil)))))))) (pxb_one (pxs_ret px_str)) pxb_nil)
  (pxb_cons (pxs_asg (px_v 0) (pxg_tup rfl (pxg_cons (pxg_name 1 scweb_error.nd) (pxg_cons (pxg_name 2 scweb_error.nd) pxg_nil))))
  (pxb_cons (pxs_if (pxt_not (pxt_val (px_call (okis_int_between T) (hr.mono (by decide)) T.gis_int_between T.Fis_int_between.kp (biis_int_between T) (pxa_cons (px_v 1) (pxa_cons px_int (pxa_cons (px_glob (v := .int 10) (by rfl) T.c_MAX_PEOPLE.choose_spec ⟨_, rfl⟩ fun _ => .int _) pxa_nil)))))) (pxb_one (pxs_ret px_str)) pxb_nil)
  (pxb_cons (pxs_for rfl (pxi_enumS T.m_enumerate (pxa_cons (px_v 2) pxa_nil)) (pxg_tup rfl (pxg_cons (pxg_name 3 scweb_error.nd) (pxg_cons (pxg_name 4 scweb_error.nd) pxg_nil))) (pxb_one (pxs_if (pxt_not (pxt_val (px_call (ok_is_line T) (hr.mono (by decide)) T.g_is_line T.F_is_line.kp (bi_is_line T) (pxa_cons (px_v 1) (pxa_cons (px_v 4) pxa_nil))))) (pxb_one (pxs_ret (px_tup (pxa_cons px_str (pxa_cons (px_v 3) pxa_nil))))) pxb_nil)) PassesOwn.never)
  (pxb_cons (pxs_for rfl (pxi_range2 T.m_range (pxa_cons px_int (pxa_cons (px_callB call_len cd_len T.m_len PySem.boot_len (pxa_cons (px_v 2) pxa_nil)) pxa_nil))) (pxg_name 3 scweb_error.nd) (pxb_one (pxs_if (t_le hr (px_ix (px_v 2) (px_v 3)) (px_ix (px_v 2) (px_sub (px_v 3) px_int))) (pxb_one (pxs_ret (px_tup (pxa_cons px_str (pxa_cons (px_v 3) pxa_nil))))) pxb_nil)) PassesOwn.never)
  (pxb_one (pxs_ret px_non)))))))
theorem okweb_error (T : Txt K mg) : FnG P w K mg base CX0 3 T.aweb_error T.fweb_error ["value"] (LSp K 1 spweb_error) :=
  okD T.Fweb_error scweb_error (fun cdv A outer s H E G hr => dweb_error T cdv A outer s H E G hr) fun ls M q hl h => vweb_error ls M q hl h
theorem dweb_text (T : Txt K mg) (cdv : Value) (A : Around) (outer : List Env) (s : Shared) (H : Hp) (E : XK) (G : GH) (hr : RoomG 0 (A.deeper (envOfC "web_text" (defScope stweb_text) s.heap.objs.size T.aweb_text cdv))) :
    PXB (cxOf CX0 P w K mg base ["web", "many", "lines", "words", "a", "b"] "web_text" (defScope stweb_text) T.aweb_text cdv A outer s H E).nox G (defBody stweb_text) bweb_text :=
  (pxb_cons (pxs_asg (px_v 0) (pxg_tup rfl (pxg_cons (pxg_name 1 scweb_text.nd) (pxg_cons (pxg_name 2 scweb_text.nd) pxg_nil))))
  (pxb_cons (pxs_set 3 scweb_text.nd (px_if (pxt_tru (px_v 2)) (px_lc [("a", 4), ("b", 5)] (gw_tup (gw_cons (gw_name 4) (gw_cons (gw_name 5) gw_nil))) rfl scweb_text.nd (pxi_seq (px_v 2)) (by kernel_rfl) (fun _ _ _ _ _ => (pg_tup rfl (pgs_cons (pg_name (i := 4) scweb_text.nd rfl (by first | exact Or.inl rfl | exact Or.inr rfl)) (pgs_cons (pg_name (i := 5) scweb_text.nd rfl (by first | exact Or.inl rfl | exact Or.inr rfl)) pgs_nil)))) (fun _ _ _ _ _ => ptx_nil) (fun _ _ _ _ _ => (px_fs (PXJ.cons (px_fmt (px_v 4)) (PXJ.cons px_str (PXJ.cons (px_fmt (px_v 5)) PXJ.nil)))))) (px_lst (pxa_cons px_str pxa_nil))))
  (pxb_one (pxs_ret (px_join px_str (px_lst (pxa_cons (px_fs (PXJ.cons (px_fmt (px_v 1)) (PXJ.cons px_str PXJ.nil))) (pxa_star (px_v 3) pxa_nil))))))))
theorem okweb_text (T : Txt K mg) : FnG P w K mg base CX0 1 T.aweb_text T.fweb_text ["web"] (LSp K 1 spweb_text) :=
  okD T.Fweb_text scweb_text (fun cdv A outer s H E G hr => dweb_text T cdv A outer s H E G hr) fun ls M q hl h => vweb_text ls M q hl h
theorem d_web_told (T : Txt K mg) (cdv : Value) (A : Around) (outer : List Env) (s : Shared) (H : Hp) (E : XK) (G : GH) (hr : RoomG 0 (A.deeper (envOfC "_web_told" (defScope st_web_told) s.heap.objs.size T.a_web_told cdv))) :
    PXB (cxOf CX0 P w K mg base ["value", "head", "_", "tail", "counts", "count", "many", "pairs", "a", "b", "words", "word"] "_web_told" (defScope st_web_told) T.a_web_told cdv A outer s H E).nox G (defBody st_web_told) b_web_told :=
  (pxb_cons (pxs_asg (px_partn (px_v 0) px_str) (pxg_tup rfl (pxg_cons (pxg_name 1 sc_web_told.nd) (pxg_cons (pxg_name 2 sc_web_told.nd) (pxg_cons (pxg_name 3 sc_web_told.nd) pxg_nil)))))
  (pxb_cons (pxs_setDc 4 [("count", 5)] (gw_name 5) rfl sc_web_told.nd (pxi_range2 T.m_range (pxa_cons px_int (pxa_cons (px_add (px_glob (v := .int 10) (by rfl) T.c_MAX_PEOPLE.choose_spec ⟨_, rfl⟩ fun _ => .int _) px_int) pxa_nil))) (by kernel_rfl) (fun _ _ _ _ _ => (pg_name (i := 5) sc_web_told.nd rfl (by first | exact Or.inl rfl | exact Or.inr rfl))) (fun _ _ _ _ _ => ptx_nil) (fun _ _ _ _ _ => (px_callT cr_str cd_str T.m_str boot_str (pxa_cons (px_v 5) pxa_nil))) (fun _ _ _ _ _ => (px_v 5)) (sw_trueD rfl rfl rfl (by decide +kernel)))
  (pxb_cons (pxs_if (pxt_knotin hr.z (px_v 1) (px_v 4)) (pxb_one (pxs_ret px_non)) pxb_nil)
  (pxb_cons (pxs_set 6 sc_web_told.nd (px_get hr.z (px_v 4) (px_v 1)))
  (pxb_cons (pxs_set 7 sc_web_told.nd (px_dc [("a", 8), ("b", 9)] (gw_tup (gw_cons (gw_name 8) (gw_cons (gw_name 9) gw_nil))) rfl sc_web_told.nd (pxi_seq (px_listC rfl T.m_list T.m_range T.g_combinations (px_v 6))) (by kernel_rfl) (fun _ _ _ _ _ => (pg_tup rfl (pgs_cons (pg_name (i := 8) sc_web_told.nd rfl (by first | exact Or.inl rfl | exact Or.inr rfl)) (pgs_cons (pg_name (i := 9) sc_web_told.nd rfl (by first | exact Or.inl rfl | exact Or.inr rfl)) pgs_nil)))) (fun _ _ _ _ _ => ptx_nil) (fun _ _ _ _ _ => (px_fs (PXJ.cons (px_fmt (px_v 8)) (PXJ.cons px_str (PXJ.cons (px_fmt (px_v 9)) PXJ.nil))))) (fun _ _ _ _ _ => (px_tup (pxa_cons (px_v 8) (pxa_cons (px_v 9) pxa_nil))))))
  (pxb_cons (pxs_set 10 sc_web_told.nd (px_if (t_eqG hr (px_v 3) px_str) (px_lst pxa_nil) (px_split (px_v 3) px_str)))
  (pxb_one (pxs_ret (px_tup (pxa_cons (px_v 6) (pxa_cons (px_callT call_tupleP cd_tuple T.m_tuple boot_tuple (pxa_cons (px_lc [("word", 11)] (gw_name 11) rfl sc_web_told.nd (pxi_seq (px_v 10)) (by kernel_rfl) (fun _ _ _ _ _ => (pg_name (i := 11) sc_web_told.nd rfl (by first | exact Or.inl rfl | exact Or.inr rfl))) (fun _ _ _ _ _ => ptx_nil) (fun _ _ _ _ _ => (px_getO hr.z (px_v 7) (px_v 11)))) pxa_nil)) pxa_nil)))))))))))
theorem ok_web_told (T : Txt K mg) : FnG P w K mg base CX0 1 T.a_web_told T.f_web_told ["value"] (LSp K 1 sp_web_told) :=
  okD T.F_web_told sc_web_told (fun cdv A outer s H E G hr => d_web_told T cdv A outer s H E G hr) fun ls M q hl h => v_web_told ls M q hl h
theorem dread_web (T : Txt K mg) (cdv : Value) (A : Around) (outer : List Env) (s : Shared) (H : Hp) (E : XK) (G : GH) (wd : Ev → DXQ) (hr : RoomG 3 (A.deeper (envOfC "read_web" (defScope stread_web) s.heap.objs.size T.aread_web cdv)))
    (tk : Takes (cxOf (L2.CX P w) P w K mg base ["value", "web"] "read_web" (defScope stread_web) T.aread_web cdv A outer s H E) (LW K G wd)) : PXB (cxOf (L2.CX P w) P w K mg base ["value", "web"] "read_web" (defScope stread_web) T.aread_web cdv A outer s H E) G (defBody stread_web) (bread_web T.cs wd) :=
  (pxb_cons (pxs_if (pxt_not (pxt_val (px_callB call_isi cd_isi T.m_isinstance boot_isinstance (pxa_cons (px_v 0) (pxa_cons (px_ty T.m_str boot_str) pxa_nil))))) (pxb_one (pxs_raise rfl tk (pxm_bare PySem.F.excBase_ValueError T.q_BadText T.GBadText T.kp_BadText (raises_own T.sb_BadText T.tp_BadText)))) pxb_nil)
  (pxb_cons (pxs_set 1 scread_web.nd (px_call (ok_web_told T) (hr.mono (by decide)) T.g_web_told T.F_web_told.kp (bi_web_told T) (pxa_cons (px_v 0) pxa_nil)))
  (pxb_cons (pxs_if (t_isnot (px_call (okweb_error T) (hr.mono (by decide)) T.gweb_error T.Fweb_error.kp (biweb_error T) (pxa_cons (px_v 1) pxa_nil)) px_non) (pxb_one (pxs_raise rfl tk (pxm_bare PySem.F.excBase_ValueError T.q_BadText T.GBadText T.kp_BadText (raises_own T.sb_BadText T.tp_BadText)))) pxb_nil)
  (pxb_one (pxs_ret (px_v 1))))))
theorem okread_web (T : Txt K mg) : FnG P w K mg base (L2.CX P w) 4 T.aread_web T.fread_web ["value"] (LSpX K 1 (spread_web T.cs)) :=
  okDX T.Fread_web scread_web (b := bread_web T.cs) (fun cdv A outer s H E G wd hr tk => dread_web T cdv A outer s H E G wd hr tk) fun ls M q e hl h => vread_web T.cs ls M q e hl h
theorem d_law_deck (T : Txt K mg) (cdv : Value) (A : Around) (outer : List Env) (s : Shared) (H : Hp) (E : XK) (G : GH) (hr : RoomG 0 (A.deeper (envOfC "_law_deck" (defScope st_law_deck) s.heap.objs.size T.a_law_deck cdv))) :
    PXB (cxOf CX0 P w K mg base ["script", "deck", "cell", "whole", "state"] "_law_deck" (defScope st_law_deck) T.a_law_deck cdv A outer s H E).nox G (defBody st_law_deck) b_law_deck :=
  (pxb_cons (pxs_set 1 sc_law_deck.nd (px_disp (PXP.cons (key := .inr "deep") pe_str (px_lstM pxa_nil) (PXP.cons (key := .inr "state") pe_str (px_add px_int (px_callB call_len cd_len T.m_len PySem.boot_len (pxa_cons (px_sl (px_v 0) pxo_none (pxo_some px_int)) pxa_nil))) PXP.nil))))
  (pxb_cons (pxs_for rfl (pxi_seq (px_sl (px_v 0) pxo_none (pxo_some px_int))) (pxg_name 2 sc_law_deck.nd) (pxb_cons (pxs_set 3 sc_law_deck.nd (px_callB call_abs cd_abs T.m_abs boot_abs (pxa_cons (px_v 2) pxa_nil)))
  (pxb_cons (pxs_if (t_ge (px_v 3) (px_pow px_int px_int)) (pxb_one (pxs_put hr.z (px_v 1) px_str (px_catM (px_lst (pxa_cons (px_v 3) pxa_nil)) (px_get hr.z (px_v 1) px_str)))) pxb_nil)
  (pxb_cons (pxs_set 4 sc_law_deck.nd (px_add (px_mul (px_add (px_add (px_add (px_get hr.z (px_v 1) px_str) (px_mul px_int (px_v 3))) (px_callT call_int1 cd_int T.m_int boot_int (pxa_cons (x_lt hr (px_v 2) px_int) pxa_nil))) px_int) px_int) px_int))
  (pxb_one (pxs_put hr.z (px_v 1) px_str (px_mod (px_callT call_int1 cd_int T.m_int boot_int (pxa_cons (px_v 4) pxa_nil)) px_int)))))) PassesOwn.never)
  (pxb_one (pxs_ret (px_v 1)))))
theorem ok_law_deck (T : Txt K mg) : FnG P w K mg base CX0 1 T.a_law_deck T.f_law_deck ["script"] (LSp K 1 sp_law_deck) :=
  okD T.F_law_deck sc_law_deck (fun cdv A outer s H E G hr => d_law_deck T cdv A outer s H E G hr) fun ls M q hl h => v_law_deck ls M q hl h
theorem d_law_draw (T : Txt K mg) (cdv : Value) (A : Around) (outer : List Env) (s : Shared) (H : Hp) (E : XK) (G : GH) (hr : RoomG 0 (A.deeper (envOfC "_law_draw" (defScope st_law_draw) s.heap.objs.size T.a_law_draw cdv))) :
    PXB (cxOf CX0 P w K mg base ["deck", "many", "whole", "one", "two"] "_law_draw" (defScope st_law_draw) T.a_law_draw cdv A outer s H E).nox G (defBody st_law_draw) b_law_draw :=
  (pxb_cons (pxs_if (t_lt hr (px_v 1) px_int) (pxb_one (pxs_ret px_int)) pxb_nil)
  (pxb_cons (pxs_if (t_ne hr (px_get hr.z (px_v 0) px_str) (px_lst pxa_nil)) (pxb_cons (pxs_set 2 sc_law_draw.nd (px_pop (px_get hr.z (px_v 0) px_str)))
  (pxb_cons (pxs_if (t_ge (px_v 2) (px_v 1)) (pxb_one (pxs_expr (px_append (px_get hr.z (px_v 0) px_str) (px_fdiv (px_v 2) (px_v 1))))) pxb_nil)
  (pxb_one (pxs_ret (px_mod (px_callT call_int1 cd_int T.m_int boot_int (pxa_cons (px_v 2) pxa_nil)) (px_v 1)))))) pxb_nil)
  (pxb_cons (pxs_set 3 sc_law_draw.nd (px_mod (px_callT call_int1 cd_int T.m_int boot_int (pxa_cons (px_add (px_mul (px_get hr.z (px_v 0) px_str) px_int) px_int) pxa_nil)) px_int))
  (pxb_cons (pxs_put hr.z (px_v 0) px_str (px_v 3))
  (pxb_cons (pxs_set 4 sc_law_draw.nd (px_mod (px_callT call_int1 cd_int T.m_int boot_int (pxa_cons (px_add (px_add (px_mul (px_v 3) (px_v 3)) (px_mul px_int (px_v 3))) px_int) pxa_nil)) px_int))
  (pxb_one (pxs_ret (px_mod (px_callT call_int1 cd_int T.m_int boot_int (pxa_cons (px_fdiv (px_v 4) px_int) pxa_nil)) (px_v 1)))))))))
theorem ok_law_draw (T : Txt K mg) : FnG P w K mg base CX0 1 T.a_law_draw T.f_law_draw ["deck", "many"] (LSp K 2 sp_law_draw) :=
  okD T.F_law_draw sc_law_draw (fun cdv A outer s H E G hr => d_law_draw T cdv A outer s H E G hr) fun ls M q hl h => v_law_draw ls M q hl h
theorem d_law_pick (T : Txt K mg) (cdv : Value) (A : Around) (outer : List Env) (s : Shared) (H : Hp) (E : XK) (G : GH) (hr : RoomG 1 (A.deeper (envOfC "_law_pick" (defScope st_law_pick) s.heap.objs.size T.a_law_pick cdv))) :
    PXB (cxOf CX0 P w K mg base ["deck", "items"] "_law_pick" (defScope st_law_pick) T.a_law_pick cdv A outer s H E).nox G (defBody st_law_pick) b_law_pick :=
  (pxb_one (pxs_ret (px_ix (px_v 1) (px_call (ok_law_draw T) (hr.mono (by decide)) T.g_law_draw T.F_law_draw.kp (bi_law_draw T) (pxa_cons (px_v 0) (pxa_cons (px_callB call_len cd_len T.m_len PySem.boot_len (pxa_cons (px_v 1) pxa_nil)) pxa_nil))))))
theorem ok_law_pick (T : Txt K mg) : FnG P w K mg base CX0 2 T.a_law_pick T.f_law_pick ["deck", "items"] (LSp K 2 sp_law_pick) :=
  okD T.F_law_pick sc_law_pick (fun cdv A outer s H E G hr => d_law_pick T cdv A outer s H E G hr) fun ls M q hl h => v_law_pick ls M q hl h
theorem d_law_pairs (T : Txt K mg) (cdv : Value) (A : Around) (outer : List Env) (s : Shared) (H : Hp) (E : XK) (G : GH) (hr : RoomG 0 (A.deeper (envOfC "_law_pairs" (defScope st_law_pairs) s.heap.objs.size T.a_law_pairs cdv))) :
    PXB (cxOf CX0 P w K mg base ["many", "found", "a", "b"] "_law_pairs" (defScope st_law_pairs) T.a_law_pairs cdv A outer s H E).nox G (defBody st_law_pairs) b_law_pairs :=
  (pxb_cons (pxs_set 1 sc_law_pairs.nd (px_lst pxa_nil))
  (pxb_cons (pxs_for rfl (pxi_range1 T.m_range (pxa_cons (px_v 0) pxa_nil)) (pxg_name 2 sc_law_pairs.nd) (pxb_one (pxs_set 1 sc_law_pairs.nd (px_add (px_v 1) (px_lc [("b", 3)] (gw_name 3) rfl sc_law_pairs.nd (pxi_range2 T.m_range (pxa_cons (px_add (px_v 2) px_int) (pxa_cons (px_v 0) pxa_nil))) (by kernel_rfl) (fun _ _ _ _ _ => (pg_name (i := 3) sc_law_pairs.nd rfl (by first | exact Or.inl rfl | exact Or.inr rfl))) (fun _ _ _ _ _ => ptx_nil) (fun _ _ _ _ _ => (px_tup (pxa_cons (px_v 2) (pxa_cons (px_v 3) pxa_nil)))))))) PassesOwn.never)
  (pxb_one (pxs_ret (px_v 1)))))
theorem ok_law_pairs (T : Txt K mg) : FnG P w K mg base CX0 1 T.a_law_pairs T.f_law_pairs ["many"] (LSp K 1 sp_law_pairs) :=
  okD T.F_law_pairs sc_law_pairs (fun cdv A outer s H E G hr => d_law_pairs T cdv A outer s H E G hr) fun ls M q hl h => v_law_pairs ls M q hl h
theorem d_law_web (T : Txt K mg) (cdv : Value) (A : Around) (outer : List Env) (s : Shared) (H : Hp) (E : XK) (G : GH) (hr : RoomG 2 (A.deeper (envOfC "_law_web" (defScope st_law_web) s.heap.objs.size T.a_law_web cdv))) :
    PXB (cxOf CX0 P w K mg base ["deck", "many", "dense", "pair"] "_law_web" (defScope st_law_web) T.a_law_web cdv A outer s H E).nox G (defBody st_law_web) b_law_web :=
  (pxb_cons (pxs_set 2 sc_law_web.nd (px_call (ok_law_pick T) (hr.mono (by decide)) T.g_law_pick T.F_law_pick.kp (bi_law_pick T) (pxa_cons (px_v 0) (pxa_cons (px_lst (pxa_cons px_int (pxa_cons px_int (pxa_cons px_int (pxa_cons px_int (pxa_cons px_int (pxa_cons px_int (pxa_cons px_int (pxa_cons px_int pxa_nil))))))))) pxa_nil))))
  (pxb_one (pxs_ret (px_tup (pxa_cons (px_v 1) (pxa_cons (px_callT call_tupleP cd_tuple T.m_tuple boot_tuple (pxa_cons (px_lc [("pair", 3)] (gw_name 3) rfl sc_law_web.nd (pxi_seq (px_call (ok_law_pairs T) (hr.mono (by decide)) T.g_law_pairs T.F_law_pairs.kp (bi_law_pairs T) (pxa_cons (px_v 1) pxa_nil))) (by kernel_rfl) (fun _ _ _ _ _ => (pg_name (i := 3) sc_law_web.nd rfl (by first | exact Or.inl rfl | exact Or.inr rfl))) (fun _ _ _ _ _ => (ptx_one (t_lt hr (px_call (ok_law_draw T) (hr.mono (by decide)) T.g_law_draw T.F_law_draw.kp (bi_law_draw T) (pxa_cons (px_v 0) (pxa_cons px_int pxa_nil))) (px_v 2)))) (fun _ _ _ _ _ => (px_v 3))) pxa_nil)) pxa_nil))))))
theorem ok_law_web (T : Txt K mg) : FnG P w K mg base CX0 3 T.a_law_web T.f_law_web ["deck", "many"] (LSp K 2 sp_law_web) :=
  okD T.F_law_web sc_law_web (fun cdv A outer s H E G hr => d_law_web T cdv A outer s H E G hr) fun ls M q hl h => v_law_web ls M q hl h
theorem d_law_text (T : Txt K mg) (cdv : Value) (A : Around) (outer : List Env) (s : Shared) (H : Hp) (E : XK) (G : GH) (hr : RoomG 0 (A.deeper (envOfC "_law_text" (defScope st_law_text) s.heap.objs.size T.a_law_text cdv))) :
    PXB (cxOf CX0 P w K mg base ["web", "lines", "a", "b"] "_law_text" (defScope st_law_text) T.a_law_text cdv A outer s H E).nox G (defBody st_law_text) b_law_text :=
  (pxb_cons (pxs_setLc 1 [("a", 2), ("b", 3)] (gw_tup (gw_cons (gw_name 2) (gw_cons (gw_name 3) gw_nil))) rfl sc_law_text.nd (pxi_seq (px_ix (px_v 0) px_int)) (by kernel_rfl) (fun _ _ _ _ _ => (pg_tup rfl (pgs_cons (pg_name (i := 2) sc_law_text.nd rfl (by first | exact Or.inl rfl | exact Or.inr rfl)) (pgs_cons (pg_name (i := 3) sc_law_text.nd rfl (by first | exact Or.inl rfl | exact Or.inr rfl)) pgs_nil)))) (fun _ _ _ _ _ => ptx_nil) (fun _ _ _ _ _ => (px_add (px_add (px_callT cr_str cd_str T.m_str boot_str (pxa_cons (px_v 2) pxa_nil)) px_str) (px_callT cr_str cd_str T.m_str boot_str (pxa_cons (px_v 3) pxa_nil)))) (sw_true rfl rfl rfl (by decide +kernel)))
  (pxb_one (pxs_ret (px_add (px_add (px_callT cr_str cd_str T.m_str boot_str (pxa_cons (px_ix (px_v 0) px_int) pxa_nil)) px_str) (px_if (t_ne hr (px_v 1) (px_lst pxa_nil)) (px_join px_str (px_v 1)) px_str)))))
theorem ok_law_text (T : Txt K mg) : FnG P w K mg base CX0 1 T.a_law_text T.f_law_text ["web"] (LSp K 1 sp_law_text) :=
  okD T.F_law_text sc_law_text (fun cdv A outer s H E G hr => d_law_text T cdv A outer s H E G hr) fun ls M q hl h => v_law_text ls M q hl h
theorem dlaw (T : Txt K mg) (cdv : Value) (A : Around) (outer : List Env) (s : Shared) (H : Hp) (E : XK) (G : GH) (hr : RoomG 4 (A.deeper (envOfC "law" (defScope stlaw) s.heap.objs.size T.alaw cdv))) :
    PXB (cxOf CX0 P w K mg base ["script", "deck", "turn", "web", "pair", "lines", "other", "own", "told", "read", "known", "due", "line"] "law" (defScope stlaw) T.alaw cdv A outer s H E).nox G (defBody stlaw) (blaw T.cs) :=
  (pxb_cons (pxs_set 1 sclaw.nd (px_call (ok_law_deck T) (hr.mono (by decide)) T.g_law_deck T.F_law_deck.kp (bi_law_deck T) (pxa_cons (px_v 0) pxa_nil)))
  (pxb_cons (pxs_for rfl (pxi_range1 T.m_range (pxa_cons px_int pxa_nil)) (pxg_name 2 sclaw.nd) (pxb_cons (pxs_set 3 sclaw.nd (px_call (ok_law_web T) (hr.mono (by decide)) T.g_law_web T.F_law_web.kp (bi_law_web T) (pxa_cons (px_v 1) (pxa_cons (px_add px_int (px_call (ok_law_draw T) (hr.mono (by decide)) T.g_law_draw T.F_law_draw.kp (bi_law_draw T) (pxa_cons (px_v 1) (pxa_cons px_int pxa_nil)))) pxa_nil))))
  (pxb_cons (pxs_set 4 sclaw.nd (px_call (ok_law_pick T) (hr.mono (by decide)) T.g_law_pick T.F_law_pick.kp (bi_law_pick T) (pxa_cons (px_v 1) (pxa_cons (px_call (ok_law_pairs T) (hr.mono (by decide)) T.g_law_pairs T.F_law_pairs.kp (bi_law_pairs T) (pxa_cons (px_ix (px_v 3) px_int) pxa_nil)) pxa_nil))))
  (pxb_cons (pxs_set 5 sclaw.nd (px_if (t_inG hr (px_v 4) (px_ix (px_v 3) px_int)) (px_lc [("line", 12)] (gw_name 12) rfl sclaw.nd (pxi_seq (px_ix (px_v 3) px_int)) (by kernel_rfl) (fun _ _ _ _ _ => (pg_name (i := 12) sclaw.nd rfl (by first | exact Or.inl rfl | exact Or.inr rfl))) (fun _ _ _ _ _ => (ptx_one (t_ne hr (px_v 12) (px_v 4)))) (fun _ _ _ _ _ => (px_v 12))) (px_callB cr_sortA cd_sortA T.m_sorted boot_sorted (pxa_cons (px_add (px_callT call_list_of cd_list T.m_list boot_list (pxa_cons (px_ix (px_v 3) px_int) pxa_nil)) (px_lst (pxa_cons (px_v 4) pxa_nil))) pxa_nil))))
  (pxb_cons (pxs_set 6 sclaw.nd (px_tup (pxa_cons (px_ix (px_v 3) px_int) (pxa_cons (px_callT call_tupleP cd_tuple T.m_tuple boot_tuple (pxa_cons (px_v 5) pxa_nil)) pxa_nil))))
  (pxb_cons (pxs_if (pxt_w (pxw_and (t_eqG hr (px_mod (px_v 2) px_int) px_int) (pxw_and1 (t_lt hr (px_ix (px_v 3) px_int) px_int)))) (pxb_one (pxs_set 6 sclaw.nd (px_tup (pxa_cons (px_add (px_ix (px_v 3) px_int) px_int) (pxa_cons (px_ix (px_v 3) px_int) pxa_nil))))) pxb_nil)
  (pxb_cons (pxs_for rfl (pxi_seq (px_tup (pxa_cons (px_v 3) (pxa_cons (px_v 6) pxa_nil)))) (pxg_name 7 sclaw.nd) (pxb_cons (pxs_par 10 11 rfl sclaw.nd (pxa_cons (px_callB (cr_reprG hr.z) cd_reprG T.m_repr boot_repr (pxa_cons (px_v 7) pxa_nil)) (pxa_cons (px_call (ok_law_text T) (hr.mono (by decide)) T.g_law_text T.F_law_text.kp (bi_law_text T) (pxa_cons (px_v 7) pxa_nil)) pxa_nil)))
  (pxb_cons (pxs_set 8 sclaw.nd (px_if (t_eqG hr (px_v 2) px_int) (px_callK (gL := kw1 []) (okweb_text T) (hr.mono (by decide)) T.gweb_text T.Fweb_text.kp (kb_kw1_web_text T) kw1_data (pxk_cons (px_v 7) pxk_nil)) (px_call (okweb_text T) (hr.mono (by decide)) T.gweb_text T.Fweb_text.kp (biweb_text T) (pxa_cons (px_v 7) pxa_nil))))
  (pxb_cons (pxs_set 9 sclaw.nd (px_if (t_eqG hr (px_v 2) px_int) (px_callKX (gL := kw1 []) (okread_web T) takesF (hr.mono (by decide)) T.gread_web T.Fread_web.kp (kb_kw1_read_web T) kw1_data (pxk_cons (px_v 11) pxk_nil)) (px_callX (okread_web T) takesF (hr.mono (by decide)) T.gread_web T.Fread_web.kp (biread_web T) (pxa_cons (px_v 11) pxa_nil))))
  (pxb_one (pxs_if (pxt_w (pxw_or (t_ne hr (px_callB (cr_reprG hr.z) cd_reprG T.m_repr boot_repr (pxa_cons (px_lst (pxa_cons (px_v 8) (pxa_cons (px_call (okweb_text T) (hr.mono (by decide)) T.gweb_text T.Fweb_text.kp (biweb_text T) (pxa_cons (px_v 7) pxa_nil)) (pxa_cons (px_v 9) (pxa_cons (px_callX (okread_web T) takesF (hr.mono (by decide)) T.gread_web T.Fread_web.kp (biread_web T) (pxa_cons (px_v 8) pxa_nil)) pxa_nil))))) pxa_nil)) (px_callB (cr_reprG hr.z) cd_reprG T.m_repr boot_repr (pxa_cons (px_lst (pxa_cons (px_v 11) (pxa_cons (px_v 11) (pxa_cons (px_v 7) (pxa_cons (px_v 7) pxa_nil))))) pxa_nil))) (pxw_or1 (t_ne hr (px_callB (cr_reprG hr.z) cd_reprG T.m_repr boot_repr (pxa_cons (px_v 7) pxa_nil)) (px_v 10))))) (pxb_one (pxs_ret px_bl)) pxb_nil))))) PassesOwn.never)
  (pxb_one (pxs_if (t_eqG hr (px_call (okweb_text T) (hr.mono (by decide)) T.gweb_text T.Fweb_text.kp (biweb_text T) (pxa_cons (px_v 3) pxa_nil)) (px_call (okweb_text T) (hr.mono (by decide)) T.gweb_text T.Fweb_text.kp (biweb_text T) (pxa_cons (px_v 6) pxa_nil))) (pxb_one (pxs_ret px_bl)) pxb_nil)))))))) PassesOwn.never)
  (pxb_one (pxs_ret px_bl))))
theorem oklaw (T : Txt K mg) : FnG P w K mg base CX0 5 T.alaw T.flaw ["script"] (LSp K 1 (splaw T.cs)) :=
  okD T.Flaw sclaw (fun cdv A outer s H E G hr => dlaw T cdv A outer s H E G hr) fun ls M q hl h => vlaw T.cs ls M q hl h
theorem all_mk {l : PySem.W.OpenLaw} {w : World} {K : PySem.W.Frag} {h : Heap} {mg : Str → Option Value} {fa : Addr} (X : K.In h) (G : h.Ns mainGlobals mg) (hfa : mg "law" = some (.ref fa))
    {fA0 : Addr} {od0 an0 : Option Addr} {sl0 : Array (Option Value)} {oc0 kV0 dc0 pm0 cd0 ct0 : Value}
    (a0 : PySem.W.nsIn K mainGlobals "is_int_between" = some (some (.ref fA0))) (l0 : K.lookup fA0 = some ⟨oc0, od0, .func (PySem.W.fnOf "is_int_between" "is_int_between" (defArgs stis_int_between) (defBody stis_int_between) (defScope stis_int_between) .none kV0 dc0 pm0 an0 cd0 ct0), sl0⟩) (c0 : PySem.W.codeIn K cd0 "is_int_between" = true) (k0 : PySem.W.keepIn K (.ref fA0) = true)
    {fA1 : Addr} {od1 an1 : Option Addr} {sl1 : Array (Option Value)} {oc1 kV1 dc1 pm1 cd1 ct1 : Value}
    (a1 : PySem.W.nsIn K mainGlobals "is_pair" = some (some (.ref fA1))) (l1 : K.lookup fA1 = some ⟨oc1, od1, .func (PySem.W.fnOf "is_pair" "is_pair" (defArgs stis_pair) (defBody stis_pair) (defScope stis_pair) .none kV1 dc1 pm1 an1 cd1 ct1), sl1⟩) (c1 : PySem.W.codeIn K cd1 "is_pair" = true) (k1 : PySem.W.keepIn K (.ref fA1) = true)
    {fA2 : Addr} {od2 an2 : Option Addr} {sl2 : Array (Option Value)} {oc2 kV2 dc2 pm2 cd2 ct2 : Value}
    (a2 : PySem.W.nsIn K mainGlobals "_is_line" = some (some (.ref fA2))) (l2 : K.lookup fA2 = some ⟨oc2, od2, .func (PySem.W.fnOf "_is_line" "_is_line" (defArgs st_is_line) (defBody st_is_line) (defScope st_is_line) .none kV2 dc2 pm2 an2 cd2 ct2), sl2⟩) (c2 : PySem.W.codeIn K cd2 "_is_line" = true) (k2 : PySem.W.keepIn K (.ref fA2) = true)
    {fA3 : Addr} {od3 an3 : Option Addr} {sl3 : Array (Option Value)} {oc3 kV3 dc3 pm3 cd3 ct3 : Value}
    (a3 : PySem.W.nsIn K mainGlobals "web_error" = some (some (.ref fA3))) (l3 : K.lookup fA3 = some ⟨oc3, od3, .func (PySem.W.fnOf "web_error" "web_error" (defArgs stweb_error) (defBody stweb_error) (defScope stweb_error) .none kV3 dc3 pm3 an3 cd3 ct3), sl3⟩) (c3 : PySem.W.codeIn K cd3 "web_error" = true) (k3 : PySem.W.keepIn K (.ref fA3) = true)
    {fA4 : Addr} {od4 an4 : Option Addr} {sl4 : Array (Option Value)} {oc4 kV4 dc4 pm4 cd4 ct4 : Value}
    (a4 : PySem.W.nsIn K mainGlobals "web_text" = some (some (.ref fA4))) (l4 : K.lookup fA4 = some ⟨oc4, od4, .func (PySem.W.fnOf "web_text" "web_text" (defArgs stweb_text) (defBody stweb_text) (defScope stweb_text) .none kV4 dc4 pm4 an4 cd4 ct4), sl4⟩) (c4 : PySem.W.codeIn K cd4 "web_text" = true) (k4 : PySem.W.keepIn K (.ref fA4) = true)
    {fA5 : Addr} {od5 an5 : Option Addr} {sl5 : Array (Option Value)} {oc5 kV5 dc5 pm5 cd5 ct5 : Value}
    (a5 : PySem.W.nsIn K mainGlobals "_web_told" = some (some (.ref fA5))) (l5 : K.lookup fA5 = some ⟨oc5, od5, .func (PySem.W.fnOf "_web_told" "_web_told" (defArgs st_web_told) (defBody st_web_told) (defScope st_web_told) .none kV5 dc5 pm5 an5 cd5 ct5), sl5⟩) (c5 : PySem.W.codeIn K cd5 "_web_told" = true) (k5 : PySem.W.keepIn K (.ref fA5) = true)
    {fA6 : Addr} {od6 an6 : Option Addr} {sl6 : Array (Option Value)} {oc6 kV6 dc6 pm6 cd6 ct6 : Value}
    (a6 : PySem.W.nsIn K mainGlobals "read_web" = some (some (.ref fA6))) (l6 : K.lookup fA6 = some ⟨oc6, od6, .func (PySem.W.fnOf "read_web" "read_web" (defArgs stread_web) (defBody stread_web) (defScope stread_web) .none kV6 dc6 pm6 an6 cd6 ct6), sl6⟩) (c6 : PySem.W.codeIn K cd6 "read_web" = true) (k6 : PySem.W.keepIn K (.ref fA6) = true)
    {fA7 : Addr} {od7 an7 : Option Addr} {sl7 : Array (Option Value)} {oc7 kV7 dc7 pm7 cd7 ct7 : Value}
    (a7 : PySem.W.nsIn K mainGlobals "_law_deck" = some (some (.ref fA7))) (l7 : K.lookup fA7 = some ⟨oc7, od7, .func (PySem.W.fnOf "_law_deck" "_law_deck" (defArgs st_law_deck) (defBody st_law_deck) (defScope st_law_deck) .none kV7 dc7 pm7 an7 cd7 ct7), sl7⟩) (c7 : PySem.W.codeIn K cd7 "_law_deck" = true) (k7 : PySem.W.keepIn K (.ref fA7) = true)
    {fA8 : Addr} {od8 an8 : Option Addr} {sl8 : Array (Option Value)} {oc8 kV8 dc8 pm8 cd8 ct8 : Value}
    (a8 : PySem.W.nsIn K mainGlobals "_law_draw" = some (some (.ref fA8))) (l8 : K.lookup fA8 = some ⟨oc8, od8, .func (PySem.W.fnOf "_law_draw" "_law_draw" (defArgs st_law_draw) (defBody st_law_draw) (defScope st_law_draw) .none kV8 dc8 pm8 an8 cd8 ct8), sl8⟩) (c8 : PySem.W.codeIn K cd8 "_law_draw" = true) (k8 : PySem.W.keepIn K (.ref fA8) = true)
    {fA9 : Addr} {od9 an9 : Option Addr} {sl9 : Array (Option Value)} {oc9 kV9 dc9 pm9 cd9 ct9 : Value}
    (a9 : PySem.W.nsIn K mainGlobals "_law_pick" = some (some (.ref fA9))) (l9 : K.lookup fA9 = some ⟨oc9, od9, .func (PySem.W.fnOf "_law_pick" "_law_pick" (defArgs st_law_pick) (defBody st_law_pick) (defScope st_law_pick) .none kV9 dc9 pm9 an9 cd9 ct9), sl9⟩) (c9 : PySem.W.codeIn K cd9 "_law_pick" = true) (k9 : PySem.W.keepIn K (.ref fA9) = true)
    {fA10 : Addr} {od10 an10 : Option Addr} {sl10 : Array (Option Value)} {oc10 kV10 dc10 pm10 cd10 ct10 : Value}
    (a10 : PySem.W.nsIn K mainGlobals "_law_pairs" = some (some (.ref fA10))) (l10 : K.lookup fA10 = some ⟨oc10, od10, .func (PySem.W.fnOf "_law_pairs" "_law_pairs" (defArgs st_law_pairs) (defBody st_law_pairs) (defScope st_law_pairs) .none kV10 dc10 pm10 an10 cd10 ct10), sl10⟩) (c10 : PySem.W.codeIn K cd10 "_law_pairs" = true) (k10 : PySem.W.keepIn K (.ref fA10) = true)
    {fA11 : Addr} {od11 an11 : Option Addr} {sl11 : Array (Option Value)} {oc11 kV11 dc11 pm11 cd11 ct11 : Value}
    (a11 : PySem.W.nsIn K mainGlobals "_law_web" = some (some (.ref fA11))) (l11 : K.lookup fA11 = some ⟨oc11, od11, .func (PySem.W.fnOf "_law_web" "_law_web" (defArgs st_law_web) (defBody st_law_web) (defScope st_law_web) .none kV11 dc11 pm11 an11 cd11 ct11), sl11⟩) (c11 : PySem.W.codeIn K cd11 "_law_web" = true) (k11 : PySem.W.keepIn K (.ref fA11) = true)
    {fA12 : Addr} {od12 an12 : Option Addr} {sl12 : Array (Option Value)} {oc12 kV12 dc12 pm12 cd12 ct12 : Value}
    (a12 : PySem.W.nsIn K mainGlobals "_law_text" = some (some (.ref fA12))) (l12 : K.lookup fA12 = some ⟨oc12, od12, .func (PySem.W.fnOf "_law_text" "_law_text" (defArgs st_law_text) (defBody st_law_text) (defScope st_law_text) .none kV12 dc12 pm12 an12 cd12 ct12), sl12⟩) (c12 : PySem.W.codeIn K cd12 "_law_text" = true) (k12 : PySem.W.keepIn K (.ref fA12) = true)
    {fA13 : Addr} {od13 an13 : Option Addr} {sl13 : Array (Option Value)} {oc13 kV13 dc13 pm13 cd13 ct13 : Value}
    (a13 : PySem.W.nsIn K mainGlobals "law" = some (some (.ref fA13))) (l13 : K.lookup fA13 = some ⟨oc13, od13, .func (PySem.W.fnOf "law" "law" (defArgs stlaw) (defBody stlaw) (defScope stlaw) .none kV13 dc13 pm13 an13 cd13 ct13), sl13⟩) (c13 : PySem.W.codeIn K cd13 "law" = true) (k13 : PySem.W.keepIn K (.ref fA13) = true)
    (z0 : PySem.W.nsIn K mainGlobals "abs" = some none)
    (z1 : PySem.W.nsIn K mainGlobals "bool" = some none)
    (z2 : PySem.W.nsIn K mainGlobals "enumerate" = some none)
    (z3 : PySem.W.nsIn K mainGlobals "int" = some none)
    (z4 : PySem.W.nsIn K mainGlobals "isinstance" = some none)
    (z5 : PySem.W.nsIn K mainGlobals "len" = some none)
    (z6 : PySem.W.nsIn K mainGlobals "list" = some none)
    (z7 : PySem.W.nsIn K mainGlobals "range" = some none)
    (z8 : PySem.W.nsIn K mainGlobals "repr" = some none)
    (z9 : PySem.W.nsIn K mainGlobals "sorted" = some none)
    (z10 : PySem.W.nsIn K mainGlobals "str" = some none)
    (z11 : PySem.W.nsIn K mainGlobals "tuple" = some none)
    {t0 : Tok} (y0 : PySem.W.nsIn K mainGlobals "MAX_PEOPLE" = some (some (.int 10 t0)))
    {CBadText : Addr} (gCBadText : PySem.W.nsIn K mainGlobals "BadText" = some (some (.ref CBadText)))
    (hqx_BadText : PySem.W.excIn K CBadText [.type "ValueError", .type "Exception", .type "BaseException", .type "object"] "ValueError.__new__" = true)
    (hkc_BadText : PySem.W.keepIn K (.ref CBadText) = true)
    (hex_BadText : PySem.W.subIn K (.ref CBadText) (.type "BaseException") = some true)
    (hty_BadText : PySem.W.typeIn K (.ref CBadText) = some (.type "type"))
    (gl_combinations : PySem.W.nsIn K mainGlobals "combinations" = some (some (.type "itertools.combinations")))
    : ∃ fd : FuncData, (∀ (s : Shared) (v : Value), BindsTo s fd ⟨[v], []⟩ [("script", v)]) ∧ ∀ base : Heap, K.In base → base.Ns mainGlobals mg → FnG l.prog w K mg base CX0 5 fa fd ["script"] (LSp K 1 splaw0) := by
  have e := hfa.symm.trans (PySem.W.mg_of X G a13)
  cases e
  let T : Txt K mg := { cs := { aBadText := CBadText }, GBadText := PySem.W.mg_of X G gCBadText, q_BadText := hqx_BadText, kp_BadText := hkc_BadText, sb_BadText := hex_BadText, tp_BadText := hty_BadText, g_combinations := PySem.W.mg_of X G gl_combinations, ais_int_between := fA0, fis_int_between := _, Fis_int_between := fun_mk (st := stis_int_between) l0 c0 k0, gis_int_between := PySem.W.mg_of X G a0, ais_pair := fA1, fis_pair := _, Fis_pair := fun_mk (st := stis_pair) l1 c1 k1, gis_pair := PySem.W.mg_of X G a1, a_is_line := fA2, f_is_line := _, F_is_line := fun_mk (st := st_is_line) l2 c2 k2, g_is_line := PySem.W.mg_of X G a2, aweb_error := fA3, fweb_error := _, Fweb_error := fun_mk (st := stweb_error) l3 c3 k3, gweb_error := PySem.W.mg_of X G a3, aweb_text := fA4, fweb_text := _, Fweb_text := fun_mk (st := stweb_text) l4 c4 k4, gweb_text := PySem.W.mg_of X G a4, a_web_told := fA5, f_web_told := _, F_web_told := fun_mk (st := st_web_told) l5 c5 k5, g_web_told := PySem.W.mg_of X G a5, aread_web := fA6, fread_web := _, Fread_web := fun_mk (st := stread_web) l6 c6 k6, gread_web := PySem.W.mg_of X G a6, a_law_deck := fA7, f_law_deck := _, F_law_deck := fun_mk (st := st_law_deck) l7 c7 k7, g_law_deck := PySem.W.mg_of X G a7, a_law_draw := fA8, f_law_draw := _, F_law_draw := fun_mk (st := st_law_draw) l8 c8 k8, g_law_draw := PySem.W.mg_of X G a8, a_law_pick := fA9, f_law_pick := _, F_law_pick := fun_mk (st := st_law_pick) l9 c9 k9, g_law_pick := PySem.W.mg_of X G a9, a_law_pairs := fA10, f_law_pairs := _, F_law_pairs := fun_mk (st := st_law_pairs) l10 c10 k10, g_law_pairs := PySem.W.mg_of X G a10, a_law_web := fA11, f_law_web := _, F_law_web := fun_mk (st := st_law_web) l11 c11 k11, g_law_web := PySem.W.mg_of X G a11, a_law_text := fA12, f_law_text := _, F_law_text := fun_mk (st := st_law_text) l12 c12 k12, g_law_text := PySem.W.mg_of X G a12, alaw := fa, flaw := _, Flaw := fun_mk (st := stlaw) l13 c13 k13, glaw := PySem.W.mg_of X G a13, m_abs := PySem.W.mg_none_of X G z0, m_bool := PySem.W.mg_none_of X G z1, m_enumerate := PySem.W.mg_none_of X G z2, m_int := PySem.W.mg_none_of X G z3, m_isinstance := PySem.W.mg_none_of X G z4, m_len := PySem.W.mg_none_of X G z5, m_list := PySem.W.mg_none_of X G z6, m_range := PySem.W.mg_none_of X G z7, m_repr := PySem.W.mg_none_of X G z8, m_sorted := PySem.W.mg_none_of X G z9, m_str := PySem.W.mg_none_of X G z10, m_tuple := PySem.W.mg_none_of X G z11, c_MAX_PEOPLE := ⟨_, PySem.W.mg_of X G y0⟩ }
  exact ⟨T.flaw, fun s v => .of_eq rfl, fun base _ _ => oklaw T⟩
end
namespace DLX
end DLX
open PySem PySem.Spec PyProof.Rows L2 DL
theorem rpa_ints {K : PySem.W.Frag} {F : Hp} : ∀ ns : List Int, RpA K F (ns.map V.int) (ns.map PyData.int)
  | [] => .nil
  | n :: ns => .cons (.int n) (rpa_ints ns)
theorem law_ends (K : PySem.W.Frag) (H : Hp) (a : Addr) (ns : List Int) (hl : ns.length ≤ 63) (hS : SqM K H a (ns.map V.int)) : LSp K 1 splaw0 [.ref a] H (fun v _ => v = .bl true) fun _ _ _ => False := by
  refine ⟨H, fun _ => none, fun _ => none, [.d (.list (ns.map .int))], fun l _ => l = .d (.bool true), ⟨Same.refl H, fun _ _ z => (nomatch z), fun _ _ z => (nomatch z)⟩, .cons (Rp.lst hS (rpa_ints ns)) .nil, rfl, ⟨ns, rfl, hl, fun _ => rfl⟩, ?_⟩
  rintro l M v H' F' s A r rfl
  cases r
  rfl
end NS
open PySem PySem.W PyProof.Rows
set_option maxHeartbeats 0 in
theorem PySem.Challenge.cw_oddlines_k04_whole_texts_of_webs_holds : PySem.Challenge.rw_oddlines_k04_whole_texts_of_webs.Holds := by
  w_on; o_law; k_head; (case hw => w_witness2)
  k_fill
  refine DL.walkG (l := PySem.Challenge.rw_oddlines_k04_whole_texts_of_webs) (n := 63) (k := 5) (x := "script") (sp := fun K => DL.LSp K 1 NS.splaw0) rfl (by decide) rfl ⟨⟨rfl, by decide, by decide⟩, rfl⟩ (fun w h Y => PySem.W.kIn_of Y) ?F (fun K H a ns hl _ hS => NS.law_ends K H a ns hl hS)
  case F =>
    intro w mg fa h KX G hmg
    refine' NS.all_mk KX G hmg ?a0 ?l0 ?c0 ?k0 ?a1 ?l1 ?c1 ?k1 ?a2 ?l2 ?c2 ?k2 ?a3 ?l3 ?c3 ?k3 ?a4 ?l4 ?c4 ?k4 ?a5 ?l5 ?c5 ?k5 ?a6 ?l6 ?c6 ?k6 ?a7 ?l7 ?c7 ?k7 ?a8 ?l8 ?c8 ?k8 ?a9 ?l9 ?c9 ?k9 ?a10 ?l10 ?c10 ?k10 ?a11 ?l11 ?c11 ?k11 ?a12 ?l12 ?c12 ?k12 ?a13 ?l13 ?c13 ?k13 ?z0 ?z1 ?z2 ?z3 ?z4 ?z5 ?z6 ?z7 ?z8 ?z9 ?z10 ?z11 ?y0 ?gCBadText ?hqx_BadText ?hkc_BadText ?hex_BadText ?hty_BadText ?gl_combinations
    (case a0 => k_is); (case l0 => k_is); (case c0 => k_is); (case k0 => k_is); (case a1 => k_is); (case l1 => k_is); (case c1 => k_is); (case k1 => k_is); (case a2 => k_is); (case l2 => k_is); (case c2 => k_is); (case k2 => k_is); (case a3 => k_is); (case l3 => k_is); (case c3 => k_is); (case k3 => k_is); (case a4 => k_is); (case l4 => k_is); (case c4 => k_is); (case k4 => k_is); (case a5 => k_is); (case l5 => k_is); (case c5 => k_is); (case k5 => k_is); (case a6 => k_is); (case l6 => k_is); (case c6 => k_is); (case k6 => k_is); (case a7 => k_is); (case l7 => k_is); (case c7 => k_is); (case k7 => k_is); (case a8 => k_is); (case l8 => k_is); (case c8 => k_is); (case k8 => k_is); (case a9 => k_is); (case l9 => k_is); (case c9 => k_is); (case k9 => k_is); (case a10 => k_is); (case l10 => k_is); (case c10 => k_is); (case k10 => k_is); (case a11 => k_is); (case l11 => k_is); (case c11 => k_is); (case k11 => k_is); (case a12 => k_is); (case l12 => k_is); (case c12 => k_is); (case k12 => k_is); (case a13 => k_is); (case l13 => k_is); (case c13 => k_is); (case k13 => k_is); (case z0 => k_is); (case z1 => k_is); (case z2 => k_is); (case z3 => k_is); (case z4 => k_is); (case z5 => k_is); (case z6 => k_is); (case z7 => k_is); (case z8 => k_is); (case z9 => k_is); (case z10 => k_is); (case z11 => k_is); (case y0 => k_is); (case gCBadText => k_is); (case hqx_BadText => first | k_exc | k_is); (case hkc_BadText => k_is); (case hex_BadText => k_is); (case hty_BadText => k_is); (case gl_combinations => k_is)
