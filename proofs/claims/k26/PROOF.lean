import PyProof.Rows.All
import Wide.All
import OpenK.AllK
import Wide.FinOn
import HandS.Base
import HandS.Call
import HandS.List
import HandS.Conv
import HandS.TupAny
import HandS.TupMul
import HandS.Dict
import KE.KDictKeyed
import KE.KDictDisplayH
import HandS.Exc
import HandS.Comp
import HandS.HeadHook1
import HandS.ExcOwn
import HandS.CallSlots
import HandS.Wide
import HandS.Text
import HandS.Deep
import HandS.IsInst
import HandS.Zip0
import HandS.Zip
import HandS.TupLe
import HandS.Walk
import KE.KTupSum
import KE.GoesEnum
import HandS.Words
import HandS.WordsExc
import HandS.Defaults
import HandS.HeadEnd
import HandS.HeadHook2
import HandS.Head2
import HandS.Style
import PyProof.ReprRoads
import PyProof.ReprLen
import PyProof.FitsInt
import PyProof.ListIndex
import HandS.Strs
import HandS.SortInts
import HandS.SortOrd
import PyProof.ReprBulk
import KE.DataMinMax
import HandS.TupSets
import HandS.Flow
import HandS.SortKw
import HandS.ExcInit
import HandS.TryMany
import KE.KExcInit
import KE.KExcIs
import HandS.ExcField
import HandS.ExcValue
import HandS.Gcd
import KE.KMathGC
import KE.KDictSum
import KE.DataCmp
import KE.SortData
import KE.KDictWalk
import KE.KDictCopyH
import PyProof.SumAny
import HandS.SetFor
import KE.KDictZip
import HandS.MapObj
import KE.DatumOrd
import HandS.Flt
import KE.OsSetLaws
import HandS.Ends
import HandS.More
import HandS.Head0
import HandS.Head1
import HandS.Head3
import KE.KStateDown
import Lean
import PySem.Challenge.RW_tollround_k26_whole_counts_of_all_lots
set_option Elab.async false
set_option linter.all false
set_option maxRecDepth 100000
set_option maxHeartbeats 0
set_option autoImplicit false
namespace DL
open PySem PySem.Spec L2
def TupO (o : Obj) : Prop := o.cls = .type "tuple" ∧ o.dict = none
/-- what a new tuple of xs must end at -/
def NewT (xs : List V) (H : Hp) (Q : VK) : Prop := ∀ p o, TupO o → H p = none → Q (.ref p) (upd H p (.frz o (.tup xs)))
/-- .. or the thing that stood there -/
def rTupOf (K : PySem.W.Frag) : List V → Hp → VK → Prop := fun us H Q => ∃ p ys, us = [.ref p] ∧ ((SqL K H p ys ∧ NewT ys H Q) ∨ (SqT K H p ys ∧ Q (.ref p) H))
def rAddT (K : PySem.W.Frag) : R2 := fun x y H Q => ∃ a b xs ys, (x = .ref a ∧ SqT K H a xs) ∧ (y = .ref b ∧ SqT K H b ys) ∧ xs.length + ys.length ≤ sizeLine ∧ (xs = [] → Q (.ref b) H) ∧ (xs ≠ [] → ys = [] → Q (.ref a) H) ∧ NewT (xs ++ ys) H Q
def isAll (n : Nat) (lo hi : Option Int) : Prop := HT.sIx n 0 lo = 0 ∧ HT.sIx n n hi = n
def rCutT (K : PySem.W.Frag) : V → Option Int → Option Int → Hp → VK → Prop := fun x lo hi H Q => ∃ a xs, (x = .ref a ∧ SqT K H a xs) ∧ (isAll xs.length lo hi → Q (.ref a) H) ∧ (¬ isAll xs.length lo hi → NewT (cutV xs lo hi) H Q)
section
variable {X : Cx} {pins : List (Addr × Obj)} {σ : L2.St} {H : Hp} {s : Shared} {xs : List V} {its : List Value} {Q : VK}
theorem tup_laid (I : Inv X pins σ H s) (r : Vals xs its) (hz : xs.length ≤ sizeLine) (q : NewT xs H Q) {t : Nat} : EP X pins σ Q (.ref s.heap.objs.size) { s with heap := s.heap.push { cls := .type "tuple", data := .seq its.toArray }, toks := t } := by
  have at0 := Heap.get?_push_size s.heap (o := { cls := .type "tuple", data := .seq its.toArray }) rfl
  exact ⟨.ref s.heap.objs.size, _, I.laid (t' := t) (o := .frz _ (.tup xs)) (fun _ _ => Heap.get?_push_of_some _) (Nat.le_refl _) ⟨at0, hz, its, r, _, at0, rfl, _, rfl⟩, rfl, q _ _ ⟨rfl, rfl⟩ (I.hok.fresh (Nat.le_refl _))⟩
theorem pe_tupX {es : List Expr} {k : Nat} {pos : Pos} {t : TA} (h : PA X es t) : PE X (.Tuple es k pos) (fun σ H Q => t σ H fun xs H1 => xs.length ≤ sizeLine ∧ NewT xs H1 Q) :=
  ⟨fun pins s σ H Q I q => wpAny_Tuple_spliced (thn (h.run pos pins s σ H _ I q) fun us s1 ⟨xs, H1, I1, r, z, q1⟩ => ⟨r.length ▸ z, tup_laid I1 r z q1⟩)⟩
open PyProof.Rows in
theorem call_tupX : CallR X (.type "tuple") (rTupOf X.K) := by
  rintro pins s σ H vs us Q I rv ⟨p, ys, rfl, h⟩
  obtain ⟨u, rfl, ru⟩ := vals1 rv
  obtain rfl : u = Value.ref p := ru
  cases h with
  | inl h =>
    obtain ⟨its, r, pl, hz⟩ := I.list h.1
    exact call_tuple_list pl.isList (fun h' kp => tup_laid (I.kept (t' := s.toks) kp) r hz h.2) (by rw [List.size_toArray, ← r.length]; exact hz)
  | inr h =>
    obtain ⟨its, r, pl, hz⟩ := I.tuple h.1
    exact call_tuple_same pl ⟨.ref p, H, I, rfl, h.2⟩
open PyProof.Rows in
theorem op_addT : OpR X (binaryOp .Add) (rAddT X.K) := by
  rintro pins s σ H x y v u Q I rx ry ⟨a, b, xs, ys, ⟨rfl, ha⟩, ⟨rfl, hb⟩, hz, q0, q1, q2⟩
  obtain rfl : v = Value.ref a := rx
  obtain rfl : u = Value.ref b := ry
  obtain ⟨i1, r1, p1, _⟩ := I.tuple ha
  obtain ⟨i2, r2, p2, _⟩ := I.tuple hb
  rcases Classical.em (xs = []) with hx | hx
  · subst hx
    cases r1
    exact cat_tup0 p1 p2 ⟨.ref b, H, I, rfl, q0 rfl⟩
  · exact HT.cat_tup p1 p2 (fun z => hx (r1.nil_iff.mp z)) (fun z => ⟨.ref a, H, I, rfl, q1 hx (r2.nil_iff.mp z)⟩) (fun _ => tup_laid I (r1.append r2) (by rw [List.length_append]; exact hz) q2) (by rw [← r1.length, ← r2.length]; exact hz)
open PyProof.Rows in
theorem sl_cutT : SlR X (rCutT X.K) := by
  rintro pins s σ H x v vl vu lo hi sl Q I rx hs pl pu ⟨a, xs, ⟨rfl, hx⟩, q1, q2⟩
  obtain rfl : v = Value.ref a := rx
  obtain ⟨its, r, ht, hz⟩ := I.tuple hx
  have hl : its.toArray.size = xs.length := by rw [List.size_toArray, r.length]
  refine ⟨_, _, slot_tuple_getitem.lookup, ht.typeIs, ?_⟩
  rcases Classical.em (isAll xs.length lo hi) with hw | hw
  · exact getItem_tuple_whole ht hs pl pu (hl ▸ hw) ⟨.ref a, H, I, rfl, q1 hw⟩
  · refine HT.getItem_tuple_cut ht hs pl pu (hl ▸ hw) ?_ (hl ▸ hz)
    rw [hl]
    exact tup_laid I ((r.drop _).take _) (Nat.le_trans (cutV_length xs lo hi) hz) (q2 hw)
end
end DL
namespace DL
open PySem PySem.Spec L2
mutual
/-- data as a key: no texts, no bools, no lists -/
def nk : PyData → Option NestedKey
  | .none => some .none
  | .int i => some (.num i)
  | .tuple ds => match nks ds with
    | some ks => some (.tup ks)
    | none => none
  | .bool _ => none
  | .str _ => none
  | .list _ => none
  | .dict _ => none
def nks : List PyData → Option (List NestedKey)
  | [] => some []
  | d :: ds => match nk d, nks ds with
    | some k, some ks => some (k :: ks)
    | _, _ => none
end
theorem nk_tup {ds : List PyData} {k : NestedKey} (h : nk (.tuple ds) = some k) : ∃ ks, nks ds = some ks ∧ k = .tup ks := by
  rw [nk] at h
  split at h
  · rename_i ks e
    exact ⟨ks, e, (Option.some.inj h).symm⟩
  · cases h
theorem nks_cons {d : PyData} {ds : List PyData} {ks : List NestedKey} (h : nks (d :: ds) = some ks) : ∃ k r, nk d = some k ∧ nks ds = some r ∧ ks = k :: r := by
  rw [nks] at h
  split at h
  · rename_i k r e1 e2
    exact ⟨k, r, e1, e2, (Option.some.inj h).symm⟩
  · cases h
mutual
theorem hash_w (w w' : World) : ∀ (d : PyData) (k : NestedKey), nk d = some k → k.hash w = k.hash w'
  | .none, _, h => by rw [nk] at h; cases h; rfl
  | .int i, _, h => by rw [nk] at h; cases h; rfl
  | .tuple ds, _, h => by
    obtain ⟨ks, e, rfl⟩ := nk_tup h
    rw [NestedKey.hash, NestedKey.hash, hashes_w w w' ds ks e]
  | .bool _, _, h => by rw [nk] at h; cases h
  | .str _, _, h => by rw [nk] at h; cases h
  | .list _, _, h => by rw [nk] at h; cases h
  | .dict _, _, h => by rw [nk] at h; cases h
theorem hashes_w (w w' : World) : ∀ (ds : List PyData) (ks : List NestedKey), nks ds = some ks → NestedKey.hashes w ks = NestedKey.hashes w' ks
  | [], _, h => by rw [nks] at h; cases h; rfl
  | d :: ds, _, h => by
    obtain ⟨k, r, e1, e2, rfl⟩ := nks_cons h
    rw [NestedKey.hashes, NestedKey.hashes, hash_w w w' d k e1, hashes_w w w' ds r e2]
end
mutual
theorem nk_inj : ∀ (d e : PyData) (k : NestedKey), nk d = some k → nk e = some k → d = e
  | .none, e, k, h, h' => by
    rw [nk] at h; cases h
    cases e <;> first | rfl | (rw [nk] at h'; cases h') | (obtain ⟨_, _, z⟩ := nk_tup h'; cases z)
  | .int i, e, k, h, h' => by
    rw [nk] at h; cases h
    cases e <;> first | (rw [nk] at h'; cases h'; done) | (rw [nk] at h'; cases h'; rfl) | (obtain ⟨_, _, z⟩ := nk_tup h'; cases z)
  | .tuple ds, e, k, h, h' => by
    obtain ⟨ks, e1, rfl⟩ := nk_tup h
    cases e with
    | tuple es =>
      obtain ⟨ks', e2, z⟩ := nk_tup h'
      cases z
      rw [nks_inj ds es ks e1 e2]
    | none => rw [nk] at h'; cases h'
    | int i => rw [nk] at h'; cases h'
    | bool _ => rw [nk] at h'; cases h'
    | str _ => rw [nk] at h'; cases h'
    | list _ => rw [nk] at h'; cases h'
    | dict _ => rw [nk] at h'; cases h'
  | .bool _, _, _, h, _ => by rw [nk] at h; cases h
  | .str _, _, _, h, _ => by rw [nk] at h; cases h
  | .list _, _, _, h, _ => by rw [nk] at h; cases h
  | .dict _, _, _, h, _ => by rw [nk] at h; cases h
theorem nks_inj : ∀ (ds es : List PyData) (ks : List NestedKey), nks ds = some ks → nks es = some ks → ds = es
  | [], es, ks, h, h' => by
    rw [nks] at h; cases h
    cases es with
    | nil => rfl
    | cons e es => obtain ⟨_, _, _, _, z⟩ := nks_cons h'; cases z
  | d :: ds, es, ks, h, h' => by
    obtain ⟨k, r, e1, e2, rfl⟩ := nks_cons h
    cases es with
    | nil => rw [nks] at h'; cases h'
    | cons e es =>
      obtain ⟨k', r', e3, e4, z⟩ := nks_cons h'
      cases z
      rw [nk_inj d e k e1 e3, nks_inj ds es r e2 e4]
end
/-- an entry of the dict; its hash is the same in every world -/
def dctE (w : World) (x : NestedKey × Addr × Value) : DictEntry := ⟨x.1.hash w, .ref x.2.1, x.2.2⟩
/-- a dict with these keys (and where their tuples stand) and values; as many keys have come as there are -/
def DctO (a : Addr) (xs : List (NestedKey × Addr × Value)) : HO := .ext fun h => ∃ o es, h.get? a = some o ∧ o.ExactDict ∧ o.data = .dict es xs.length ∧ ∀ w : World, es.toList = xs.map (dctE w)
theorem dct_lay {P : Program} {W : World} {H : Hp} {h : Heap} {a : Addr} {xs : List (NestedKey × Addr × Value)} {o : Obj} {es : Array DictEntry} (h1 : h.get? a = some o) (h2 : o.ExactDict) (h3 : o.data = .dict es xs.length) (h4 : ∀ w : World, es.toList = xs.map (dctE w)) :
    ObjOk P W H h a (DctO a xs) :=
  ⟨⟨o, es, h1, h2, h3, h4⟩, ⟨o, h1⟩, fun _ _ ⟨o', es', k1, k2, k3, k4⟩ k => ⟨o', es', k _ k1, k2, k3, k4⟩⟩
def DictOfE {P : Program} {w : World} {K : Type} [DecidableEq K] (knd : HeapKind P w K) (h : Heap) (d : Addr) (xs : List (K × Addr × Value)) : Prop :=
  ∃ o es, h.get? d = some o ∧ o.ExactDict ∧ o.data = .dict es xs.length ∧ es.toList = xs.map (entryOfKey knd) ∧ (∀ x ∈ xs, knd.is h x.1 x.2.1) ∧ (xs.map (·.1)).Nodup
section
variable {P : Program} {w : World} {K : Type} [DecidableEq K] {knd : HeapKind P w K} {A : Around} {E : Value → Shared → Prop} {s : Shared} {d a : Addr} {xs : List (K × Addr × Value)} {k : K} {v : Value}
theorem DictOfE.of {h : Heap} : DictOfE knd h d xs → h.DictOfH knd d xs := fun ⟨o, es, h1, h2, h3, h4⟩ => ⟨o, es, xs.length, h1, h2, h3, h4⟩
theorem dictSet_E {Q : Unit → Shared → Prop} (hu : knd.room A) (hkey : knd.is s.heap k a) (hm : DictOfE knd s.heap d xs)
    (hQ : ∀ h', DictOfE knd h' d (storedH xs k a v) → Heap.SameBut d s.heap h' → Q () { s with heap := h', toks := s.toks + knd.draws k }) (hsz : xs.length ≤ sizeLine) : wpAny (model P w) A (dictSet d (.ref a) v) Q E s := by
  obtain ⟨o, es, ho, hc, hd, he, his, hn⟩ := hm
  have hl : es.size ≤ sizeLine := (size_of_entries he).symm ▸ hsz
  unfold dictSet
  try with_reducible refine wpAny_holding ?_
  refine wpAny_bind (knd.pyHash hu hkey ?_)
  unfold dictSetHashed
  try with_reducible refine wpAny_holding ?_
  refine wpAny_bind (wpAny_dictFind_heap (s := { s with toks := s.toks + knd.draws k }) hu hkey ho hd he his hn (fun hno => ?_) fun j p hj => ?_)
  · have hnot : k ∉ xs.map (·.1) := not_mem_keys_of_get hno
    have hnew : storedH xs k a v = xs ++ [(k, a, v)] := storedH_new (atKey_none_of_get hno) a v
    refine wpAny_bind (wpAny_rule (wpAny_updateDictKeys (hz := hl) (s := { s with toks := s.toks + knd.draws k }) ho hd (hQ _ ⟨_, _, Heap.get?_update_self _ ho (Obj.isFreed_of_dict (Obj.data_mapDictKeys hd _)), hc.mapDictKeys _, (Obj.data_mapDictKeys hd _).trans (by rw [hnew, List.length_append]; rfl), ?_, fun x hx => ?_, ?_⟩ (Heap.SameBut.update ..))))
    · rw [hnew]; simp [he, entryOfKey]
    · rw [hnew] at hx
      rcases List.mem_append.mp hx with hx | hx
      · exact knd.keeps (his x hx) ho hd (Heap.SameBut.update ..)
      · rw [List.mem_singleton.mp hx]
        exact knd.keeps hkey ho hd (Heap.SameBut.update ..)
    · rw [hnew, List.map_append, List.nodup_append]
      refine ⟨hn, by simp, fun x hx y hy e => ?_⟩
      have ey : y = k := List.mem_singleton.mp hy
      exact hnot (ey ▸ e ▸ hx)
  · have hold : storedH xs k a v = xs.map (putAt k v) := storedH_old (atKey_of_get hn hj) a v
    refine wpAny_bind (wpAny_rule (wpAny_bind (wpAny_updateDict (s := { s with toks := s.toks + knd.draws k }) ho hd (wpAny_point (hQ _ ⟨_, _, Heap.get?_update_self _ ho (Obj.isFreed_of_dict (Obj.data_mapDict hd _)), hc.mapDict _, (Obj.data_mapDict hd _).trans (by rw [hold, List.length_map]), ?_, fun x hx => ?_, ?_⟩ (Heap.SameBut.update ..))))))
    · rw [hold]
      have q := modify_map_putAt (entryOfKey knd) (fun e : DictEntry => { e with val := v }) k v (fun _ _ => rfl) hn hj
      rw [← he] at q
      obtain ⟨l⟩ := es
      simpa using q
    · rw [hold] at hx
      obtain ⟨y, hy, rfl⟩ := List.mem_map.mp hx
      unfold putAt
      split <;> exact knd.keeps (his y hy) ho hd (Heap.SameBut.update ..)
    · rw [hold, keys_map_putAt]; exact hn
theorem setItem_E {Q : Unit → Shared → Prop} (hu : knd.room A.in1) (hkey : knd.is s.heap k a) (hm : DictOfE knd s.heap d xs)
    (hQ : ∀ h', DictOfE knd h' d (storedH xs k a v) → Heap.SameBut d s.heap h' → Q () { s with heap := h', toks := s.toks + knd.draws k }) (hsz : xs.length ≤ sizeLine) : wpAny (model P w) A (setItem (.ref d) (.ref a) v) Q E s := by
  have ty : s.TypeIs (.ref d) "dict" := hm.of.typeIs
  unfold setItem
  try with_reducible refine wpAny_holding ?_
  refine wpAny_bind (wpAny_sequenceKey ty (by decide) (wpAny_bind (wpAny_callSpecial?_slot (name := Str.ofString "__setitem__") ty slot_dict_setitem (wpAny_call_entry slot_dict_setitem ty entry_dict_setitem ?_ (args_dict_setitem _ _ _)))))
  show wpAny _ _ (Builtin.Dict.notOrdered "__setitem__" ⟨[.ref d, .ref a, v], []⟩ >>= _) _ _ s
  refine wpAny_bind (wpAny_notOrdered_dict ty ?_)
  show wpAny _ _ (dictSet d (.ref a) v >>= _) _ _ s
  exact wpAny_bind (dictSet_E hu hkey hm (fun h' h1 h2 => wpAny_pure ⟨.none, rfl, wpAny_pure (hQ h' h1 h2)⟩) hsz)
theorem subDict_E {pairs : List (Sem Value × Sem Value)} {Q : Addr → Shared → Prop} (hu : knd.room A) (hlen : pairs.length ≤ 15)
    (h : wpAny (model P w) A (evalPairs pairs) (fun vs s₁ => ∃ k a v, vs = [(.ref a, v)] ∧ knd.is s₁.heap k a ∧ DictOfE knd s₁.heap s.heap.objs.size [] ∧
      ∀ h' tk, DictOfE knd h' s.heap.objs.size [(k, a, v)] → Heap.SameBut s.heap.objs.size s₁.heap h' → Q s.heap.objs.size { s₁ with heap := h', toks := tk }) E
      { s with heap := s.heap.push { cls := .type "dict", data := .dict #[] } }) : wpAny (model P w) A (subDict pairs) Q E s := by
  unfold subDict
  refine wpAny_bind (wpAny_alloc (wpAny_bind (wpAny_holding ?_)))
  rw [if_pos hlen]
  refine wpAny_bind (wpAny_mono h (fun vs s₁ h₁ => ?_) fun _ _ e => e)
  obtain ⟨k, a, v, rfl, hk, hm, hQ⟩ := h₁
  refine wpAny_holding ?_
  refine wpAny_bind ?_
  rw [List.forIn_cons]
  refine wpAny_bind (wpAny_bind (dictSet_E hu hk hm (fun h' h1 h2 => wpAny_pure ?_) (by simp)))
  dsimp only
  rw [List.forIn_nil]
  exact wpAny_pure (wpAny_pure (wpAny_pure (hQ h' _ h1 h2)))
end
end DL
namespace DL
open PySem PySem.Spec L2
/-- a value: data that does not change, a handle of a list that may change, an object of the module, a built-in class -/
inductive Vl where
  | d (x : PyData)
  | h (i : Nat)
  | a (p : Addr)
  | t (n : String)
  /-- a caught error of the class n, with its fields; a class of the program -/
  | x (n : Str) (fs : List (Str × PyData))
  | c (n : Str)
  /-- a list that is only read: the script -/
  | s (xs : List PyData)
/-- what a handle stands for -/
inductive MO where
  | gone
  | lst (xs : List PyData)
  /-- a list that holds lists which may change -/
  | nest (vs : List Vl)
  /-- a dict, its keys tuples of numbers -/
  | dct (kvs : List (PyData × PyData))
abbrev Mem := List MO
abbrev Env := List (Option Vl)
/-- an outcome: a value and the store; an error of the class at C with its fields; no promise -/
inductive Res (α : Type) where
  | ok (x : α) (M : Mem)
  | er (C : Str) (fs : List (Str × PyData)) (M : Mem)
  | st
def Res.bind {α β : Type} (r : Res α) (k : α → Mem → Res β) : Res β :=
  match r with
  | .ok x M => k x M
  | .er C fs M => .er C fs M
  | .st => .st
abbrev Ev := Env → Mem → Res Vl
abbrev Evs := Env → Mem → Res (List Vl)
/-- the world: where the handles stand, what is frozen -/
structure Wd where
  as : List Addr
  F : Hp
  /-- what is set aside: it stays as it is -/
  P : Hp
structure Wd.le (w w' : Wd) : Prop where
  «1» : w.as <+: w'.as
  «2» : ∀ a o, w.F a = some o → w'.F a = some o
  «3» : w'.P = w.P
theorem Wd.le_refl (w : Wd) : w.le w := ⟨List.prefix_refl _, fun _ _ h => h, rfl⟩
theorem Wd.le.trans {a b c : Wd} (h : a.le b) (k : b.le c) : a.le c := ⟨h.1.trans k.1, fun x o e => k.2 x o (h.2 x o e), k.3.trans h.3⟩
theorem Wd.le.get {w w' : Wd} (l : w.le w') {i : Nat} {a : Addr} (h : w.as[i]? = some a) : w'.as[i]? = some a := by
  obtain ⟨t, e⟩ := l.1
  have hi : i < w.as.length := (List.getElem?_eq_some_iff.mp h).1
  rw [← e, List.getElem?_append_left hi]
  exact h
theorem Rd.up {F F' : Hp} (l : ∀ a o, F a = some o → F' a = some o) {a : Addr} {u : HO} (h : Rd F a u) : Rd F' a u := by
  rcases h with h | ⟨o, h⟩
  · exact .inl (l _ _ h)
  · exact .inr ⟨o, l _ _ h⟩
theorem SqL.up {K : PySem.W.Frag} {F F' : Hp} (l : ∀ a o, F a = some o → F' a = some o) {a : Addr} {xs : List V} (h : SqL K F a xs) : SqL K F' a xs :=
  h.elim (fun r => .inl (Rd.up l r)) .inr
theorem SqT.up {K : PySem.W.Frag} {F F' : Hp} (l : ∀ a o, F a = some o → F' a = some o) {a : Addr} {xs : List V} (h : SqT K F a xs) : SqT K F' a xs :=
  h.elim (fun r => .inl (Rd.up l r)) .inr
/-- a tuple whose object is known -/
def SqX (F : Hp) (p : Addr) (xs : List V) : Prop := ∃ o, TupO o ∧ F p = some (.frz o (.tup xs))
theorem SqX.up {F F' : Hp} (l : ∀ a o, F a = some o → F' a = some o) {a : Addr} {xs : List V} : SqX F a xs → SqX F' a xs := fun ⟨o, h, e⟩ => ⟨o, h, l _ _ e⟩
theorem SqX.t {K : PySem.W.Frag} {F : Hp} {a : Addr} {xs : List V} : SqX F a xs → SqT K F a xs := fun ⟨o, _, e⟩ => .inl (.inr ⟨o, e⟩)
mutual
inductive Dp (K : PySem.W.Frag) (F : Hp) : V → PyData → Prop
  | non : Dp K F .non .none
  | bl (b : Bool) : Dp K F (.bl b) (.bool b)
  | int (i : Int) : Dp K F (.int i) (.int i)
  | str (x : Str) : Dp K F (.str x) (.str x)
  | lst {p : Addr} {xs : List V} {ds : List PyData} : F p = some (.lst xs) → DpAll K F xs ds → Dp K F (.ref p) (.list ds)
  | tup {p : Addr} {xs : List V} {ds : List PyData} : SqX F p xs → DpAll K F xs ds → Dp K F (.ref p) (.tuple ds)
inductive DpAll (K : PySem.W.Frag) (F : Hp) : List V → List PyData → Prop
  | nil : DpAll K F [] []
  | cons {v : V} {vs : List V} {d : PyData} {ds : List PyData} : Dp K F v d → DpAll K F vs ds → DpAll K F (v :: vs) (d :: ds)
end
mutual
theorem Dp.deep {K : PySem.W.Frag} {F F' : Hp} (l : ∀ a o, F a = some o → F' a = some o) : ∀ (d : PyData) (v : V), Dp K F v d → L2.Dp K F' v d
  | .none, _, h => by cases h; exact .non
  | .bool b, _, h => by cases h; exact .bl b
  | .int i, _, h => by cases h; exact .int i
  | .str x, _, h => by cases h; exact .str x
  | .list ds, _, h => by
    cases h with
    | lst hs ha => exact .lst (.inl (.inl (l _ _ hs))) (DpAll.deep l ds _ ha)
  | .tuple ds, _, h => by
    cases h with
    | tup hs ha => exact .tup (SqT.up l hs.t) (DpAll.deep l ds _ ha)
  | .dict _, _, h => by cases h
theorem DpAll.deep {K : PySem.W.Frag} {F F' : Hp} (l : ∀ a o, F a = some o → F' a = some o) : ∀ (ds : List PyData) (vs : List V), DpAll K F vs ds → L2.DpAll K F' vs ds
  | [], _, h => by cases h; exact .nil
  | d :: ds, _, h => by
    cases h with
    | cons h1 h2 => exact .cons (Dp.deep l d _ h1) (DpAll.deep l ds _ h2)
end
mutual
theorem Dp.up {K : PySem.W.Frag} {F F' : Hp} (l : ∀ a o, F a = some o → F' a = some o) : ∀ (d : PyData) (v : V), Dp K F v d → Dp K F' v d
  | .none, _, h => by cases h; exact .non
  | .bool b, _, h => by cases h; exact .bl b
  | .int i, _, h => by cases h; exact .int i
  | .str x, _, h => by cases h; exact .str x
  | .list ds, _, h => by
    cases h with
    | lst hs ha => exact .lst (l _ _ hs) (DpAll.up l ds _ ha)
  | .tuple ds, _, h => by
    cases h with
    | tup hs ha => exact .tup (hs.up l) (DpAll.up l ds _ ha)
  | .dict _, _, h => by cases h
theorem DpAll.up {K : PySem.W.Frag} {F F' : Hp} (l : ∀ a o, F a = some o → F' a = some o) : ∀ (ds : List PyData) (vs : List V), DpAll K F vs ds → DpAll K F' vs ds
  | [], _, h => by cases h; exact .nil
  | d :: ds, _, h => by
    cases h with
    | cons h1 h2 => exact .cons (Dp.up l d _ h1) (DpAll.up l ds _ h2)
end
theorem DpAll.len {K : PySem.W.Frag} {F : Hp} : ∀ {vs : List V} {ds : List PyData}, DpAll K F vs ds → vs.length = ds.length
  | _, _, .nil => rfl
  | _, _, .cons _ t => by simp [DpAll.len t]
theorem DpAll.get {K : PySem.W.Frag} {F : Hp} : ∀ {vs : List V} {ds : List PyData} {i : Nat} {d : PyData}, DpAll K F vs ds → ds[i]? = some d → ∃ v, vs[i]? = some v ∧ Dp K F v d
  | _, _, _, _, .nil, e => by simp at e
  | _, _, 0, _, .cons r _, e => by simp at e; subst e; exact ⟨_, rfl, r⟩
  | _, _, i + 1, d, .cons _ t, e => by
    obtain ⟨u, h1, h2⟩ := DpAll.get (i := i) (d := d) t (by simpa using e)
    exact ⟨u, by simpa using h1, h2⟩
theorem DpAll.get' {K : PySem.W.Frag} {F : Hp} : ∀ {vs : List V} {ds : List PyData} {i : Nat} {v : V}, DpAll K F vs ds → vs[i]? = some v → ∃ d, ds[i]? = some d ∧ Dp K F v d
  | _, _, _, _, .nil, e => by simp at e
  | _, _, 0, _, .cons r _, e => by simp at e; subst e; exact ⟨_, rfl, r⟩
  | _, _, i + 1, v, .cons _ t, e => by
    obtain ⟨u, h1, h2⟩ := DpAll.get' (i := i) (v := v) t (by simpa using e)
    exact ⟨u, by simpa using h1, h2⟩
theorem DpAll.app {K : PySem.W.Frag} {F : Hp} : ∀ {vs ws : List V} {ds es : List PyData}, DpAll K F vs ds → DpAll K F ws es → DpAll K F (vs ++ ws) (ds ++ es)
  | _, _, _, _, .nil, h => h
  | _, _, _, _, .cons r t, h => .cons r (DpAll.app t h)
theorem DpAll.take {K : PySem.W.Frag} {F : Hp} : ∀ {vs : List V} {ds : List PyData} (n : Nat), DpAll K F vs ds → DpAll K F (vs.take n) (ds.take n)
  | _, _, 0, _ => .nil
  | _, _, _ + 1, .nil => .nil
  | _, _, n + 1, .cons r t => .cons r (DpAll.take n t)
theorem DpAll.drop {K : PySem.W.Frag} {F : Hp} : ∀ {vs : List V} {ds : List PyData} (n : Nat), DpAll K F vs ds → DpAll K F (vs.drop n) (ds.drop n)
  | _, _, 0, h => h
  | _, _, _ + 1, .nil => .nil
  | _, _, n + 1, .cons _ t => DpAll.drop n t
theorem DpAll.set {K : PySem.W.Frag} {F : Hp} {v : V} {d : PyData} (r : Dp K F v d) : ∀ {vs : List V} {ds : List PyData} (i : Nat), DpAll K F vs ds → DpAll K F (vs.set i v) (ds.set i d)
  | _, _, _, .nil => .nil
  | _, _, 0, .cons _ t => .cons r t
  | _, _, i + 1, .cons q t => .cons q (DpAll.set r i t)
theorem DpAll.erase {K : PySem.W.Frag} {F : Hp} : ∀ {vs : List V} {ds : List PyData} (i : Nat), DpAll K F vs ds → DpAll K F (vs.eraseIdx i) (ds.eraseIdx i)
  | _, _, _, .nil => .nil
  | _, _, 0, .cons _ t => t
  | _, _, i + 1, .cons r t => .cons r (DpAll.erase i t)
theorem DpAll.rep {K : PySem.W.Frag} {F : Hp} {vs : List V} {ds : List PyData} (h : DpAll K F vs ds) : ∀ k : Nat, DpAll K F (List.replicate k vs).flatten (List.replicate k ds).flatten
  | 0 => .nil
  | k + 1 => by
    rw [List.replicate_succ, List.replicate_succ, List.flatten_cons, List.flatten_cons]
    exact DpAll.app h (DpAll.rep h k)
theorem DpAll.ints {K : PySem.W.Frag} {F : Hp} : ∀ (ns : List Int), DpAll K F (ns.map V.int) (ns.map PyData.int)
  | [] => .nil
  | n :: ns => .cons (.int n) (DpAll.ints ns)
theorem Dp.uniq {K : PySem.W.Frag} {F : Hp} {v : V} : ∀ {d : PyData}, (∀ a, v ≠ .ref a) → ∀ {d' : PyData}, Dp K F v d → Dp K F v d' → d = d' := by
  intro d hn d' h h'
  cases h <;> cases h' <;> first | rfl | exact absurd rfl (hn _)
/-- an error that is kept -/
def errO (e : Addr) (cls : Value) (d : Option Addr) : HO := .ext fun h => ∃ (o : Obj) (vs : Array Value), h.get? e = some o ∧ o.cls = cls ∧ o.dict = d ∧ o.data = .fields vs
def XF (K : PySem.W.Frag) (F : Hp) (d : Option Addr) (fs : List (Str × PyData)) : Prop :=
  (fs = [] → d = none) ∧ (fs ≠ [] → ∃ q vs, d = some q ∧ F q = some (.xd vs) ∧ vs.map (·.1) = fs.map (·.1) ∧ DpAll K F (vs.map (·.2)) (fs.map (·.2)))
/-- how a value lies -/
def RV (K : PySem.W.Frag) (w : Wd) : Vl → V → Prop
  | .d x, v => Dp K w.F v x
  | .h i, v => ∃ a, w.as[i]? = some a ∧ v = .ref a
  | .a p, v => v = .ref p
  | .t n, v => v = .ty n
  | .x n fs, v => ∃ p d, v = .ref p ∧ w.F p = some (errO p (.ref (He.ga K n)) d) ∧ XF K w.F d fs
  | .c n, v => v = .ref (He.ga K n)
  | .s xs, v => ∃ p vs, v = .ref p ∧ SqL K w.F p vs ∧ DpAll K w.F vs xs
theorem XF.up {K : PySem.W.Frag} {F F' : Hp} (l : ∀ a o, F a = some o → F' a = some o) {d : Option Addr} {fs : List (Str × PyData)} (h : XF K F d fs) : XF K F' d fs := ⟨h.1, fun hn => by
  obtain ⟨q, vs, e1, e2, e3, e4⟩ := h.2 hn
  exact ⟨q, vs, e1, l _ _ e2, e3, DpAll.up l _ _ e4⟩⟩
theorem RV.up {K : PySem.W.Frag} {w w' : Wd} (l : w.le w') : ∀ {x : Vl} {v : V}, RV K w x v → RV K w' x v
  | .d x, v, h => Dp.up l.2 x v h
  | .h i, v, ⟨a, e, r⟩ => ⟨a, l.get e, r⟩
  | .a p, v, h => h
  | .t n, v, h => h
  | .x n fs, v, ⟨p, d, e, r, q⟩ => ⟨p, d, e, l.2 _ _ r, q.up l.2⟩
  | .c n, v, h => h
  | .s xs, v, ⟨p, vs, e, r, q⟩ => ⟨p, vs, e, SqL.up l.2 r, DpAll.up l.2 _ _ q⟩
inductive RVs (K : PySem.W.Frag) (w : Wd) : List Vl → List V → Prop
  | nil : RVs K w [] []
  | cons {x : Vl} {xs : List Vl} {v : V} {vs : List V} : RV K w x v → RVs K w xs vs → RVs K w (x :: xs) (v :: vs)
theorem RVs.up {K : PySem.W.Frag} {w w' : Wd} (l : w.le w') : ∀ {xs : List Vl} {vs : List V}, RVs K w xs vs → RVs K w' xs vs
  | _, _, .nil => .nil
  | _, _, .cons r t => .cons (RV.up l r) (RVs.up l t)
theorem RVs.len {K : PySem.W.Frag} {w : Wd} : ∀ {xs : List Vl} {vs : List V}, RVs K w xs vs → xs.length = vs.length
  | _, _, .nil => rfl
  | _, _, .cons _ t => by simp [RVs.len t]
theorem RVs.get {K : PySem.W.Frag} {w : Wd} : ∀ {xs : List Vl} {vs : List V} {i : Nat} {x : Vl}, RVs K w xs vs → xs[i]? = some x → ∃ v, vs[i]? = some v ∧ RV K w x v
  | _, _, _, _, .nil, e => by simp at e
  | _, _, 0, _, .cons r _, e => by simp at e; subst e; exact ⟨_, rfl, r⟩
  | _, _, i + 1, x, .cons _ t, e => by
    obtain ⟨u, h1, h2⟩ := RVs.get (i := i) (x := x) t (by simpa using e)
    exact ⟨u, by simpa using h1, h2⟩
theorem RVs.app {K : PySem.W.Frag} {w : Wd} : ∀ {xs ys : List Vl} {vs us : List V}, RVs K w xs vs → RVs K w ys us → RVs K w (xs ++ ys) (vs ++ us)
  | _, _, _, _, .nil, h => h
  | _, _, _, _, .cons r t, h => .cons r (RVs.app t h)
theorem RV.reP {K : PySem.W.Frag} {w : Wd} {P : Hp} : ∀ {x : Vl} {v : V}, RV K w x v → RV K ⟨w.as, w.F, P⟩ x v
  | .d _, _, h => h
  | .h _, _, h => h
  | .a _, _, h => h
  | .t _, _, h => h
  | .x _ _, _, h => h
  | .c _, _, h => h
  | .s _, _, h => h
theorem RVs.reP {K : PySem.W.Frag} {w : Wd} {P : Hp} : ∀ {xs : List Vl} {vs : List V}, RVs K w xs vs → RVs K ⟨w.as, w.F, P⟩ xs vs
  | _, _, .nil => .nil
  | _, _, .cons r t => .cons r.reP (RVs.reP t)
/-- with fewer handles -/
theorem RVs.low {K : PySem.W.Frag} {w : Wd} {n : Nat} : ∀ {xs : List Vl} {vs : List V}, RVs K w xs vs → (∀ j, Vl.h j ∈ xs → j < n) → RVs K ⟨w.as.take n, w.F, w.P⟩ xs vs
  | _, _, .nil, _ => .nil
  | .d _ :: _, _, .cons r t, h => .cons r (RVs.low t fun j hj => h j (List.mem_cons_of_mem _ hj))
  | .h k :: _, _, .cons ⟨a, e, v⟩ t, h => .cons ⟨a, (List.getElem?_take_of_lt (h k List.mem_cons_self)).trans e, v⟩ (RVs.low t fun j hj => h j (List.mem_cons_of_mem _ hj))
  | .a _ :: _, _, .cons r t, h => .cons r (RVs.low t fun j hj => h j (List.mem_cons_of_mem _ hj))
  | .t _ :: _, _, .cons r t, h => .cons r (RVs.low t fun j hj => h j (List.mem_cons_of_mem _ hj))
  | .x _ _ :: _, _, .cons r t, h => .cons r (RVs.low t fun j hj => h j (List.mem_cons_of_mem _ hj))
  | .c _ :: _, _, .cons r t, h => .cons r (RVs.low t fun j hj => h j (List.mem_cons_of_mem _ hj))
  | .s _ :: _, _, .cons r t, h => .cons r (RVs.low t fun j hj => h j (List.mem_cons_of_mem _ hj))
/-- all of them data -/
def datas : List Vl → Option (List PyData)
  | [] => some []
  | .d x :: r => (datas r).map (x :: ·)
  | _ :: _ => none
theorem RVs.dat {K : PySem.W.Frag} {w : Wd} : ∀ {xs : List Vl} {vs : List V} {ds : List PyData}, RVs K w xs vs → datas xs = some ds → DpAll K w.F vs ds
  | _, _, _, .nil, e => by
    have : [] = _ := Option.some.inj e
    subst this
    exact .nil
  | .d x :: r, _, ds, .cons h t, e => by
    cases q : datas r with
    | none => simp [datas, q] at e
    | some l =>
      simp [datas, q] at e
      subst e
      exact .cons h (RVs.dat t q)
  | .h _ :: _, _, _, .cons _ _, e => by simp [datas] at e
  | .a _ :: _, _, _, .cons _ _, e => by simp [datas] at e
  | .t _ :: _, _, _, .cons _ _, e => by simp [datas] at e
  | .x _ _ :: _, _, _, .cons _ _, e => by simp [datas] at e
  | .c _ :: _, _, _, .cons _ _, e => by simp [datas] at e
  | .s _ :: _, _, _, .cons _ _, e => by simp [datas] at e
/-- the names' values -/
structure RE (K : PySem.W.Frag) (w : Wd) (e : Env) (σ : L2.St) : Prop where
  len : e.length = σ.length
  get : ∀ (i : Nat) (x : Vl), e[i]? = some (some x) → ∃ v, σ[i]? = some (some v) ∧ RV K w x v
theorem RE.up {K : PySem.W.Frag} {w w' : Wd} (l : w.le w') {e : Env} {σ : St} (h : RE K w e σ) : RE K w' e σ :=
  ⟨h.len, fun i x q => let ⟨v, a, b⟩ := h.get i x q; ⟨v, a, RV.up l b⟩⟩
theorem RE.set {K : PySem.W.Frag} {w : Wd} {e : Env} {σ : St} (h : RE K w e σ) {x : Vl} {v : V} (r : RV K w x v) (i : Nat) : RE K w (e.set i (some x)) (σ.set i (some v)) :=
  ⟨by simp [h.len], fun j y q => by
    by_cases hj : i = j
    · subst hj
      by_cases hi : i < e.length
      · rw [List.getElem?_set_self hi] at q
        cases q
        exact ⟨v, by rw [List.getElem?_set_self (by rw [← h.len]; exact hi)], r⟩
      · rw [List.getElem?_eq_none (by simpa using hi)] at q
        cases q
    · rw [List.getElem?_set_ne hj] at q ⊢
      exact h.get j y q⟩
theorem RE.unset {K : PySem.W.Frag} {w : Wd} {e : Env} {σ : St} (h : RE K w e σ) (i : Nat) : RE K w (e.set i none) (σ.set i none) :=
  ⟨by simp [h.len], fun j y q => by
    by_cases hj : i = j
    · subst hj
      by_cases hi : i < e.length
      · rw [List.getElem?_set_self hi] at q
        cases q
      · rw [List.getElem?_eq_none (by simpa using hi)] at q
        cases q
    · rw [List.getElem?_set_ne hj] at q ⊢
      exact h.get j y q⟩
/-- a slot that is known no more -/
def ewipe (e : Env) : List Nat → Env
  | [] => e
  | v :: vs => (ewipe e vs).set v none
theorem RE.wiped {K : PySem.W.Frag} {w : Wd} {e : Env} {σ : L2.St} (h : RE K w e σ) : ∀ vs : List Nat, RE K w (ewipe e vs) (wipe σ vs)
  | [] => h
  | v :: vs => (RE.wiped h vs).unset v
/-- a dict's pairs, as they lie -/
inductive DcAll (K : PySem.W.Frag) (F : Hp) : List (PyData × PyData) → List (NestedKey × Addr × Value) → Prop
  | nil : DcAll K F [] []
  | cons {k d : PyData} {x : NestedKey} {a : Addr} {v : V} {u : Value} {kvs : List (PyData × PyData)} {xs : List (NestedKey × Addr × Value)} : nk k = some x → x.depth ≤ 8 → Dp K F (.ref a) k → RelV v u → Dp K F v d → DcAll K F kvs xs → DcAll K F ((k, d) :: kvs) ((x, a, u) :: xs)
theorem DcAll.up {K : PySem.W.Frag} {F F' : Hp} (l : ∀ a o, F a = some o → F' a = some o) : ∀ {kvs : List (PyData × PyData)} {xs : List (NestedKey × Addr × Value)}, DcAll K F kvs xs → DcAll K F' kvs xs
  | _, _, .nil => .nil
  | _, _, .cons h1 h2 h3 h4 h5 t => .cons h1 h2 (Dp.up l _ _ h3) h4 (Dp.up l _ _ h5) (DcAll.up l t)
/-- how a handle's matter lies -/
def MOk (K : PySem.W.Frag) (w : Wd) (a : Addr) (o : Option HO) : MO → Prop
  | .gone => ∃ u, o = some u
  | .lst xs => w.F a = none ∧ ∃ vs, o = some (.lst vs) ∧ DpAll K w.F vs xs
  | .nest xs => w.F a = none ∧ ∃ i vs, w.as[i]? = some a ∧ o = some (.lst vs) ∧ RVs K w xs vs ∧ ∀ j, Vl.h j ∈ xs → j < i
  | .dct kvs => w.F a = none ∧ (a == sysModules) = false ∧ kvs.length ≤ sizeLine ∧ ∃ xs, o = some (DctO a xs) ∧ DcAll K w.F kvs xs ∧ (xs.map (·.1)).Nodup
/-- the world's shape in the abstract heap -/
structure Rel (K : PySem.W.Frag) (w : Wd) (M : Mem) (H : Hp) : Prop where
  sub : ∀ a o, w.F a = some o → H a = some o
  len : w.as.length = M.length
  nd : w.as.Nodup
  pin : ∀ a o, w.P a = some o → H a = some o ∧ w.F a = none ∧ a ∉ w.as
  ob : ∀ (i : Nat) (a : Addr) (m : MO), w.as[i]? = some a → M[i]? = some m → MOk K w a (H a) m
theorem Rel.there {K : PySem.W.Frag} {w : Wd} {M : Mem} {H : Hp} (r : Rel K w M H) {a : Addr} (h : a ∈ w.as) : ∃ u, H a = some u := by
  obtain ⟨i, hi⟩ := List.mem_iff_getElem?.mp h
  have hl : i < M.length := by rw [← r.len]; exact (List.getElem?_eq_some_iff.mp hi).1
  have q := r.ob i a _ hi (List.getElem?_eq_getElem hl)
  cases e : M[i] with
  | gone => rw [e] at q; exact q
  | lst xs => rw [e] at q; obtain ⟨_, vs, e2, _⟩ := q; exact ⟨_, e2⟩
  | nest xs => rw [e] at q; obtain ⟨_, _, vs, _, e2, _⟩ := q; exact ⟨_, e2⟩
  | dct kvs => rw [e] at q; obtain ⟨_, _, _, xs, e2, _⟩ := q; exact ⟨_, e2⟩
theorem Rel.new {K : PySem.W.Frag} {w : Wd} {M : Mem} {H : Hp} (r : Rel K w M H) {p : Addr} (h : H p = none) : p ∉ w.as ∧ w.F p = none := by
  refine ⟨fun hm => ?_, ?_⟩
  · obtain ⟨u, e⟩ := r.there hm
    rw [h] at e; cases e
  · cases e : w.F p with
    | none => rfl
    | some o => have := r.sub p o e; rw [h] at this; cases this
/-- the world with p frozen as o -/
def Wd.fz (w : Wd) (p : Addr) (o : HO) : Wd := ⟨w.as, upd w.F p o, w.P⟩
def Wd.add (w : Wd) (p : Addr) : Wd := ⟨w.as ++ [p], w.F, w.P⟩
theorem Wd.le_fz {w : Wd} {p : Addr} {o : HO} (h : w.F p = none) : w.le (w.fz p o) :=
  ⟨List.prefix_refl _, fun a u e => by
    show upd w.F p o a = some u
    rw [upd_ne (ne_of_none e h)]; exact e, rfl⟩
theorem Wd.le_add {w : Wd} {p : Addr} : w.le (w.add p) := ⟨List.prefix_append _ _, fun _ _ e => e, rfl⟩
theorem MOk.up {K : PySem.W.Frag} {w w' : Wd} (l : w.le w') {a : Addr} {o : Option HO} (hF : w'.F a = none ∨ w.F a = w'.F a) : ∀ {m : MO}, MOk K w a o m → MOk K w' a o m
  | .gone, h => h
  | .lst xs, ⟨e, vs, e2, d⟩ => ⟨by rcases hF with q | q; exact q; rw [← q]; exact e, vs, e2, DpAll.up l.2 _ _ d⟩
  | .nest xs, ⟨e, i, vs, ei, e2, d, hj⟩ => ⟨by rcases hF with q | q; exact q; rw [← q]; exact e, i, vs, l.get ei, e2, RVs.up l d, hj⟩
  | .dct kvs, ⟨e, q, z, xs, e2, d, n⟩ => ⟨by rcases hF with q | q; exact q; rw [← q]; exact e, q, z, xs, e2, d.up l.2, n⟩
/-- a new frozen object -/
theorem Rel.alloc {K : PySem.W.Frag} {w : Wd} {M : Mem} {H : Hp} (r : Rel K w M H) {p : Addr} (h : H p = none) (o : HO) : Rel K (w.fz p o) M (upd H p o) := by
  obtain ⟨h1, h2⟩ := r.new h
  refine ⟨fun a u e => ?_, r.len, r.nd, fun a u e => ?_, fun i a m e1 e2 => ?_⟩
  rotate_left
  · obtain ⟨q1, q2, q3⟩ := r.pin a u e
    have ha : a ≠ p := ne_of_none q1 h
    exact ⟨by rw [upd_ne ha]; exact q1, by show upd w.F p o a = none; rw [upd_ne ha]; exact q2, q3⟩
  rotate_left
  · have e : upd w.F p o a = some u := e
    by_cases ha : a = p
    · subst ha; rw [upd_same] at e ⊢; exact e
    · rw [upd_ne ha] at e ⊢; exact r.sub a u e
  · have ha : a ≠ p := fun z => h1 (z ▸ List.mem_of_getElem? e1)
    rw [upd_ne ha]
    exact (r.ob i a m e1 e2).up (Wd.le_fz h2) (.inr (by show _ = upd w.F p o a; rw [upd_ne ha]))
/-- a new handle -/
theorem Rel.fresh {K : PySem.W.Frag} {w : Wd} {M : Mem} {H : Hp} (r : Rel K w M H) {p : Addr} (h : H p = none) {vs : List V} {xs : List PyData} (d : DpAll K w.F vs xs) : Rel K (w.add p) (M ++ [.lst xs]) (upd H p (.lst vs)) := by
  obtain ⟨h1, h2⟩ := r.new h
  refine ⟨fun a u e => ?_, by show (w.as ++ [p]).length = _; simp [r.len], ?_, fun a u e => ?_, fun i a m e1 e2 => ?_⟩
  rotate_left 2
  · obtain ⟨q1, q2, q3⟩ := r.pin a u e
    have ha : a ≠ p := ne_of_none q1 h
    exact ⟨by rw [upd_ne ha]; exact q1, q2, by show a ∉ w.as ++ [p]; simp [q3, ha]⟩
  rotate_left
  · have e : w.F a = some u := e
    rw [upd_ne (ne_of_none e h2)]; exact r.sub a u e
  · show (w.as ++ [p]).Nodup
    rw [List.nodup_append]
    refine ⟨r.nd, by simp, fun a ha b hb z => ?_⟩
    have : b = p := by simpa using hb
    exact h1 (this ▸ z ▸ ha)
  · have e1 : (w.as ++ [p])[i]? = some a := e1
    by_cases hi : i < w.as.length
    · rw [List.getElem?_append_left hi] at e1
      rw [List.getElem?_append_left (by rw [← r.len]; exact hi)] at e2
      have ha : a ≠ p := fun z => h1 (z ▸ List.mem_of_getElem? e1)
      rw [upd_ne ha]
      exact (r.ob i a m e1 e2).up Wd.le_add (.inr rfl)
    · have hl : i = w.as.length := by
        have := (List.getElem?_eq_some_iff.mp e1).1
        simp at this; omega
      subst hl
      rw [List.getElem?_append_right (Nat.le_refl _)] at e1
      rw [r.len, List.getElem?_append_right (Nat.le_refl _)] at e2
      simp at e1 e2
      subst e1 e2
      rw [upd_same]
      exact ⟨h2, vs, rfl, d⟩
theorem Rel.at {K : PySem.W.Frag} {w : Wd} {M : Mem} {H : Hp} (r : Rel K w M H) {i : Nat} {a : Addr} {xs : List PyData} (h : w.as[i]? = some a) (hm : M[i]? = some (.lst xs)) : w.F a = none ∧ ∃ vs, H a = some (.lst vs) ∧ DpAll K w.F vs xs := r.ob i a _ h hm
theorem nodup_get {l : List Addr} (h : l.Nodup) {i j : Nat} {a : Addr} (hi : l[i]? = some a) (hj : l[j]? = some a) : i = j := by
  obtain ⟨h1, e1⟩ := List.getElem?_eq_some_iff.mp hi
  obtain ⟨h2, e2⟩ := List.getElem?_eq_some_iff.mp hj
  exact (List.getElem_inj h).mp (e1.trans e2.symm)
/-- a handle's list is changed -/
theorem Rel.write {K : PySem.W.Frag} {w : Wd} {M : Mem} {H : Hp} (r : Rel K w M H) {i : Nat} {a : Addr} (h : w.as[i]? = some a) (hF : w.F a = none) {vs : List V} {xs : List PyData} (d : DpAll K w.F vs xs) : Rel K w (M.set i (.lst xs)) (upd H a (.lst vs)) := by
  have ha : a ∈ w.as := List.mem_of_getElem? h
  refine ⟨fun b u e => ?_, by simp [r.len], r.nd, fun b u e => ?_, fun j b m e1 e2 => ?_⟩
  rotate_left
  · obtain ⟨q1, q2, q3⟩ := r.pin b u e
    have hb : b ≠ a := fun z => q3 (z ▸ ha)
    exact ⟨by rw [upd_ne hb]; exact q1, q2, q3⟩
  rotate_left
  · rw [upd_ne (ne_of_none e hF)]; exact r.sub b u e
  · by_cases hj : i = j
    · subst hj
      rw [h] at e1; cases e1
      have hl : i < M.length := by rw [← r.len]; exact (List.getElem?_eq_some_iff.mp h).1
      rw [List.getElem?_set_self hl] at e2; cases e2
      rw [upd_same]
      exact ⟨hF, vs, rfl, d⟩
    · rw [List.getElem?_set_ne hj] at e2
      have hb : b ≠ a := fun z => hj (nodup_get r.nd h (z ▸ e1))
      rw [upd_ne hb]
      exact r.ob j b m e1 e2
/-- a handle's list is frozen -/
theorem Rel.freeze {K : PySem.W.Frag} {w : Wd} {M : Mem} {H : Hp} (r : Rel K w M H) {i : Nat} {a : Addr} (h : w.as[i]? = some a) {vs : List V} {xs : List PyData} (hF : w.F a = none) (e : H a = some (.lst vs)) : Rel K (w.fz a (.lst vs)) (M.set i .gone) H := by
  have ha : a ∈ w.as := List.mem_of_getElem? h
  refine ⟨fun b u q => ?_, by show w.as.length = _; simp [r.len], r.nd, fun b u e => ?_, fun j b m e1 e2 => ?_⟩
  rotate_left
  · obtain ⟨q1, q2, q3⟩ := r.pin b u e
    have hb : b ≠ a := fun z => q3 (z ▸ ha)
    exact ⟨q1, by show upd w.F a _ b = none; rw [upd_ne hb]; exact q2, q3⟩
  rotate_left
  · have q : upd w.F a (.lst vs) b = some u := q
    by_cases hb : b = a
    · subst hb; rw [upd_same] at q; rw [← q]; exact e
    · rw [upd_ne hb] at q; exact r.sub b u q
  · have e1 : w.as[j]? = some b := e1
    by_cases hj : i = j
    · subst hj
      rw [h] at e1; cases e1
      have hl : i < M.length := by rw [← r.len]; exact (List.getElem?_eq_some_iff.mp h).1
      rw [List.getElem?_set_self hl] at e2; cases e2
      exact ⟨_, e⟩
    · rw [List.getElem?_set_ne hj] at e2
      have hb : b ≠ a := fun z => hj (nodup_get r.nd h (z ▸ e1))
      exact (r.ob j b m e1 e2).up (Wd.le_fz hF) (.inr (by show _ = upd w.F a _ b; rw [upd_ne hb]))
/-- set aside, and taken back -/
theorem Rel.aside {K : PySem.W.Frag} {w : Wd} {M : Mem} {H : Hp} (r : Rel K w M H) {p : Addr} {o : HO} (hF : w.F p = none) (hA : p ∉ w.as) : Rel K ⟨w.as, w.F, upd w.P p o⟩ M (upd H p o) := by
  refine ⟨fun a u e => ?_, r.len, r.nd, fun a u e => ?_, fun i a m e1 e2 => ?_⟩
  · rw [upd_ne (ne_of_none e hF)]; exact r.sub a u e
  · have e : upd w.P p o a = some u := e
    by_cases ha : a = p
    · subst ha
      rw [upd_same] at e
      exact ⟨by rw [upd_same]; exact e, hF, hA⟩
    · rw [upd_ne ha] at e
      rw [upd_ne ha]
      exact r.pin a u e
  · have ha : a ≠ p := fun z => hA (z ▸ List.mem_of_getElem? e1)
    rw [upd_ne ha]
    have q := r.ob i a m e1 e2
    cases m with
    | gone => exact q
    | lst xs => exact q
    | nest xs => obtain ⟨q1, j, vs, q2, q3, q4, q5⟩ := q; exact ⟨q1, j, vs, q2, q3, q4.reP, q5⟩
    | dct kvs => exact q
theorem Rel.back {K : PySem.W.Frag} {w : Wd} {M : Mem} {H : Hp} (r : Rel K w M H) {P : Hp} (hP : ∀ a o, P a = some o → w.P a = some o) : Rel K ⟨w.as, w.F, P⟩ M H := by
  refine ⟨r.sub, r.len, r.nd, fun a u e => r.pin a u (hP a u e), fun i a m e1 e2 => ?_⟩
  have q := r.ob i a m e1 e2
  cases m with
  | gone => exact q
  | lst xs => exact q
  | nest xs => obtain ⟨q1, j, vs, q2, q3, q4, q5⟩ := q; exact ⟨q1, j, vs, q2, q3, q4.reP, q5⟩
  | dct kvs => exact q
/-- younger handles are forgotten -/
theorem Rel.cut {K : PySem.W.Frag} {w : Wd} {M : Mem} {H : Hp} (r : Rel K w M H) (n : Nat) : Rel K ⟨w.as.take n, w.F, w.P⟩ (M.take n) H := by
  refine ⟨r.sub, by simp [r.len], r.nd.sublist (List.take_sublist _ _), fun a u e => let ⟨q1, q2, q3⟩ := r.pin a u e; ⟨q1, q2, fun z => q3 (List.mem_of_mem_take z)⟩, fun i a m e1 e2 => ?_⟩
  have e1 : (w.as.take n)[i]? = some a := e1
  have hi : i < n := by
    have := (List.getElem?_eq_some_iff.mp e1).1
    simp at this; omega
  rw [List.getElem?_take_of_lt hi] at e1 e2
  have q := r.ob i a m e1 e2
  cases m with
  | gone => exact q
  | lst xs => exact q
  | dct kvs => exact q
  | nest xs =>
    obtain ⟨q1, j, vs, q2, q3, q4, q5⟩ := q
    have hj : j = i := by
      exact nodup_get r.nd q2 e1
    subst hj
    exact ⟨q1, j, vs, (List.getElem?_take_of_lt hi).trans q2, q3, q4.low fun k hk => Nat.lt_trans (q5 k hk) hi, q5⟩
end DL
namespace DL
open PySem PySem.Spec L2
abbrev Frag := PySem.W.Frag
/-- an error's own dict -/
def XD (K : Frag) (w : Wd) (H : Hp) (d : Option Addr) (fs : List (Str × PyData)) : Prop :=
  (fs = [] → d = none) ∧ (fs ≠ [] → ∃ p vs, d = some p ∧ H p = some (.xd vs) ∧ vs.map (·.1) = fs.map (·.1) ∧ DpAll K w.F (vs.map (·.2)) (fs.map (·.2)) ∧ w.F p = none ∧ p ∉ w.as ∧ w.P p = none)
theorem XD.cut {K : Frag} {w : Wd} {H : Hp} {d : Option Addr} {fs : List (Str × PyData)} (h : XD K w H d fs) (n : Nat) : XD K ⟨w.as.take n, w.F, w.P⟩ H d fs := ⟨h.1, fun hn => by
  obtain ⟨p, vs, e1, e2, e3, e4, e5, e6, e7⟩ := h.2 hn
  exact ⟨p, vs, e1, e2, e3, e4, e5, fun z => e6 (List.mem_of_mem_take z), e7⟩⟩
/-- what is wanted of an outcome -/
def Post {α β : Type} (K : Frag) (E : XK) (RR : Wd → α → β → Prop) (w : Wd) (r : Res α) (Q : β → Hp → Prop) : Prop :=
  match r with
  | .ok x M => ∀ w' v H', w.le w' → Rel K w' M H' → RR w' x v → Q v H'
  | .er C fs M => ∀ w' d H', w.le w' → Rel K w' M H' → XD K w' H' d fs → E (.ref (He.ga K C)) d H'
  | .st => False
section
variable {α β γ δ : Type} {K : Frag} {E : XK} {RR : Wd → α → β → Prop} {RS : Wd → γ → δ → Prop} {w w' : Wd}
theorem Post.up {r : Res α} {Q : β → Hp → Prop} (l : w.le w') (h : Post K E RR w r Q) : Post K E RR w' r Q := by
  cases r with
  | ok x M => exact fun w2 v H' l2 => h w2 v H' (l.trans l2)
  | er C fs M => exact fun w2 d H' l2 => h w2 d H' (l.trans l2)
  | st => exact h
theorem Post.bind {r : Res α} {k : α → Mem → Res γ} {Q : δ → Hp → Prop} {R : β → Hp → Prop} (p : Post K E RS w (r.bind k) Q)
    (h : ∀ x M w' v H', w.le w' → Rel K w' M H' → RR w' x v → Post K E RS w' (k x M) Q → R v H') : Post K E RR w r R := by
  cases r with
  | ok x M => exact fun w' v H' l a b => h x M w' v H' l a b (Post.up l p)
  | er C fs M => exact p
  | st => exact p
theorem Post.at {x : α} {M : Mem} {Q : β → Hp → Prop} {H : Hp} {v : β} (p : Post K E RR w (.ok x M) Q) (r : Rel K w M H) (rv : RR w x v) : Q v H := p w v H (Wd.le_refl w) r rv
end
def tG {α β : Type} (K : Frag) (W : WX) (RR : Wd → α → β → Prop) (f : Env → Mem → Res α) : L2.St → Hp → (β → Hp → Prop) → Prop := fun σ H Q =>
  ∃ w e M, Rel K w M H ∧ RE K w e σ ∧ Post K (WE W σ) RR w (f e M) Q
abbrev tE (K : Frag) (W : WX) (f : Ev) : TE := tG K W (RV K) f
abbrev tT (K : Frag) (W : WX) (f : Env → Mem → Res Bool) : TT := tG K W (fun _ a b => a = b) f
abbrev tA (K : Frag) (W : WX) (f : Evs) : TA := tG K W (RVs K) f
/-- an expression's worth -/
def DE (X : Cx) (W : WX) (e : Expr) (f : Ev) : Prop := PE X e (tE X.K W f)
def DT (X : Cx) (W : WX) (e : Expr) (f : Env → Mem → Res Bool) : Prop := PT X e (tT X.K W f)
def DA (X : Cx) (W : WX) (es : List Expr) (f : Evs) : Prop := PA X es (tA X.K W f)
theorem PEweak {X : Cx} {e : Expr} {t t' : TE} (h : PE X e t) (k : ∀ σ H Q, t' σ H Q → t σ H Q) : PE X e t' := ⟨fun pins s σ H Q I q => h.run pins s σ H Q I (k σ H Q q)⟩
theorem PTweak {X : Cx} {e : Expr} {t t' : TT} (h : PT X e t) (k : ∀ σ H Q, t' σ H Q → t σ H Q) : PT X e t' := ⟨fun pins s σ H Q I q => h.run pins s σ H Q I (k σ H Q q)⟩
theorem PWweak {X : Cx} {e : Expr} {t t' : TT} (h : PW X e t) (k : ∀ σ H Q, t' σ H Q → t σ H Q) : PW X e t' := ⟨fun wh pins s σ H Q I q => h.run wh pins s σ H Q I (k σ H Q q)⟩
theorem PAweak {X : Cx} {e : List Expr} {t t' : TA} (h : PA X e t) (k : ∀ σ H Q, t' σ H Q → t σ H Q) : PA X e t' := ⟨fun pos pins s σ H Q I q => h.run pos pins s σ H Q I (k σ H Q q)⟩
theorem PSweak {X : Cx} {e : Stmt} {t t' : TS} (h : PS X e t) (k : ∀ D σ H, t' D σ H → t D σ H) : PS X e t' := ⟨fun pins s σ H D I q => h.run pins s σ H D I (k D σ H q)⟩
theorem PSsweak {X : Cx} {e : List Stmt} {t t' : TS} (h : PSs X e t) (k : ∀ D σ H, t' D σ H → t D σ H) : PSs X e t' := ⟨fun pins s σ H D I q => h.run pins s σ H D I (k D σ H q)⟩
section
variable {X : Cx} {W : WX}
def getV (i : Nat) : Ev := fun e M => match e[i]? with
  | some (some v) => .ok v M
  | _ => .st
def cst (v : Vl) : Ev := fun _ M => .ok v M
theorem de_var {i : Nat} {x : Str} {pos : Pos} (hN : X.N[i]? = some x) (hv : Vis X.env.scope x) (hd : (x == ("__debug__" : Str)) = false := by decide) (hcd : (x == ("__classdict__" : Str)) = false := by decide) : DE X W (.Name x pos) (getV i) :=
  PEweak (pe_var hN hv hd hcd) fun σ H Q ⟨w, e, M, r, re, p⟩ => by
    unfold getV at p
    cases h : e[i]? with
    | none => rw [h] at p; exact p.elim
    | some o =>
      cases o with
      | none => rw [h] at p; exact p.elim
      | some v =>
        rw [h] at p
        obtain ⟨u, e1, rv⟩ := re.get i v h
        exact ⟨u, e1, p.at r rv⟩
theorem de_c {ex : Expr} {v : V} {x : Vl} (h : PE X ex (tC v)) (hx : ∀ w, RV X.K w x v) : DE X W ex (cst x) :=
  PEweak h fun σ H Q ⟨w, e, M, r, re, p⟩ => p.at r (hx w)
theorem de_int {i j pos} : DE X W (.Constant (.int i) j pos) (cst (.d (.int i))) := de_c pe_int fun _ => .int i
theorem de_bl {b j pos} : DE X W (.Constant (.bool b) j pos) (cst (.d (.bool b))) := de_c pe_bl fun _ => .bl b
theorem de_non {j pos} : DE X W (.Constant .none j pos) (cst (.d .none)) := de_c pe_non fun _ => .non
def nilA : Evs := fun _ M => .ok [] M
def consA (f : Ev) (g : Evs) : Evs := fun e M => (f e M).bind fun x M1 => (g e M1).bind fun xs M2 => .ok (x :: xs) M2
theorem da_nil : DA X W [] nilA := PAweak pa_nil fun σ H Q ⟨w, e, M, r, re, p⟩ => p.at r .nil
theorem da_cons {e : Expr} {es : List Expr} {f : Ev} {g : Evs} (ha : DE X W e f) (hr : DA X W es g) (hs : starEach (e :: es) X.env = (false, eval e X.env) :: starEach es X.env := by rfl) : DA X W (e :: es) (consA f g) :=
  PAweak (pa_cons ha hr hs) fun σ H Q ⟨w, e, M, r, re, p⟩ =>
    ⟨w, e, M, r, re, p.bind fun x M1 w1 v H1 l1 r1 rv p1 =>
      ⟨w1, e, M1, r1, re.up l1, p1.bind fun xs M2 w2 vs H2 l2 r2 rvs p2 => p2.at r2 (.cons (rv.up l2) rvs)⟩⟩
/-- an operation on values, in data's words -/
def OpD (X : Cx) (F : Value → Value → Sem Value) (g : Vl → Vl → Mem → Res Vl) : Prop :=
  OpR X F fun x y H Q => ∃ (w : Wd) (M : Mem) (a b : Vl), Rel X.K w M H ∧ RV X.K w a x ∧ RV X.K w b y ∧ Post X.K (fun _ _ _ => False) (RV X.K) w (g a b M) Q
/-- no error comes of it -/
def Res.pur {α : Type} : Res α → Res α
  | .ok x M => .ok x M
  | _ => .st
theorem Post.pur {α β : Type} {K : Frag} {E E' : XK} {RR : Wd → α → β → Prop} {w : Wd} {r : Res α} {Q : β → Hp → Prop} (p : Post K E RR w r.pur Q) : Post K E' RR w r Q := by
  cases r with
  | ok x M => exact p
  | er C fs M => exact p.elim
  | st => exact p
def op2 (g : Vl → Vl → Mem → Res Vl) (f1 f2 : Ev) : Ev := fun e M => (f1 e M).bind fun x M1 => (f2 e M1).bind fun y M2 => (g x y M2).pur
theorem de_op {op : Operator} {a b : Expr} {g : Vl → Vl → Mem → Res Vl} {f1 f2 : Ev} {pos : Pos} (ho : OpD X (binaryOp op) g) (ha : DE X W a f1) (hb : DE X W b f2) : DE X W (.BinOp a op b pos) (op2 g f1 f2) :=
  PEweak (pe_op ho ha hb) fun σ H Q ⟨w, e, M, r, re, p⟩ =>
    ⟨w, e, M, r, re, p.bind fun x M1 w1 v H1 l1 r1 rv p1 =>
      ⟨w1, e, M1, r1, re.up l1, p1.bind fun y M2 w2 u H2 l2 r2 ru p2 => ⟨w2, M2, x, y, r2, rv.up l2, ru, p2.pur⟩⟩⟩
theorem de_cmp {op : CmpOp} {a b : Expr} {g : Vl → Vl → Mem → Res Vl} {f1 f2 : Ev} {pos : Pos} (ho : OpD X (compareOp op) g) (ha : DE X W a f1) (hb : DE X W b f2)
    (hm : behindInMarks op b = false := by first | exact nomark _ | rfl) : DE X W (.Compare a [op] [b] pos) (op2 g f1 f2) :=
  PEweak (pe_cmpR ho ha hb hm) fun σ H Q ⟨w, e, M, r, re, p⟩ =>
    ⟨w, e, M, r, re, p.bind fun x M1 w1 v H1 l1 r1 rv p1 =>
      ⟨w1, e, M1, r1, re.up l1, p1.bind fun y M2 w2 u H2 l2 r2 ru p2 => ⟨w2, M2, x, y, r2, rv.up l2, ru, p2.pur⟩⟩⟩
end
end DL
namespace DL
open PySem PySem.Spec L2
/-- a list that stands by itself -/
def lstOf (M : Mem) : Vl → Option (List PyData)
  | .d (.list xs) => some xs
  | .h i => match M[i]? with
    | some (.lst xs) => some xs
    | _ => none
  | _ => none
/-- a list that may be read -/
def rdOf (M : Mem) : Vl → Option (List PyData)
  | .s xs => some xs
  | x => lstOf M x
def tupOf : Vl → Option (List PyData)
  | .d (.tuple xs) => some xs
  | _ => none
section
variable {K : Frag} {w : Wd} {M : Mem} {H : Hp} {x : Vl} {v : V} {xs : List PyData}
theorem lst_at (r : Rel K w M H) (rv : RV K w x v) (h : lstOf M x = some xs) : ∃ p vs, v = .ref p ∧ H p = some (.lst vs) ∧ DpAll K w.F vs xs := by
  cases x with
  | d y =>
    cases y with
    | list ys =>
      obtain rfl : ys = xs := Option.some.inj h
      cases rv with
      | lst h1 h2 => exact ⟨_, _, rfl, r.sub _ _ h1, h2⟩
    | _ => cases h
  | h i =>
    obtain ⟨a, e, ev⟩ := rv
    unfold lstOf at h
    cases q : M[i]? with
    | none => simp only [q] at h; cases h
    | some m =>
      cases m with
      | gone => simp only [q] at h; cases h
      | nest _ => simp only [q] at h; cases h
      | dct _ => simp only [q] at h; cases h
      | lst ys =>
        simp only [q] at h
        cases h
        obtain ⟨_, vs, e2, d⟩ := r.at e q
        exact ⟨a, vs, ev, e2, d⟩
  | _ => cases h
theorem rd_at (r : Rel K w M H) (rv : RV K w x v) (h : rdOf M x = some xs) : ∃ p vs, v = .ref p ∧ SqL K H p vs ∧ DpAll K w.F vs xs := by
  cases x with
  | s ys =>
    have h : some ys = some xs := h
    cases h
    obtain ⟨p, vs, e, q, d⟩ := rv
    exact ⟨p, vs, e, SqL.up r.sub q, d⟩
  | d y => obtain ⟨p, vs, e, q, d⟩ := lst_at r rv (show lstOf M _ = _ from h); exact ⟨p, vs, e, .of q, d⟩
  | h i => obtain ⟨p, vs, e, q, d⟩ := lst_at r rv (show lstOf M _ = _ from h); exact ⟨p, vs, e, .of q, d⟩
  | a p => cases h
  | t n => cases h
  | x _ _ => cases h
  | c _ => cases h
theorem tup_at (r : Rel K w M H) (rv : RV K w x v) (h : tupOf x = some xs) : ∃ p vs, v = .ref p ∧ SqT K H p vs ∧ DpAll K w.F vs xs := by
  cases x with
  | d y =>
    cases y with
    | tuple ys =>
      obtain rfl : ys = xs := Option.some.inj h
      cases rv with
      | tup h1 h2 => exact ⟨_, _, rfl, SqT.up r.sub h1.t, h2⟩
    | _ => cases h
  | _ => cases h
theorem newT_of {E : XK} {vs : List V} {ds : List PyData} {Q : VK} (r : Rel K w M H) (d : DpAll K w.F vs ds) (p : Post K E (RV K) w (.ok (.d (.tuple ds)) M) Q) : NewT vs H Q := fun q o ho hq =>
  p _ _ _ (Wd.le_fz (r.new hq).2) (r.alloc hq _) (Dp.tup ⟨o, ho, upd_same⟩ (DpAll.up (Wd.le_fz (w := w) (o := .frz o (.tup vs)) (r.new hq).2).2 _ _ d))
end
def ret (x : PyData) (M : Mem) : Res Vl := .ok (.d x) M
def addV : Vl → Vl → Mem → Res Vl
  | .d (.int i), .d (.int j), M => .ok (.d (.int (i + j))) M
  | .d (.str i), .d (.str j), M => if i.length + j.length ≤ sizeLine then .ok (.d (.str (i ++ j))) M else .st
  | .d (.tuple xs), .d (.tuple ys), M => if xs ≠ [] ∧ xs.length + ys.length ≤ sizeLine then .ok (.d (.tuple (xs ++ ys))) M else .st
  | a, b, M => match lstOf M a, lstOf M b with
    | some xs, some ys => if xs.length + ys.length ≤ sizeLine then .ok (.d (.list (xs ++ ys))) M else .st
    | _, _ => .st
def subV : Vl → Vl → Mem → Res Vl
  | .d (.int i), .d (.int j), M => .ok (.d (.int (i - j))) M
  | _, _, _ => .st
/-- two ints multiplied: below a million bits together; a list so many times -/
def mulV : Vl → Vl → Mem → Res Vl
  | .d (.int i), .d (.int j), M => if (-(2 ^ 64) < i ∧ i < 2 ^ 64) ∨ (-(2 ^ 64) < j ∧ j < 2 ^ 64) ∨ i.natAbs.log2 + j.natAbs.log2 < 1000000 then .ok (.d (.int (i * j))) M else .st
  | a, .d (.int k), M => match lstOf M a with
    | some xs => if k < 2 ^ 62 ∧ -(2 ^ 62) < k ∧ xs.length * k.toNat ≤ sizeLine then .ok (.d (.list (List.replicate k.toNat xs).flatten)) M else .st
    | none => .st
  | _, _, _ => .st
def fdivV : Vl → Vl → Mem → Res Vl
  | .d (.int i), .d (.int j), M => if 0 < j ∧ j.natAbs.log2 < 9000 then .ok (.d (.int (i / j))) M else .st
  | _, _, _ => .st
def modV : Vl → Vl → Mem → Res Vl
  | .d (.int i), .d (.int j), M => if 0 < j then .ok (.d (.int (i % j))) M else .st
  | _, _, _ => .st
def powV : Vl → Vl → Mem → Res Vl
  | .d (.int i), .d (.int j), M => if 0 ≤ j ∧ j ≤ 1000000 ∧ i.natAbs < 2 ^ 64 then .ok (.d (.int (i ^ j.toNat))) M else .st
  | _, _, _ => .st
section
variable {X : Cx} {W : WX}
theorem opd_add : OpD X (binaryOp .Add) addV := by
  rintro pins s σ H x y v u Q I rx ry ⟨w, M, a, b, r, ra, rb, p⟩
  unfold addV at p
  split at p
  · cases ra; cases rb
    exact op_add pins s σ H _ _ v u Q I rx ry ⟨_, _, rfl, rfl, p.at r (.int _)⟩
  · split at p
    · rename_i hz
      cases ra; cases rb
      exact op_add_str pins s σ H _ _ v u Q I rx ry ⟨_, _, rfl, rfl, hz, p.at r (.str _)⟩
    · exact p.elim
  · split at p
    · rename_i hz
      obtain ⟨p1, vs, rfl, s1, d1⟩ := tup_at r ra (show tupOf _ = some _ from rfl)
      obtain ⟨p2, us, rfl, s2, d2⟩ := tup_at r rb (show tupOf _ = some _ from rfl)
      have l1 := d1.len
      have l2 := d2.len
      refine op_addT pins s σ H _ _ v u Q I rx ry ⟨p1, p2, vs, us, ⟨rfl, s1⟩, ⟨rfl, s2⟩, by rw [l1, l2]; exact hz.2, fun z => absurd ?_ hz.1, fun _ z => ?_, newT_of r (DpAll.app d1 d2) p⟩
      · subst z; exact List.eq_nil_of_length_eq_zero (by simpa using l1.symm)
      · subst z
        have e : _ = [] := List.eq_nil_of_length_eq_zero (by simpa using l2.symm)
        subst e
        rw [List.append_nil] at p
        exact p.at r ra
    · exact p.elim
  · split at p
    · rename_i xs ys h1 h2
      split at p
      · rename_i hz
        obtain ⟨p1, vs, rfl, s1, d1⟩ := lst_at r ra h1
        obtain ⟨p2, us, rfl, s2, d2⟩ := lst_at r rb h2
        refine op_cat pins s σ H _ _ v u Q I rx ry ⟨p1, p2, vs, us, rfl, rfl, s1, s2, by rw [d1.len, d2.len]; exact hz, fun q hq => ?_⟩
        exact p _ _ _ (Wd.le_fz (r.new hq).2) (r.alloc hq _) (Dp.lst upd_same (DpAll.up (Wd.le_fz (w := w) (o := .lst (vs ++ us)) (r.new hq).2).2 _ _ (DpAll.app d1 d2)))
      · exact p.elim
    · exact p.elim
theorem opd_sub : OpD X (binaryOp .Sub) subV := by
  rintro pins s σ H x y v u Q I rx ry ⟨w, M, a, b, r, ra, rb, p⟩
  unfold subV at p
  split at p
  · cases ra; cases rb
    exact op_sub pins s σ H _ _ v u Q I rx ry ⟨_, _, rfl, rfl, p.at r (.int _)⟩
  · exact p.elim
theorem opd_mul : OpD X (binaryOp .Mult) mulV := by
  rintro pins s σ H x y v u Q I rx ry ⟨w, M, a, b, r, ra, rb, p⟩
  unfold mulV at p
  split at p
  · split at p
    · rename_i hz
      cases ra; cases rb
      rcases hz with hz | hz | hz
      · exact op_mul pins s σ H _ _ v u Q I rx ry ⟨_, _, rfl, rfl, .inl hz, p.at r (.int _)⟩
      · exact op_mul pins s σ H _ _ v u Q I rx ry ⟨_, _, rfl, rfl, .inr hz, p.at r (.int _)⟩
      · exact op_mulW pins s σ H _ _ v u Q I rx ry ⟨_, _, rfl, rfl, hz, p.at r (.int _)⟩
    · exact p.elim
  · split at p
    · rename_i xs h1
      split at p
      · rename_i hz
        cases rb
        obtain ⟨p1, vs, rfl, s1, d1⟩ := lst_at r ra h1
        refine op_rep pins s σ H _ _ v u Q I rx ry ⟨p1, _, vs, rfl, rfl, s1, by have := hz.1; have := hz.2.1; omega, by have := hz.1; omega, by rw [d1.len]; exact hz.2.2, fun q hq => ?_⟩
        exact p _ _ _ (Wd.le_fz (r.new hq).2) (r.alloc hq _) (Dp.lst upd_same (DpAll.up (Wd.le_fz (w := w) (r.new hq).2).2 _ _ (DpAll.rep d1 _)))
      · exact p.elim
    · exact p.elim
  · exact p.elim
theorem opd_fdiv : OpD X (binaryOp .FloorDiv) fdivV := by
  rintro pins s σ H x y v u Q I rx ry ⟨w, M, a, b, r, ra, rb, p⟩
  unfold fdivV at p
  split at p
  · split at p
    · rename_i hz
      cases ra; cases rb
      exact op_fdivW pins s σ H _ _ v u Q I rx ry ⟨_, _, rfl, rfl, hz, p.at r (.int _)⟩
    · exact p.elim
  · exact p.elim
theorem opd_mod : OpD X (binaryOp .Mod) modV := by
  rintro pins s σ H x y v u Q I rx ry ⟨w, M, a, b, r, ra, rb, p⟩
  unfold modV at p
  split at p
  · split at p
    · rename_i hz
      cases ra; cases rb
      exact op_mod pins s σ H _ _ v u Q I rx ry ⟨_, _, rfl, rfl, hz, p.at r (.int _)⟩
    · exact p.elim
  · exact p.elim
theorem opd_pow : OpD X (binaryOp .Pow) powV := by
  rintro pins s σ H x y v u Q I rx ry ⟨w, M, a, b, r, ra, rb, p⟩
  unfold powV at p
  split at p
  · split at p
    · rename_i hz
      cases ra; cases rb
      exact op_pow pins s σ H _ _ v u Q I rx ry ⟨_, _, rfl, rfl, hz, p.at r (.int _)⟩
    · exact p.elim
  · exact p.elim
end
end DL
namespace ZP
open PySem
open PySem.Sem (wp)
open PySem.Builtin.SmallTypes (nextOf)
/-- a source: where its iterator stands, what it leans on, what a step changes, how many items there are, the state at each turn, the item of each turn -/
structure Src where
  it : Addr
  dm : List Addr
  fp : List Addr
  n : Nat
  st : Nat → Heap → Prop
  R : Nat → Value → Heap → Prop
/-- kept at these places -/
def Kept (p : Addr → Prop) (h h' : Heap) : Prop := ∀ c o, p c → h.get? c = some o → h'.get? c = some o
theorem Kept.rfl' {p : Addr → Prop} {h : Heap} : Kept p h h := fun _ _ _ e => e
theorem Kept.trans {p : Addr → Prop} {h h' h'' : Heap} (a : Kept p h h') (b : Kept p h' h'') : Kept p h h'' := fun c o q e => b c o q (a c o q e)
theorem Kept.mono {p q : Addr → Prop} {h h' : Heap} (a : Kept q h h') (l : ∀ c, p c → q c) : Kept p h h' := fun c o z e => a c o (l c z) e
theorem Kept.same {a : Addr} {h h' : Heap} (s : Heap.SameBut a h h') : Kept (· ≠ a) h h' := fun c o q e => s.extBut c o q e
structure SrcOk (P : Program) (w : World) (B : Nat) (S : Src) : Prop where
  sub : ∀ c ∈ S.fp, c ∈ S.dm
  low : ∀ c ∈ S.dm, c < B
  keep : ∀ i h h', S.st i h → Kept (fun c => c ∈ S.dm ∨ B ≤ c) h h' → S.st i h'
  rk : ∀ i x h h', S.R i x h → Kept (fun c => B ≤ c) h h' → S.R i x h'
  item : ∀ {A : Around} {E : Value → Shared → Prop} {s : Shared} {Q : Value → Shared → Prop} (i : Nat), i < S.n → B ≤ s.heap.objs.size → S.st i s.heap →
    (∀ x h', S.st (i + 1) h' → S.R i x h' → s.heap.objs.size ≤ h'.objs.size → Kept (· ∉ S.fp) s.heap h' → Q x { s with heap := h' }) → wpAny (model P w) A (nextOf (.ref S.it)) Q E s
  done : ∀ {A : Around} {E : Value → Shared → Prop} {s : Shared} {Q : Value → Shared → Prop} (i : Nat), A.handled = none → S.n ≤ i → B ≤ s.heap.objs.size → S.st i s.heap →
    (∀ h' e, Kept (· ∉ S.fp) s.heap h' → (∃ o, h'.get? e = some o ∧ o.cls = .type "StopIteration") → E (.ref e) { s with heap := h' }) → wpAny (model P w) A (nextOf (.ref S.it)) Q E s
/-- the sources lie apart from one another -/
inductive Aparts : List Src → Prop
  | nil : Aparts []
  | cons {S : Src} {L : List Src} : (∀ T ∈ L, ∀ c, (c ∈ S.fp → c ∉ T.dm) ∧ (c ∈ T.fp → c ∉ S.dm)) → Aparts L → Aparts (S :: L)
inductive Vals3 (i : Nat) (h : Heap) : List Src → List Value → Prop
  | nil : Vals3 i h [] []
  | cons {S : Src} {L : List Src} {x : Value} {xs : List Value} : S.R i x h → Vals3 i h L xs → Vals3 i h (S :: L) (x :: xs)
theorem Vals3.keep {P : Program} {w : World} {B i : Nat} {h h' : Heap} (k : Kept (fun c => B ≤ c) h h') : ∀ {L : List Src} {xs : List Value}, (∀ S ∈ L, SrcOk P w B S) → Vals3 i h L xs → Vals3 i h' L xs
  | _, _, _, .nil => .nil
  | _, _, hL, .cons r t => .cons ((hL _ List.mem_cons_self).rk _ _ _ _ r k) (Vals3.keep k (fun S hS => hL S (List.mem_cons_of_mem _ hS)) t)
theorem Vals3.app {i : Nat} {h : Heap} : ∀ {L L' : List Src} {xs ys : List Value}, Vals3 i h L xs → Vals3 i h L' ys → Vals3 i h (L ++ L') (xs ++ ys)
  | _, _, _, _, .nil, q => q
  | _, _, _, _, .cons r t, q => .cons r (Vals3.app t q)
theorem Vals3.len {i : Nat} {h : Heap} : ∀ {L : List Src} {xs : List Value}, Vals3 i h L xs → xs.length = L.length
  | _, _, .nil => rfl
  | _, _, .cons _ t => by simp [Vals3.len t]
/-- one is apart from all others at other places -/
theorem Aparts.at : ∀ {L L' : List Src} {S : Src}, Aparts (L ++ S :: L') → (∀ T ∈ L, ∀ c ∈ S.fp, c ∉ T.dm) ∧ ∀ T ∈ L', ∀ c ∈ S.fp, c ∉ T.dm
  | [], L', S, .cons h _ => ⟨fun T hT => (List.not_mem_nil hT).elim, fun T hT c hc => (h T hT c).1 hc⟩
  | U :: L, L', S, .cons h t => by
    obtain ⟨a, b⟩ := Aparts.at (L := L) t
    refine ⟨fun T hT c hc => ?_, b⟩
    rcases List.mem_cons.mp hT with e | e
    · rw [e]
      exact (h S (List.mem_append_right _ List.mem_cons_self) c).2 hc
    · exact a T e c hc
end ZP
namespace ZP
open PySem
open PySem.Sem (wp)
open PySem.Builtin.SmallTypes (nextOf iterAll)
/-- what zip is given: a list or a tuple, or an iterator that stands already -/
inductive Arg where
  | seq (lst : Bool) (l : Addr)
  | own (z TI TO : Addr) (f0 : Value)
def IsSq (h : Heap) : Arg → Prop
  | .seq lst l => ∃ xs, if lst then h.IsList l xs else h.IsTuple l xs
  | .own z TI TO f0 => IsZip h z TI TO f0
theorem IsSq.up {h h' : Heap} (k : Kept (fun _ => True) h h') : ∀ {a : Arg}, IsSq h a → IsSq h' a
  | .seq lst l, ⟨xs, q⟩ => by
    refine ⟨xs, ?_⟩
    cases lst with
    | true =>
      obtain ⟨o, e, r⟩ := (show h.IsList l xs from q)
      exact show h'.IsList l xs from ⟨o, k _ _ trivial e, r⟩
    | false =>
      obtain ⟨o, e, r⟩ := (show h.IsTuple l xs from q)
      exact show h'.IsTuple l xs from ⟨o, k _ _ trivial e, r⟩
  | .own z TI TO f0, q => k _ _ trivial q
end ZP
namespace ZP
open PySem PySem.Spec PyProof.Rows L2
open PySem.Builtin.SmallTypes (nextOf iterAll)
/-- the list or the tuple at l, as it stands -/
def SqB (K : PySem.W.Frag) (H : Hp) (lst : Bool) (l : Addr) (xs : List V) : Prop := if lst then SqL K H l xs else SqT K H l xs
inductive All2 {α β : Type} (R : α → β → Prop) : List α → List β → Prop
  | nil : All2 R [] []
  | cons {a : α} {b : β} {l : List α} {m : List β} : R a b → All2 R l m → All2 R (a :: l) (b :: m)
theorem SqB.inj {X : Cx} {pins : List (Addr × Obj)} {σ : L2.St} {H : Hp} {s : Shared} (I : Inv X pins σ H s) {lst : Bool} {l : Addr} {xs ys : List V} (h : SqB X.K H lst l xs) (h' : SqB X.K H lst l ys) : xs = ys := by
  cases lst with
  | true => exact I.list_inj h h'
  | false => exact I.tuple_inj h h'
theorem All2.len {α β : Type} {R : α → β → Prop} : ∀ {l : List α} {m : List β}, All2 R l m → l.length = m.length
  | _, _, .nil => rfl
  | _, _, .cons _ t => by simp [All2.len t]
theorem All2.mono {α β : Type} {R S : α → β → Prop} (f : ∀ a b, R a b → S a b) : ∀ {l : List α} {m : List β}, All2 R l m → All2 S l m
  | _, _, .nil => .nil
  | _, _, .cons h t => .cons (f _ _ h) (All2.mono f t)
end ZP
namespace DL
open PySem PySem.Spec L2
/-- a value as data -/
def datOf (M : Mem) : Vl → Option PyData
  | .d x => some x
  | .s xs => some (.list xs)
  | .h i => match M[i]? with
    | some (.lst xs) => some (.list xs)
    | _ => none
  | _ => none
theorem dat_at {K : Frag} {w : Wd} {M : Mem} {H : Hp} {x : Vl} {v : V} {y : PyData} (r : Rel K w M H) (rv : RV K w x v) (h : datOf M x = some y) : L2.Dp K H v y := by
  cases x with
  | d z =>
    obtain rfl : z = y := Option.some.inj h
    exact Dp.deep r.sub z v rv
  | s zs =>
    obtain rfl : PyData.list zs = y := Option.some.inj h
    obtain ⟨p, vs, e, q, d⟩ := rv
    subst e
    exact .lst (SqL.up r.sub q) (DpAll.deep r.sub _ _ d)
  | h i =>
    obtain ⟨a, e, ev⟩ := rv
    unfold datOf at h
    cases q : M[i]? with
    | none => simp only [q] at h; cases h
    | some m =>
      cases m with
      | gone => simp only [q] at h; cases h
      | nest _ => simp only [q] at h; cases h
      | dct _ => simp only [q] at h; cases h
      | lst ys =>
        simp only [q] at h
        cases h
        obtain ⟨_, vs, e2, d⟩ := r.at e q
        subst ev
        exact .lst (.inl (.inl e2)) (DpAll.deep r.sub _ _ d)
  | a p => cases h
  | t n => cases h
  | x _ _ => cases h
  | c _ => cases h
/-- == of data: of texts that are well formed, one of them not deep -/
def eqOk (x y : PyData) : Bool := x.canLay0 && y.canLay0 && decide (min x.depth y.depth ≤ 64)
def eqD (x y : PyData) (M : Mem) : Res Vl := match x, y with
  | .str a, .str b => .ok (.d (.bool (decide (a = b)))) M
  | x, y => if eqOk x y = true then .ok (.d (.bool (PyData.eqv x y))) M else .st
def neD (x y : PyData) (M : Mem) : Res Vl := match x, y with
  | .str a, .str b => .ok (.d (.bool (!decide (a = b)))) M
  | x, y => if eqOk x y = true then .ok (.d (.bool (!PyData.eqv x y))) M else .st
def eqV : Vl → Vl → Mem → Res Vl := fun a b M => match datOf M a, datOf M b with
  | some x, some y => eqD x y M
  | _, _ => .st
def neV : Vl → Vl → Mem → Res Vl := fun a b M => match datOf M a, datOf M b with
  | some x, some y => neD x y M
  | _, _ => .st
def ltV : Vl → Vl → Mem → Res Vl
  | .d (.int i), .d (.int j), M => .ok (.d (.bool (decide (i < j)))) M
  | _, _, _ => .st
def leV : Vl → Vl → Mem → Res Vl
  | .d (.int i), .d (.int j), M => .ok (.d (.bool (decide (i ≤ j)))) M
  | _, _, _ => .st
def gtV : Vl → Vl → Mem → Res Vl
  | .d (.int i), .d (.int j), M => .ok (.d (.bool (decide (j < i)))) M
  | _, _, _ => .st
def geV : Vl → Vl → Mem → Res Vl
  | .d (.int i), .d (.int j), M => .ok (.d (.bool (decide (j ≤ i)))) M
  | _, _, _ => .st
/-- is, beside None, True and False -/
def isV : Vl → Vl → Mem → Res Vl
  | .d .none, .d .none, M => .ok (.d (.bool true)) M
  | _, .d .none, M => .ok (.d (.bool false)) M
  | .d (.bool a), .d (.bool b), M => .ok (.d (.bool (decide (a = b)))) M
  | _, _, _ => .st
def isntV : Vl → Vl → Mem → Res Vl
  | .d .none, .d .none, M => .ok (.d (.bool false)) M
  | _, .d .none, M => .ok (.d (.bool true)) M
  | .d (.bool a), .d (.bool b), M => .ok (.d (.bool (!decide (a = b)))) M
  | _, _, _ => .st
section
variable {X : Cx} {W : WX}
theorem opd_eq (hu : X.A.units + 64 < cLine) : OpD X (compareOp .Eq) eqV := by
  rintro pins s σ H x y v u Q I rx ry ⟨w, M, a, b, r, ra, rb, p⟩
  unfold eqV at p
  split at p
  · rename_i d1 d2 h1 h2
    unfold eqD at p
    split at p
    · rename_i z1 z2
      have q1 := dat_at r ra h1
      have q2 := dat_at r rb h2
      cases q1
      cases q2
      refine op_eq pins s σ H _ _ v u Q I rx ry ⟨rfl, ?_⟩
      have e : decide (V.str z1 = V.str z2) = decide (z1 = z2) := by
        rw [Bool.eq_iff_iff]
        simp
      rw [e]
      exact p.at r (.bl _)
    · split at p
      · rename_i hz
        unfold eqOk at hz
        simp only [Bool.and_eq_true, decide_eq_true_eq] at hz
        obtain ⟨as, r1⟩ := L2.Dp.reads I d1 x v (dat_at r ra h1) rx
        obtain ⟨bs, r2⟩ := L2.Dp.reads I d2 y u (dat_at r rb h2) ry
        exact SeqAt.compareEq_reads r1 r2 hz.1.1 hz.1.2 (by omega) ⟨.bl _, H, I, rfl, p.at r (.bl _)⟩
      · exact p.elim
  · exact p.elim
theorem opd_ne (hu : X.A.units + 64 < cLine) : OpD X (compareOp .NotEq) neV := by
  rintro pins s σ H x y v u Q I rx ry ⟨w, M, a, b, r, ra, rb, p⟩
  unfold neV at p
  split at p
  · rename_i d1 d2 h1 h2
    unfold neD at p
    split at p
    · rename_i z1 z2
      have q1 := dat_at r ra h1
      have q2 := dat_at r rb h2
      cases q1
      cases q2
      refine op_ne pins s σ H _ _ v u Q I rx ry ⟨rfl, ?_⟩
      have e : decide (V.str z1 = V.str z2) = decide (z1 = z2) := by
        rw [Bool.eq_iff_iff]
        simp
      rw [e]
      exact p.at r (.bl _)
    · split at p
      · rename_i hz
        unfold eqOk at hz
        simp only [Bool.and_eq_true, decide_eq_true_eq] at hz
        obtain ⟨as, r1⟩ := L2.Dp.reads I d1 x v (dat_at r ra h1) rx
        obtain ⟨bs, r2⟩ := L2.Dp.reads I d2 y u (dat_at r rb h2) ry
        exact SeqAt.compareNe_reads r1 r2 hz.1.1 hz.1.2 (by omega) ⟨.bl _, H, I, rfl, p.at r (.bl _)⟩
      · exact p.elim
  · exact p.elim
theorem opd_lt : OpD X (compareOp .Lt) ltV := by
  rintro pins s σ H x y v u Q I rx ry ⟨w, M, a, b, r, ra, rb, p⟩
  unfold ltV at p
  split at p
  · cases ra; cases rb
    exact op_lt pins s σ H _ _ v u Q I rx ry ⟨_, _, rfl, rfl, p.at r (.bl _)⟩
  · exact p.elim
theorem opd_le : OpD X (compareOp .LtE) leV := by
  rintro pins s σ H x y v u Q I rx ry ⟨w, M, a, b, r, ra, rb, p⟩
  unfold leV at p
  split at p
  · cases ra; cases rb
    exact op_le pins s σ H _ _ v u Q I rx ry ⟨_, _, rfl, rfl, p.at r (.bl _)⟩
  · exact p.elim
theorem opd_gt : OpD X (compareOp .Gt) gtV := by
  rintro pins s σ H x y v u Q I rx ry ⟨w, M, a, b, r, ra, rb, p⟩
  unfold gtV at p
  split at p
  · cases ra; cases rb
    exact op_gt pins s σ H _ _ v u Q I rx ry ⟨_, _, rfl, rfl, p.at r (.bl _)⟩
  · exact p.elim
theorem opd_ge : OpD X (compareOp .GtE) geV := by
  rintro pins s σ H x y v u Q I rx ry ⟨w, M, a, b, r, ra, rb, p⟩
  unfold geV at p
  split at p
  · cases ra; cases rb
    exact op_ge pins s σ H _ _ v u Q I rx ry ⟨_, _, rfl, rfl, p.at r (.bl _)⟩
  · exact p.elim
theorem rv_none {K : Frag} {w : Wd} {v : V} : ∀ {a : Vl}, (a = .d .none → False) → RV K w a v → v ≠ .non
  | .d x, h, r => by
    intro z
    subst z
    cases r
    exact h rfl
  | .h i, _, ⟨a, _, e⟩ => by rw [e]; exact fun z => by cases z
  | .a p, _, e => by rw [show v = _ from e]; exact fun z => by cases z
  | .t n, _, e => by rw [show v = _ from e]; exact fun z => by cases z
  | .x _ _, _, ⟨p, d, e, _⟩ => by rw [e]; exact fun z => by cases z
  | .c n, _, e => by rw [show v = _ from e]; exact fun z => by cases z
  | .s xs, _, ⟨p, vs, e, _⟩ => by rw [e]; exact fun z => by cases z
theorem opd_is : OpD X (compareOp .Is) isV := by
  rintro pins s σ H x y v u Q I rx ry ⟨w, M, a, b, r, ra, rb, p⟩
  unfold isV at p
  split at p
  · cases ra; cases rb
    exact op_isN pins s σ H _ _ v u Q I rx ry ⟨rfl, p.at r (.bl _)⟩
  · rename_i hn
    cases rb
    refine op_isN pins s σ H _ _ v u Q I rx ry ⟨rfl, ?_⟩
    rw [decide_eq_false (rv_none hn ra)]
    exact p.at r (.bl _)
  · cases ra; cases rb
    exact op_is_bl pins s σ H _ _ v u Q I rx ry ⟨_, _, rfl, rfl, p.at r (.bl _)⟩
  · exact p.elim
end
end DL
namespace DL
open PySem PySem.Spec L2
section
variable {X : Cx} {W : WX}
def tstV (M : Mem) : Vl → Option Bool
  | .d .none => some false
  | .d (.bool b) => some b
  | .d (.int i) => some (i != 0)
  | .d (.str y) => if y.length ≤ sizeLine then some ((y.length : Int) != 0) else none
  | .d (.tuple xs) => some (!xs.isEmpty)
  | x => (rdOf M x).map fun xs => !xs.isEmpty
def asB (x : Vl) (M : Mem) : Res Bool := match tstV M x with
  | some b => .ok b M
  | none => .st
theorem empty_same {K : Frag} {F : Hp} {vs : List V} {ds : List PyData} (h : DpAll K F vs ds) : (!vs.isEmpty) = !ds.isEmpty := by cases h <;> rfl
theorem tst_at {K : Frag} {w : Wd} {M : Mem} {H : Hp} {x : Vl} {v : V} {b : Bool} (r : Rel K w M H) (rv : RV K w x v) (h : tstV M x = some b) : TruV K v H b := by
  have lst : ∀ {xs}, rdOf M x = some xs → (!xs.isEmpty) = b → TruV K v H b := fun {xs} e q => by
    obtain ⟨p, vs, e1, h1, d1⟩ := rd_at r rv e
    subst e1
    exact .inl ⟨vs, h1, by rw [empty_same d1]; exact q.symm⟩
  cases x with
  | d y =>
    cases y with
    | none => cases rv; exact (Option.some.inj h).symm
    | bool c => cases rv; exact (Option.some.inj h).symm
    | int i => cases rv; exact (Option.some.inj h).symm
    | str z =>
      cases rv
      have h : (if z.length ≤ sizeLine then some ((z.length : Int) != 0) else none) = some b := h
      by_cases hz : z.length ≤ sizeLine
      · rw [if_pos hz] at h; exact ⟨hz, (Option.some.inj h).symm⟩
      · rw [if_neg hz] at h; cases h
    | tuple xs =>
      obtain ⟨p, vs, e1, h1, d1⟩ := tup_at r rv (show tupOf _ = some _ from rfl)
      subst e1
      exact .inr (.inl ⟨vs, h1, by rw [empty_same d1]; exact (Option.some.inj h).symm⟩)
    | list xs => exact lst rfl (Option.some.inj h)
    | dict _ => cases h
  | h i =>
    have h : (rdOf M (.h i)).map _ = some b := h
    cases e : rdOf M (.h i) with
    | none => rw [e] at h; cases h
    | some xs => rw [e] at h; exact lst e (Option.some.inj h)
  | s xs => exact lst rfl (Option.some.inj h)
  | a p => cases h
  | t n => cases h
  | x _ _ => cases h
  | c _ => cases h
def tstE (f : Ev) : Env → Mem → Res Bool := fun e M => (f e M).bind asB
theorem dt_e {ex : Expr} {f : Ev} (h : DE X W ex f) (he : ∀ whole, isTrue ex X.env whole = (do let v ← whole; standAt ex.pos; holding [v] (truthy v)) := by intro _; rfl) : DT X W ex (tstE f) :=
  PTweak (pt_truth h he) fun σ H Q ⟨w, e, M, r, re, p⟩ =>
    ⟨w, e, M, r, re, p.bind fun x M1 w1 v H1 l1 r1 rv p1 => by
      unfold asB at p1
      split at p1
      · rename_i b hb
        exact ⟨b, tst_at r1 rv hb, p1.at r1 rfl⟩
      · exact p1.elim⟩
def boolOf : Vl → Mem → Res Bool
  | .d (.bool b), M => .ok b M
  | _, _ => .st
/-- a comparison as a test -/
def opT (g : Vl → Vl → Mem → Res Vl) (f1 f2 : Ev) : Env → Mem → Res Bool := fun e M => (f1 e M).bind fun x M1 => (f2 e M1).bind fun y M2 => (g x y M2).pur.bind boolOf
theorem boolOf_at {K : Frag} {E : XK} {w : Wd} {M : Mem} {H : Hp} {z : Vl} {v : V} {Q : Bool → Hp → Prop} (r : Rel K w M H) (rv : RV K w z v) (p : Post K E (fun _ a b => a = b) w (boolOf z M) Q) : ∃ k, v = .bl k ∧ Q k H := by
  unfold boolOf at p
  split at p
  · cases rv
    exact ⟨_, rfl, p.at r rfl⟩
  · exact p.elim
theorem dt_cmp {op : CmpOp} {a b : Expr} {g : Vl → Vl → Mem → Res Vl} {f1 f2 : Ev} {pos : Pos} (ho : OpD X (compareOp op) g) (ha : DE X W a f1) (hb : DE X W b f2)
    (hm : behindInMarks op b = false := by first | exact nomark _ | rfl) : DT X W (.Compare a [op] [b] pos) (opT g f1 f2) :=
  PTweak (pt_cmpR ho ha hb hm) fun σ H Q ⟨w, e, M, r, re, p⟩ =>
    ⟨w, e, M, r, re, p.bind fun x M1 w1 v H1 l1 r1 rv p1 =>
      ⟨w1, e, M1, r1, re.up l1, p1.bind fun y M2 w2 u H2 l2 r2 ru p2 =>
        ⟨w2, M2, x, y, r2, rv.up l2, ru, (Post.bind (RR := RV X.K) p2 fun z M3 w3 t H3 l3 r3 rt p3 => boolOf_at r3 rt p3).pur⟩⟩⟩
def DW (X : Cx) (W : WX) (e : Expr) (f : Env → Mem → Res Bool) : Prop := PW X e (tT X.K W f)
variable {a b c : Expr} {rest : List Expr} {pos : Pos} {f g : Env → Mem → Res Bool}
def andT (f g : Env → Mem → Res Bool) : Env → Mem → Res Bool := fun e M => (f e M).bind fun b M1 => if b = true then g e M1 else .ok false M1
def orT (f g : Env → Mem → Res Bool) : Env → Mem → Res Bool := fun e M => (f e M).bind fun b M1 => if b = true then .ok true M1 else g e M1
def notT (f : Env → Mem → Res Bool) : Env → Mem → Res Bool := fun e M => (f e M).bind fun b M1 => .ok (!b) M1
theorem dw_and1 (h : DT X W a f) : DW X W (.BoolOp .And [a] pos) f := pw_and1 h
theorem dw_or1 (h : DT X W a f) : DW X W (.BoolOp .Or [a] pos) f := pw_or1 h
theorem dw_and (h : DT X W a f) (k : DW X W (.BoolOp .And (b :: rest) pos) g) : DW X W (.BoolOp .And (a :: b :: rest) pos) (andT f g) :=
  PWweak (pw_and h k) fun σ H Q ⟨w, e, M, r, re, p⟩ =>
    ⟨w, e, M, r, re, p.bind fun x M1 w1 v H1 l1 r1 rv p1 => by
      have rv : x = v := rv
      subst rv
      cases x with
      | true => exact ⟨w1, e, M1, r1, re.up l1, p1⟩
      | false => exact p1.at r1 rfl⟩
theorem dw_or (h : DT X W a f) (k : DW X W (.BoolOp .Or (b :: rest) pos) g) : DW X W (.BoolOp .Or (a :: b :: rest) pos) (orT f g) :=
  PWweak (pw_or h k) fun σ H Q ⟨w, e, M, r, re, p⟩ =>
    ⟨w, e, M, r, re, p.bind fun x M1 w1 v H1 l1 r1 rv p1 => by
      have rv : x = v := rv
      subst rv
      cases x with
      | true => exact p1.at r1 rfl
      | false => exact ⟨w1, e, M1, r1, re.up l1, p1⟩⟩
theorem dt_w (h : DW X W a f) : DT X W a f := PW.pt h
theorem dt_not (h : DT X W a f) : DT X W (.UnaryOp .Not a pos) (notT f) :=
  PTweak (pt_not h) fun σ H Q ⟨w, e, M, r, re, p⟩ =>
    ⟨w, e, M, r, re, p.bind fun x M1 w1 v H1 l1 r1 rv p1 => by
      have rv : x = v := rv
      subst rv
      exact p1.at r1 rfl⟩
/-- .. as values -/
def andE (f g : Ev) : Ev := fun e M => (f e M).bind fun x M1 => (boolOf x M1).bind fun b M2 => if b = true then g e M2 else .ok (.d (.bool false)) M2
def orE (f g : Ev) : Ev := fun e M => (f e M).bind fun x M1 => (boolOf x M1).bind fun b M2 => if b = true then .ok (.d (.bool true)) M2 else g e M2
def notE (f : Ev) : Ev := fun e M => (f e M).bind fun x M1 => (boolOf x M1).bind fun b M2 => .ok (.d (.bool !b)) M2
variable {f1 f2 : Ev}
theorem de_one {op : PySem.BoolOp} (h : DE X W a f1) : DE X W (.BoolOp op [a] pos) f1 := pe_one h
theorem boolOf_is {K : Frag} {w : Wd} {z : Vl} {M M' : Mem} {v : V} {b : Bool} (h : boolOf z M = .ok b M') (rv : RV K w z v) : v = .bl b ∧ M' = M := by
  unfold boolOf at h
  split at h
  · cases rv; cases h; exact ⟨rfl, rfl⟩
  · cases h
theorem de_and (h : DE X W a f1) (k : DE X W (.BoolOp .And (b :: rest) pos) f2) : DE X W (.BoolOp .And (a :: b :: rest) pos) (andE f1 f2) :=
  PEweak (pe_and h k) fun σ H Q ⟨w, e, M, r, re, p⟩ =>
    ⟨w, e, M, r, re, p.bind fun x M1 w1 v H1 l1 r1 rv p1 => by
      cases hb : boolOf x M1 with
      | st => rw [hb] at p1; exact p1.elim
      | er C fs M' => unfold boolOf at hb; split at hb <;> cases hb
      | ok b M2 =>
        obtain ⟨e1, e2⟩ := boolOf_is hb rv
        subst e1 e2
        rw [hb] at p1
        refine ⟨b, rfl, ?_⟩
        cases b with
        | true => exact ⟨w1, e, _, r1, re.up l1, p1⟩
        | false => exact Post.at (show Post X.K (WE W σ) (RV X.K) w1 (.ok (.d (.bool false)) _) Q from p1) r1 (.bl _)⟩
def ifE (c : Env → Mem → Res Bool) (f g : Ev) : Ev := fun e M => (c e M).bind fun b M1 => if b = true then f e M1 else g e M1
theorem de_if (hc : DT X W c f) (ha : DE X W a f1) (hb : DE X W b f2) : DE X W (.IfExp c a b pos) (ifE f f1 f2) :=
  PEweak (pe_ifExp hc ha hb) fun σ H Q ⟨w, e, M, r, re, p⟩ =>
    ⟨w, e, M, r, re, p.bind fun x M1 w1 v H1 l1 r1 rv p1 => by
      have rv : x = v := rv
      subst rv
      cases x with
      | true => exact ⟨w1, e, M1, r1, re.up l1, p1⟩
      | false => exact ⟨w1, e, M1, r1, re.up l1, p1⟩⟩
def negE (f : Ev) : Ev := fun e M => (f e M).bind fun x M1 => match x with
  | .d (.int i) => .ok (.d (.int (-i))) M1
  | _ => .st
end
end DL
namespace DL
open PySem PySem.Spec L2
/-- a list just made: its items -/
def DF (X : Cx) (W : WX) (e : Expr) (f : Env → Mem → Res (List PyData)) : Prop :=
  PE X e fun σ H Q => tG X.K W (fun w xs vs => DpAll X.K w.F vs xs) f σ H fun vs H1 => ∀ p, H1 p = none → Q (.ref p) (upd H1 p (.lst vs))
/-- kept as data -/
def datE (f : Env → Mem → Res (List PyData)) : Ev := fun e M => (f e M).bind fun xs M1 => .ok (.d (.list xs)) M1
/-- kept under a handle -/
def newE (f : Env → Mem → Res (List PyData)) : Ev := fun e M => (f e M).bind fun xs M1 => .ok (.h M1.length) (M1 ++ [.lst xs])
section
variable {X : Cx} {W : WX} {e a b : Expr} {es : List Expr} {pos : Pos} {f f1 f2 : Ev} {g : Evs}
theorem de_dat {f : Env → Mem → Res (List PyData)} (h : DF X W e f) : DE X W e (datE f) :=
  PEweak h fun σ H Q ⟨w, e, M, r, re, p⟩ =>
    ⟨w, e, M, r, re, p.bind fun xs M1 w1 vs H1 l1 r1 d1 p1 q hq =>
      p1 _ _ _ (Wd.le_fz (r1.new hq).2) (r1.alloc hq _) (Dp.lst upd_same (DpAll.up (Wd.le_fz (w := w1) (o := .lst vs) (r1.new hq).2).2 _ _ d1))⟩
theorem de_new {f : Env → Mem → Res (List PyData)} (h : DF X W e f) : DE X W e (newE f) :=
  PEweak h fun σ H Q ⟨w, e, M, r, re, p⟩ =>
    ⟨w, e, M, r, re, p.bind fun xs M1 w1 vs H1 l1 r1 d1 p1 q hq =>
      p1 _ _ _ Wd.le_add (r1.fresh hq d1) ⟨q, by show (w1.as ++ [q])[M1.length]? = some q; rw [← r1.len, List.getElem?_append_right (Nat.le_refl _)]; simp, rfl⟩⟩
/-- all of them data, so many -/
def asDs (xs : List Vl) (M : Mem) : Res (List PyData) := match datas xs with
  | some ds => if ds.length ≤ sizeLine then .ok ds M else .st
  | none => .st
def dispE (f : Evs) : Env → Mem → Res (List PyData) := fun e M => (f e M).bind asDs
theorem df_lst (h : DA X W es g) : DF X W (.List es pos) (dispE g) :=
  PEweak (pe_lst h) fun σ H Q ⟨w, e, M, r, re, p⟩ =>
    ⟨w, e, M, r, re, p.bind fun xs M1 w1 vs H1 l1 r1 rv p1 => by
      unfold asDs at p1
      split at p1
      · rename_i ds hd
        split at p1
        · rename_i hz
          have d1 := rv.dat hd
          exact ⟨by rw [d1.len]; exact hz, p1.at r1 d1⟩
        · exact p1.elim
      · exact p1.elim⟩
def tupE (f : Evs) : Ev := fun e M => (f e M).bind fun xs M1 => (asDs xs M1).bind fun ds M2 => .ok (.d (.tuple ds)) M2
theorem de_tup {k : Nat} (h : DA X W es g) : DE X W (.Tuple es k pos) (tupE g) :=
  PEweak (pe_tupX h) fun σ H Q ⟨w, e, M, r, re, p⟩ =>
    ⟨w, e, M, r, re, p.bind fun xs M1 w1 vs H1 l1 r1 rv p1 => by
      unfold asDs at p1
      split at p1
      · rename_i ds hd
        split at p1
        · rename_i hz
          have d1 := rv.dat hd
          exact ⟨by rw [d1.len]; exact hz, newT_of r1 d1 p1⟩
        · exact p1.elim
      · exact p1.elim⟩
/-- a list that is made by an operation of two lists, a list so many times -/
def catE (f1 f2 : Ev) : Env → Mem → Res (List PyData) := fun e M => (f1 e M).bind fun x M1 => (f2 e M1).bind fun y M2 => match lstOf M2 x, lstOf M2 y with
  | some xs, some ys => if xs.length + ys.length ≤ sizeLine then .ok (xs ++ ys) M2 else .st
  | _, _ => .st
theorem df_cat (ha : DE X W a f1) (hb : DE X W b f2) : DF X W (.BinOp a .Add b pos) (catE f1 f2) :=
  PEweak (pe_op op_cat ha hb) fun σ H Q ⟨w, e, M, r, re, p⟩ =>
    ⟨w, e, M, r, re, p.bind fun x M1 w1 v H1 l1 r1 rv p1 =>
      ⟨w1, e, M1, r1, re.up l1, p1.bind fun y M2 w2 u H2 l2 r2 ru p2 => by
        split at p2
        · rename_i xs ys h1 h2
          split at p2
          · rename_i hz
            obtain ⟨q1, vs, rfl, s1, d1⟩ := lst_at r2 (rv.up l2) h1
            obtain ⟨q2, us, rfl, s2, d2⟩ := lst_at r2 ru h2
            exact ⟨q1, q2, vs, us, rfl, rfl, s1, s2, by rw [d1.len, d2.len]; exact hz, p2.at r2 (DpAll.app d1 d2)⟩
          · exact p2.elim
        · exact p2.elim⟩⟩
def repE (f1 f2 : Ev) : Env → Mem → Res (List PyData) := fun e M => (f1 e M).bind fun x M1 => (f2 e M1).bind fun y M2 => match lstOf M2 x, y with
  | some xs, .d (.int k) => if k < 2 ^ 62 ∧ -(2 ^ 62) < k ∧ xs.length * k.toNat ≤ sizeLine then .ok (List.replicate k.toNat xs).flatten M2 else .st
  | _, _ => .st
theorem atI_map {K : Frag} {F : Hp} {vs : List V} {ds : List PyData} {i : Int} {d : PyData} (h : DpAll K F vs ds) (e : atI ds i = some d) : ∃ v, atI vs i = some v ∧ Dp K F v d := by
  unfold atI at e ⊢
  rw [h.len]
  cases q : ixN ds.length i with
  | none => rw [q] at e; cases e
  | some j =>
    rw [q] at e
    exact h.get e
/-- a sequence: a list or a tuple -/
def seqOf (M : Mem) (x : Vl) : Option (List PyData) := match tupOf x with
  | some xs => some xs
  | none => rdOf M x
theorem seq_at {K : Frag} {w : Wd} {M : Mem} {H : Hp} {x : Vl} {v : V} {xs : List PyData} (r : Rel K w M H) (rv : RV K w x v) (h : seqOf M x = some xs) : ∃ p vs, v = .ref p ∧ (SqL K H p vs ∨ SqT K H p vs) ∧ DpAll K w.F vs xs := by
  unfold seqOf at h
  cases q : tupOf x with
  | some ys =>
    rw [q] at h
    obtain rfl : ys = xs := Option.some.inj h
    obtain ⟨p, vs, e, s, d⟩ := tup_at r rv q
    exact ⟨p, vs, e, .inr s, d⟩
  | none =>
    rw [q] at h
    obtain ⟨p, vs, e, s, d⟩ := rd_at r rv h
    exact ⟨p, vs, e, .inl s, d⟩
def ixV (x y : Vl) (M : Mem) : Res Vl := match y with
  | .d (.int i) => match x with
    | .d (.str z) => match atI z.cps.toList i with
      | some c => if z.length ≤ sizeLine then .ok (.d (.str ⟨#[c]⟩)) M else .st
      | none => .st
    | x => match seqOf M x with
      | some xs => match atI xs i with
        | some d => .ok (.d d) M
        | none => .st
      | none => .st
  | _ => .st
theorem de_ix (ha : DE X W a f1) (hb : DE X W b f2) (hs : PlainIx b := by exact fun _ _ => rfl) : DE X W (.Subscript a b pos) (op2 ixV f1 f2) :=
  PEweak (pe_ix ix_seq ha hb hs) fun σ H Q ⟨w, e, M, r, re, p⟩ =>
    ⟨w, e, M, r, re, p.bind fun x M1 w1 v H1 l1 r1 rv p1 =>
      ⟨w1, e, M1, r1, re.up l1, p1.bind fun y M2 w2 u H2 l2 r2 ru p2 => by
        have p2 : Post X.K (WE W σ) (RV X.K) w2 (ixV x y M2) Q := p2.pur
        have rv := rv.up l2
        unfold ixV at p2
        split at p2
        · cases ru
          split at p2
          · cases rv
            split at p2
            · split at p2
              · rename_i hc hz
                exact .inr (.inr ⟨_, _, _, rfl, rfl, hz, hc, p2.at r2 (.str _)⟩)
              · exact p2.elim
            · exact p2.elim
          · split at p2
            · rename_i hq
              split at p2
              · rename_i hd
                obtain ⟨q, vs, rfl, hs | hs, d⟩ := seq_at r2 rv hq
                · obtain ⟨u, h1, h2⟩ := atI_map d hd
                  exact .inl ⟨q, vs, _, u, rfl, rfl, hs, h1, p2.at r2 h2⟩
                · obtain ⟨u, h1, h2⟩ := atI_map d hd
                  exact .inr (.inl ⟨q, vs, _, u, rfl, rfl, hs, h1, p2.at r2 h2⟩)
              · exact p2.elim
            · exact p2.elim
        · exact p2.elim⟩⟩
end
end DL
namespace DL
open PySem PySem.Spec L2
def CallD (X : Cx) (F : Value) (g : List Vl → Mem → Res Vl) : Prop :=
  CallR X F fun vs H Q => ∃ (w : Wd) (M : Mem) (xs : List Vl), Rel X.K w M H ∧ RVs X.K w xs vs ∧ Post X.K (fun _ _ _ => False) (RV X.K) w (g xs M) Q
def callE (g : List Vl → Mem → Res Vl) (f : Evs) : Ev := fun e M => (f e M).bind fun xs M1 => (g xs M1).pur
section
variable {X : Cx} {W : WX} {e : Expr} {es : List Expr} {p pos : Pos} {x : Str} {id T : String} {g : List Vl → Mem → Res Vl} {f : Evs}
theorem de_callB (hc : CallD X (.builtin id) g) (hg : Gl X x) (hm : X.mg x = none) (hv : bootBuiltins x = some (.builtin id)) (ha : DA X W (e :: es) f) (hn : x ≠ "__name__" := by decide) (hdb : (x == ("__debug__" : Str)) = false := by decide)
    (he : starEach (e :: es) X.env = (false, eval e X.env) :: starEach es X.env := by rfl) (hpl : (backTo pos (starEach es X.env)).any (·.1) = false := by rfl) : DE X W (.Call (.Name x p) (e :: es) [] pos) (callE g f) :=
  PEweak (pe_callB hc hg hm hv ha hn hdb he hpl) fun σ H Q ⟨w, e, M, r, re, q⟩ =>
    ⟨w, e, M, r, re, q.bind fun xs M1 w1 vs H1 l1 r1 rv p1 => ⟨w1, M1, xs, r1, rv, p1.pur⟩⟩
theorem de_callTy (hc : CallD X (.type T) g) (hg : Gl X x) (hm : X.mg x = none) (hv : bootBuiltins x = some (.type T)) (ha : DA X W (e :: es) f) (hn : x ≠ "__name__" := by decide) (hdb : (x == ("__debug__" : Str)) = false := by decide)
    (he : starEach (e :: es) X.env = (false, eval e X.env) :: starEach es X.env := by rfl) (hpl : (backTo pos (starEach es X.env)).any (·.1) = false := by rfl) : DE X W (.Call (.Name x p) (e :: es) [] pos) (callE g f) :=
  PEweak (pe_callTy hc hg hm hv ha hn hdb he hpl) fun σ H Q ⟨w, e, M, r, re, q⟩ =>
    ⟨w, e, M, r, re, q.bind fun xs M1 w1 vs H1 l1 r1 rv p1 => ⟨w1, M1, xs, r1, rv, p1.pur⟩⟩
end
def lenV : List Vl → Mem → Res Vl
  | [.d (.str z)], M => if z.length ≤ sizeLine then .ok (.d (.int (z.length : Nat))) M else .st
  | [x], M => match seqOf M x with
    | some xs => .ok (.d (.int (xs.length : Nat))) M
    | none => .st
  | _, _ => .st
def absV : List Vl → Mem → Res Vl
  | [.d (.int i)], M => .ok (.d (.int (if i < 0 then -i else i))) M
  | _, _ => .st
def intV : List Vl → Mem → Res Vl
  | [.d (.int i)], M => .ok (.d (.int i)) M
  | [.d (.bool b)], M => .ok (.d (.int (if b then 1 else 0))) M
  | _, _ => .st
def maxV : List Vl → Mem → Res Vl
  | [.d (.int i), .d (.int j)], M => .ok (.d (.int (if j > i then j else i))) M
  | _, _ => .st
/-- the whole numbers among data, if all are -/
def intsOf : List PyData → Option (List Int)
  | [] => some []
  | .int i :: r => (intsOf r).map (i :: ·)
  | _ :: _ => none
theorem intsOf_map : ∀ ns : List Int, intsOf (ns.map PyData.int) = some ns
  | [] => rfl
  | n :: ns => by simp [intsOf, intsOf_map ns]
theorem ints_at {K : Frag} {F : Hp} : ∀ {vs : List V} {ds : List PyData} {ns : List Int}, DpAll K F vs ds → intsOf ds = some ns → vs = ns.map V.int
  | _, _, _, .nil, h => by cases h; rfl
  | _, .int i :: r, ns, .cons h1 h2, h => by
    cases q : intsOf r with
    | none => simp [intsOf, q] at h
    | some l =>
      simp [intsOf, q] at h
      subst h
      cases h1
      rw [List.map_cons, ints_at h2 q]
  | _, .none :: _, _, .cons _ _, h => by simp [intsOf] at h
  | _, .bool _ :: _, _, .cons _ _, h => by simp [intsOf] at h
  | _, .str _ :: _, _, .cons _ _, h => by simp [intsOf] at h
  | _, .list _ :: _, _, .cons _ _, h => by simp [intsOf] at h
  | _, .tuple _ :: _, _, .cons _ _, h => by simp [intsOf] at h
  | _, .dict _ :: _, _, .cons _ _, h => by simp [intsOf] at h
/-- sum of a list or a tuple of whole numbers -/
def sumV : List Vl → Mem → Res Vl
  | [x], M => match (rdOf M x).bind intsOf with
    | some ns => .ok (.d (.int ns.sum)) M
    | none => .st
  | _, _ => .st
def tupleV : List Vl → Mem → Res Vl
  | [.d (.tuple xs)], M => .ok (.d (.tuple xs)) M
  | [x], M => match rdOf M x with
    | some xs => .ok (.d (.tuple xs)) M
    | none => .st
  | _, _ => .st
section
variable {X : Cx}
theorem rvs1 {K : Frag} {w : Wd} {x : Vl} {vs : List V} (h : RVs K w [x] vs) : ∃ v, vs = [v] ∧ RV K w x v := by
  cases h with
  | cons a b => cases b; exact ⟨_, rfl, a⟩
theorem rvs2 {K : Frag} {w : Wd} {x y : Vl} {vs : List V} (h : RVs K w [x, y] vs) : ∃ v u, vs = [v, u] ∧ RV K w x v ∧ RV K w y u := by
  cases h with
  | cons a b =>
    obtain ⟨u, rfl, r⟩ := rvs1 b
    exact ⟨_, u, rfl, a, r⟩
theorem cd_len : CallD X (.builtin "len") lenV := by
  rintro pins s σ H vs us Q I rv ⟨w, M, xs, r, rx, p⟩
  unfold lenV at p
  split at p
  · split at p
    · rename_i hz
      obtain ⟨v, rfl, hv⟩ := rvs1 rx
      cases hv
      exact call_len_str pins s σ H _ us Q I rv ⟨_, rfl, hz, p.at r (.int _)⟩
    · exact p.elim
  · split at p
    · rename_i hq
      obtain ⟨v, rfl, hv⟩ := rvs1 rx
      obtain ⟨q, ws, rfl, hs, d⟩ := seq_at r hv hq
      refine call_len_seq pins s σ H _ us Q I rv ⟨q, ws, rfl, hs, ?_⟩
      rw [d.len]
      exact p.at r (.int _)
    · exact p.elim
  · exact p.elim
theorem cd_abs : CallD X (.builtin "abs") DL.absV := by
  rintro pins s σ H vs us Q I rv ⟨w, M, xs, r, rx, p⟩
  unfold DL.absV at p
  split at p
  · obtain ⟨v, rfl, hv⟩ := rvs1 rx
    cases hv
    exact call_abs pins s σ H _ us Q I rv ⟨_, rfl, p.at r (.int _)⟩
  · exact p.elim
theorem cd_int : CallD X (.type "int") intV := by
  rintro pins s σ H vs us Q I rv ⟨w, M, xs, r, rx, p⟩
  unfold intV at p
  split at p
  · obtain ⟨v, rfl, hv⟩ := rvs1 rx
    cases hv
    exact call_int1 pins s σ H _ us Q I rv (.inl ⟨_, rfl, p.at r (.int _)⟩)
  · obtain ⟨v, rfl, hv⟩ := rvs1 rx
    cases hv
    exact call_int1 pins s σ H _ us Q I rv (.inr ⟨_, rfl, p.at r (.int _)⟩)
  · exact p.elim
theorem cd_sumL (hc : X.calm = true) : CallD X (.builtin "sum") sumV := by
  rintro pins s σ H vs us Q I rv ⟨w, M, xs, r, rx, p⟩
  unfold sumV at p
  split at p
  · split at p
    · rename_i ns hq
      obtain ⟨v, rfl, hv⟩ := rvs1 rx
      obtain ⟨ds, h1, h2⟩ := Option.bind_eq_some_iff.mp hq
      obtain ⟨q, ws, rfl, hs, d⟩ := rd_at r hv h1
      refine cr_sum hc pins s σ H _ us Q I rv ⟨q, ns, rfl, ?_, p.at r (.int _)⟩
      rw [← ints_at d h2]
      exact hs
    · exact p.elim
  · exact p.elim
theorem cd_tuple : CallD X (.type "tuple") tupleV := by
  rintro pins s σ H vs us Q I rv ⟨w, M, xs, r, rx, p⟩
  unfold tupleV at p
  split at p
  · obtain ⟨v, rfl, hv⟩ := rvs1 rx
    obtain ⟨q, ws, rfl, hs, d⟩ := tup_at r hv (show tupOf _ = some _ from rfl)
    exact call_tupX pins s σ H _ us Q I rv ⟨q, ws, rfl, .inr ⟨hs, p.at r hv⟩⟩
  · split at p
    · rename_i hq
      obtain ⟨v, rfl, hv⟩ := rvs1 rx
      obtain ⟨q, ws, rfl, hs, d⟩ := rd_at r hv hq
      exact call_tupX pins s σ H _ us Q I rv ⟨q, ws, rfl, .inl ⟨hs, newT_of r d p⟩⟩
    · exact p.elim
  · exact p.elim
end
end DL
namespace DL
open PySem PySem.Spec L2
section
variable {X : Cx} {W : WX}
open PyProof.Rows in
theorem sum_tup {prog : Program} {w : World} {A : Around} {E : Value → Shared → Prop} {s : Shared} {l : Addr} {its : List Value} {ns : List Int} {Q : Value → Shared → Prop} (hh : A.handled = none) (hl : s.heap.IsTuple l its.toArray) (hi : PyProof.Rows.IntsAre its ns)
    (h : ∀ h' tk t', (∀ b o, s.heap.get? b = some o → h'.get? b = some o) → Q (.int ns.sum t') { s with heap := h', toks := tk }) : wpAny (model prog w) A (call (.builtin "sum") [.ref l]) Q E s := by
  obtain ⟨xs, e⟩ := hi.allInts.items
  have hn : numsOf (intItems xs).toList = ns := by rw [← e]; exact hi.numsOf
  rw [nums_intItems] at hn
  rw [e] at hl
  refine PySem.W.ktm_sumG hh hl fun h' tk t' hk => ?_
  have q := h h' tk t' hk
  rw [preSum_eq, List.take_of_length_le (by simp), hn]
  exact q
def sumTV : List Vl → Mem → Res Vl
  | [.d (.tuple xs)], M => match intsOf xs with
    | some ns => .ok (.d (.int ns.sum)) M
    | none => .st
  | xs, M => sumV xs M
theorem cd_sum (hc : X.calm = true) : CallD X (.builtin "sum") sumTV := by
  rintro pins s σ H vs us Q I rv ⟨w, M, xs, r, rx, p⟩
  unfold sumTV at p
  split at p
  · split at p
    · rename_i ns hq
      obtain ⟨v, rfl, hv⟩ := rvs1 rx
      obtain ⟨q, ws, rfl, hs, d⟩ := tup_at r hv (show tupOf _ = some _ from rfl)
      have e := ints_at d hq
      subst e
      have eu := rv.ref1
      subst eu
      obtain ⟨its, rt, ht, _⟩ := I.tuple hs
      exact sum_tup (I.ok.hd hc) (show s.heap.IsTuple q its.toArray from ht) rt.ints fun h' tk t' k => ⟨.int ns.sum, H, I.kept (t' := tk) k, ⟨t', rfl⟩, p.at r (.int _)⟩
    · exact p.elim
  · exact cd_sumL hc pins s σ H vs us Q I rv ⟨w, M, xs, r, rx, p⟩
def MtD (X : Cx) (id : String) (g : Nat → List PyData → List Vl → Mem → Res Vl) : Prop :=
  MtR X id fun v us H Q => ∃ (w : Wd) (M : Mem) (i : Nat) (xs : List PyData) (ys : List Vl), Rel X.K w M H ∧ RV X.K w (.h i) v ∧ M[i]? = some (.lst xs) ∧ RVs X.K w ys us ∧ Post X.K (fun _ _ _ => False) (RV X.K) w (g i xs ys M) Q
/-- o.m(e, ..), o a handle -/
def methE (g : Nat → List PyData → List Vl → Mem → Res Vl) (f : Ev) (h : Evs) : Ev := fun e M => (f e M).bind fun x M1 => match x with
  | .h i => match M1[i]? with
    | some (.lst _) => (h e M1).bind fun ys M2 => match M2[i]? with
      | some (.lst xs) => (g i xs ys M2).pur
      | _ => .st
    | _ => .st
  | _ => .st
theorem handle_ty {K : Frag} {w : Wd} {M : Mem} {H : Hp} {i : Nat} {v : V} {xs : List PyData} (r : Rel K w M H) (rv : RV K w (.h i) v) (h : M[i]? = some (.lst xs)) : tyV K "list" v H := by
  obtain ⟨a, e, rfl⟩ := rv
  obtain ⟨_, vs, e2, _⟩ := r.at e h
  exact .inl ⟨rfl, vs, .of e2⟩
variable {o e : Expr} {es : List Expr} {f : Ev} {h : Evs} {g : Nat → List PyData → List Vl → Mem → Res Vl} {name : Str} {apos cpos : Pos} {id : String}
theorem de_m (pa : PlainAttrs "list") (slot : Slot "list" name id) (hty : typeOf (.builtin id) = pure (.type "method_descriptor")) (hm : MtD X id g) (ho : DE X W o f) (ha : DA X W (e :: es) h)
    (hbase : attributeBase o name X.env (eval o X.env) = eval o X.env := by rfl)
    (hfew : ((backTo cpos (starEach (e :: es) X.env)).all (fun x => !x.1) && (backToKw cpos (keywordEach [] X.env)).all (fun x => x.1.isSome)
      && decide ((e :: es).length + ([] : List Keyword).length + (if ([] : List Keyword).isEmpty then 0 else 1) < 30)) = true := by rfl)
    (hline : (apos.endLine == cpos.line) = true := by rfl) (hs : starEach (e :: es) X.env = (false, eval e X.env) :: starEach es X.env := by rfl) (hplain : (backTo cpos (starEach es X.env)).any (·.1) = false := by rfl) :
    DE X W (.Call (.Attribute o name apos) (e :: es) [] cpos) (methE g f h) :=
  PEweak (pe_bm pa slot hty hm ho ha hbase hfew hline hs hplain) fun σ H Q ⟨w, e, M, r, re, p⟩ =>
    ⟨w, e, M, r, re, p.bind fun x M1 w1 v H1 l1 r1 rv p1 => by
      split at p1
      · split at p1
        · rename_i q1
          exact ⟨handle_ty r1 rv q1, w1, e, M1, r1, re.up l1, p1.bind fun ys M2 w2 us H2 l2 r2 rys p2 => by
            split at p2
            · rename_i q2
              exact ⟨w2, M2, _, _, ys, r2, rv.up l2, q2, rys, p2.pur⟩
            · exact p2.elim⟩
        · exact p1.elim
      · exact p1.elim⟩
def appM (i : Nat) (xs : List PyData) (ys : List Vl) (M : Mem) : Res Vl := match ys with
  | [.d y] => if xs.length < sizeLine then .ok (.d .none) (M.set i (.lst (xs ++ [y]))) else .st
  | _ => .st
theorem md_append : MtD X "list.append" appM := by
  rintro pins s σ H x us v ws Q I rx rv ⟨w, M, i, xs, ys, r, rh, hm, rys, p⟩
  unfold appM at p
  split at p
  · split at p
    · rename_i hz
      obtain ⟨u, rfl, hu⟩ := rvs1 rys
      obtain ⟨a, ea, rfl⟩ := rh
      obtain ⟨hF, vs, e2, d⟩ := r.at ea hm
      exact mt_append pins s σ H _ _ v ws Q I rx rv ⟨a, vs, u, rfl, rfl, e2, by rw [d.len]; exact hz, p _ _ _ (Wd.le_refl w) (r.write ea hF (d.app (.cons hu .nil))) .non⟩
    · exact p.elim
  · exact p.elim
def popM (i : Nat) (xs : List PyData) (ys : List Vl) (M : Mem) : Res Vl := match ys with
  | [] => match xs[xs.length - 1]? with
    | some y => .ok (.d y) (M.set i (.lst xs.dropLast))
    | none => .st
  | [.d (.int j)] => match ixN xs.length j with
    | some k => if -(2 ^ 63) ≤ j ∧ j < 2 ^ 63 then match xs[k]? with
      | some y => .ok (.d y) (M.set i (.lst (xs.eraseIdx k)))
      | none => .st
      else .st
    | none => .st
  | _ => .st
theorem DpAll.dropLast {K : Frag} {F : Hp} {vs : List V} {ds : List PyData} (h : DpAll K F vs ds) : DpAll K F vs.dropLast ds.dropLast := by
  rw [List.dropLast_eq_take, List.dropLast_eq_take, h.len]
  exact h.take _
theorem md_pop : MtD X "list.pop" popM := by
  rintro pins s σ H x us v ws Q I rx rv ⟨w, M, i, xs, ys, r, rh, hm, rys, p⟩
  unfold popM at p
  split at p
  · split at p
    · rename_i y hy
      cases rys
      obtain ⟨a, ea, rfl⟩ := rh
      obtain ⟨hF, vs, e2, d⟩ := r.at ea hm
      obtain ⟨u, h1, h2⟩ := d.get hy
      exact mt_pop pins s σ H _ _ v ws Q I rx rv ⟨a, vs, u, rfl, rfl, e2, by rw [d.len]; exact h1, p _ _ _ (Wd.le_refl w) (r.write ea hF d.dropLast) h2⟩
    · exact p.elim
  · split at p
    · rename_i k hk
      split at p
      · rename_i hb
        split at p
        · rename_i y hy
          obtain ⟨u, rfl, hu⟩ := rvs1 rys
          cases hu
          obtain ⟨a, ea, rfl⟩ := rh
          obtain ⟨hF, vs, e2, d⟩ := r.at ea hm
          obtain ⟨u, h1, h2⟩ := d.get hy
          refine mt_popAt pins s σ H _ _ v ws Q I rx rv ⟨a, vs, _, k, u, rfl, rfl, e2, hb.1, hb.2, ?_, h1, p _ _ _ (Wd.le_refl w) (r.write ea hF (d.erase k)) h2⟩
          rw [d.len]
          exact (ixN_seq hk).1
        · exact p.elim
      · exact p.elim
    · exact p.elim
  · exact p.elim
def cutD (xs : List PyData) (lo hi : Option Int) : List PyData := (xs.drop (HT.sIx xs.length 0 lo)).take (HT.sIx xs.length xs.length hi - HT.sIx xs.length 0 lo)
theorem cut_at {K : Frag} {F : Hp} {vs : List V} {ds : List PyData} (h : DpAll K F vs ds) (lo hi : Option Int) : DpAll K F (cutV vs lo hi) (cutD ds lo hi) := by
  unfold cutV cutD
  rw [h.len]
  exact (h.drop _).take _
abbrev Eo := Env → Mem → Res (Option Int)
def noP : Eo := fun _ M => .ok none M
def someP (f : Ev) : Eo := fun e M => (f e M).bind fun x M1 => match x with
  | .d (.int i) => .ok (some i) M1
  | _ => .st
def DO (X : Cx) (W : WX) (e : Option Expr) (f : Eo) : Prop := PO X e (tG X.K W (fun _ a b => a = b) f)
theorem POweak {e : Option Expr} {t t' : TO} (h : PO X e t) (k : ∀ σ H Q, t' σ H Q → t σ H Q) : PO X e t' := ⟨fun pins s σ H Q I q => h.run pins s σ H Q I (k σ H Q q)⟩
theorem do_none : DO X W none noP := POweak po_none fun σ H Q ⟨w, e, M, r, re, p⟩ => p.at r rfl
theorem do_some {e : Expr} {f : Ev} (h : DE X W e f) : DO X W (some e) (someP f) := POweak (po_some h) fun σ H Q ⟨w, e, M, r, re, p⟩ =>
  ⟨w, e, M, r, re, p.bind fun x M1 w1 v H1 l1 r1 rv p1 => by
    split at p1
    · cases rv
      exact ⟨_, rfl, p1.at r1 rfl⟩
    · exact p1.elim⟩
/-- a slice of a list, of a text, of a tuple (not the whole of it) -/
def slV (x : Vl) (lo hi : Option Int) (M : Mem) : Res Vl := match x with
  | .d (.str z) => if z.length ≤ sizeLine then .ok (.d (.str (cutS z lo hi))) M else .st
  | .d (.tuple xs) => if HT.sIx xs.length 0 lo = 0 ∧ HT.sIx xs.length xs.length hi = xs.length then .st else .ok (.d (.tuple (cutD xs lo hi))) M
  | x => match rdOf M x with
    | some xs => .ok (.d (.list (cutD xs lo hi))) M
    | none => .st
def slE (f : Ev) (a b : Eo) : Ev := fun e M => (f e M).bind fun x M1 => (a e M1).bind fun lo M2 => (b e M2).bind fun hi M3 => (slV x lo hi M3).pur
theorem de_slice {a : Expr} {lo hi : Option Expr} {l u : Eo} {p2 pos : Pos} (ha : DE X W a f) (hl : DO X W lo l) (hu : DO X W hi u) : DE X W (.Subscript a (.Slice lo hi none p2) pos) (slE f l u) :=
  PEweak (pe_slice (sl_list.or (sl_cutT.or sl_str)) ha hl hu) fun σ H Q ⟨w, e, M, r, re, p⟩ =>
    ⟨w, e, M, r, re, p.bind fun x M1 w1 v H1 l1 r1 rv p1 =>
      ⟨w1, e, M1, r1, re.up l1, p1.bind fun lo M2 w2 lo' H2 l2 r2 elo p2 =>
        ⟨w2, e, M2, r2, (re.up l1).up l2, p2.bind fun hi M3 w3 hi' H3 l3 r3 ehi p3 => by
          have elo : lo = lo' := elo
          have ehi : hi = hi' := ehi
          subst elo ehi
          have rv := (rv.up l2).up l3
          have p3 : Post X.K (WE W σ) (RV X.K) w3 (slV x lo hi M3) Q := p3.pur
          unfold slV at p3
          split at p3
          · split at p3
            · rename_i hz
              cases rv
              exact .inr (.inr ⟨_, rfl, hz, p3.at r3 (.str _)⟩)
            · exact p3.elim
          · split at p3
            · exact p3.elim
            · rename_i hz
              obtain ⟨q, ws, rfl, hs, d⟩ := tup_at r3 rv (show tupOf _ = some _ from rfl)
              exact .inr (.inl ⟨q, ws, ⟨rfl, hs⟩, fun hw => absurd (d.len ▸ hw) hz, fun _ => newT_of r3 (cut_at d lo hi) p3⟩)
          · split at p3
            · rename_i hq
              obtain ⟨q, ws, rfl, hs, d⟩ := rd_at r3 rv hq
              refine .inl ⟨q, ws, rfl, hs, fun z hz' => ?_⟩
              exact p3 _ _ _ (Wd.le_fz (r3.new hz').2) (r3.alloc hz' _) (Dp.lst upd_same (DpAll.up (Wd.le_fz (w := w3) (o := .lst (cutV ws lo hi)) (r3.new hz').2).2 _ _ (cut_at d lo hi)))
            · exact p3.elim⟩⟩⟩
/-- list(x) -/
def listE (f : Ev) : Env → Mem → Res (List PyData) := fun e M => (f e M).bind fun x M1 => match seqOf M1 x with
  | some xs => .ok xs M1
  | none => .st
theorem df_list {e : Expr} {f : Ev} {p pos : Pos} (hg : Gl X "list") (hm : X.mg "list" = none) (ha : DE X W e f) (he : starEach [e] X.env = (false, eval e X.env) :: starEach [] X.env := by rfl)
    (hpl : (backTo pos (starEach [] X.env)).any (·.1) = false := by rfl) (hv : bootBuiltins "list" = some (.type "list") := by decide +kernel) : DF X W (.Call (.Name "list" p) [e] [] pos) (listE f) :=
  PEweak (pe_callTy call_list_of hg hm hv (pa_cons ha pa_nil he) (by decide) (by decide) he hpl) fun σ H Q ⟨w, e, M, r, re, p⟩ =>
    ⟨w, e, M, r, re, p.bind fun x M1 w1 v H1 l1 r1 rv p1 => by
      split at p1
      · rename_i xs hq
        obtain ⟨q, ws, rfl, hs, d⟩ := seq_at r1 rv hq
        exact ⟨q, ws, rfl, hs, p1.at r1 d⟩
      · exact p1.elim⟩
/-- list(range(..)) -/
def rangeD (a b : Int) : List PyData := (List.range (b - a).toNat).map fun (i : Nat) => .int (a + (i : Nat))
/-- the ends of a range, as they may be -/
def rgOk (a b : Int) : Bool := decide (-(2 ^ 62) ≤ a ∧ a < 2 ^ 62 ∧ -(2 ^ 62) ≤ b ∧ b < 2 ^ 62 ∧ (b - a).toNat ≤ 2 ^ 24)
def rgE1 (f : Ev) : Env → Mem → Res (List PyData) := fun e M => (f e M).bind fun x M1 => match x with
  | .d (.int i) => if rgOk 0 i = true then .ok (rangeD 0 i) M1 else .st
  | _ => .st
end
end DL
namespace DL
open PySem PySem.Spec L2
inductive Fl where
  | nx | rt (v : Vl) | bk | ct
inductive RS where
  | go (f : Fl) (e : Env) (M : Mem)
  | er (C : Str) (fs : List (Str × PyData)) (e : Env) (M : Mem)
  | st
abbrev Sv := Env → Mem → RS
def PostS (K : Frag) (W : WX) (w : Wd) (r : RS) (D : Ends) : Prop :=
  match r with
  | .go .nx e M => ∀ w' σ' H', w.le w' → Rel K w' M H' → RE K w' e σ' → D.nx σ' H'
  | .go .bk e M => ∀ w' σ' H', w.le w' → Rel K w' M H' → RE K w' e σ' → D.bk σ' H'
  | .go .ct e M => ∀ w' σ' H', w.le w' → Rel K w' M H' → RE K w' e σ' → D.ct σ' H'
  | .go (.rt x) _ M => ∀ w' v H', w.le w' → Rel K w' M H' → RV K w' x v → D.rt v H'
  | .er C fs e M => ∀ w' σ' d H', w.le w' → Rel K w' M H' → RE K w' e σ' → XD K w' H' d fs → W (.ref (He.ga K C)) d σ' H'
  | .st => False
def tS (K : Frag) (W : WX) (g : Sv) : TS := fun D σ H => ∃ w e M, Rel K w M H ∧ RE K w e σ ∧ PostS K W w (g e M) D
def DS (X : Cx) (W : WX) (s : Stmt) (g : Sv) : Prop := PS X s (tS X.K W g)
def DSs (X : Cx) (W : WX) (s : List Stmt) (g : Sv) : Prop := PSs X s (tS X.K W g)
theorem PostS.up {K : Frag} {W : WX} {w w' : Wd} {r : RS} {D : Ends} (l : w.le w') (p : PostS K W w r D) : PostS K W w' r D := by
  cases r with
  | go f e M =>
    cases f with
    | nx => exact fun w2 σ H l2 => p w2 σ H (l.trans l2)
    | bk => exact fun w2 σ H l2 => p w2 σ H (l.trans l2)
    | ct => exact fun w2 σ H l2 => p w2 σ H (l.trans l2)
    | rt x => exact fun w2 σ H l2 => p w2 σ H (l.trans l2)
  | er C fs e M => exact fun w2 σ d H l2 => p w2 σ d H (l.trans l2)
  | st => exact p
/-- an expression within a statement -/
def lift {α : Type} (f : Env → Mem → Res α) (k : α → Env → Mem → RS) : Sv := fun e M => match f e M with
  | .ok x M1 => k x e M1
  | .er C fs M1 => .er C fs e M1
  | .st => .st
section
variable {X : Cx} {W : WX}
theorem PostS.of {α β : Type} {K : Frag} {RR : Wd → α → β → Prop} {w : Wd} {f : Env → Mem → Res α} {k : α → Env → Mem → RS} {e : Env} {M : Mem} {D : Ends} {σ : L2.St} {R : β → Hp → Prop} (p : PostS K W w (lift f k e M) D) (re : RE K w e σ)
    (h : ∀ x M' w' v H', w.le w' → Rel K w' M' H' → RR w' x v → PostS K W w' (k x e M') D → R v H') : Post K (WE W σ) RR w (f e M) R := by
  unfold lift at p
  cases q : f e M with
  | ok x M1 => rw [q] at p; exact fun w' v H' l a b => h x M1 w' v H' l a b (PostS.up l p)
  | er C fs M1 => rw [q] at p; exact fun w' d H' l a b => p w' σ d H' l a (re.up l) b
  | st => rw [q] at p; exact p
theorem PostS.nx {K : Frag} {w : Wd} {e : Env} {M : Mem} {D : Ends} {σ : L2.St} {H : Hp} (p : PostS K W w (.go .nx e M) D) (r : Rel K w M H) (re : RE K w e σ) : D.nx σ H := p w σ H (Wd.le_refl w) r re
theorem PostS.rt {K : Frag} {w : Wd} {e : Env} {M : Mem} {D : Ends} {x : Vl} {v : V} {H : Hp} (p : PostS K W w (.go (.rt x) e M) D) (r : Rel K w M H) (rv : RV K w x v) : D.rt v H := p w v H (Wd.le_refl w) r rv
def nopS : Sv := fun e M => .go .nx e M
def seqS (g h : Sv) : Sv := fun e M => match g e M with
  | .go .nx e1 M1 => h e1 M1
  | r => r
variable {st : Stmt} {rest : List Stmt} {g h : Sv} {e c : Expr} {f : Ev} {t : Env → Mem → Res Bool} {pos : Pos}
theorem dss_nil : DSs X W [] nopS := PSsweak pss_nil fun D σ H ⟨w, e, M, r, re, p⟩ => p.nx r re
theorem dss_cons (h1 : DS X W st g) (h2 : DSs X W rest h) : DSs X W (st :: rest) (seqS g h) :=
  PSsweak (pss_cons h1 h2) fun D σ H ⟨w, e, M, r, re, p⟩ => ⟨w, e, M, r, re, by
    unfold seqS at p
    cases q : g e M with
    | go f e1 M1 =>
      rw [q] at p
      cases f with
      | nx => exact fun w' σ' H' l a b => ⟨w', e1, M1, a, b, PostS.up l p⟩
      | rt x => exact p
      | bk => exact p
      | ct => exact p
    | er C fs e1 M1 => rw [q] at p; exact p
    | st => rw [q] at p; exact p⟩
theorem dss_one (h1 : DS X W st g) : DSs X W [st] g := pss_one h1
def dropS (f : Ev) : Sv := lift f fun _ e M => .go .nx e M
theorem ds_expr (he : DE X W e f) (hs : swapsWith e none pos.line X.env = pure false := by rfl) : DS X W (.Expr e pos) (dropS f) :=
  PSweak (ps_expr he hs) fun D σ H ⟨w, e, M, r, re, p⟩ => ⟨w, e, M, r, re, p.of re fun x M1 w1 v H1 l1 r1 rv p1 => p1.nx r1 (re.up l1)⟩
def retS (f : Ev) : Sv := lift f fun x e M => .go (.rt x) e M
theorem ds_ret (he : DE X W e f) : DS X W (.Return (some e) pos) (retS f) :=
  PSweak (ps_ret he) fun D σ H ⟨w, e, M, r, re, p⟩ => ⟨w, e, M, r, re, p.of re fun x M1 w1 v H1 l1 r1 rv p1 => p1.rt r1 rv⟩
def ifS (t : Env → Mem → Res Bool) (g h : Sv) : Sv := lift t fun b e M => if b = true then g e M else h e M
theorem ds_if {a b : List Stmt} (hc : DT X W c t) (ha : DSs X W a g) (hb : DSs X W b h) : DS X W (.If c a b pos) (ifS t g h) :=
  PSweak (ps_if hc ha hb) fun D σ H ⟨w, e, M, r, re, p⟩ => ⟨w, e, M, r, re, p.of re fun x M1 w1 v H1 l1 r1 rv p1 => by
    have rv : x = v := rv
    subst rv
    cases x with
    | true => exact ⟨w1, e, M1, r1, re.up l1, p1⟩
    | false => exact ⟨w1, e, M1, r1, re.up l1, p1⟩⟩
def setS (i : Nat) (f : Ev) : Sv := lift f fun x e M => .go .nx (e.set i (some x)) M
theorem ds_set {i : Nat} {x : Str} {pos' : Pos} (hN : X.N.Nodup) (hi : X.N[i]? = some x) (hx : Loc X.env.scope x) (he : DE X W e f) (hs : swapsWith e (some (.Name x pos')) pos.line X.env = pure false := by rfl)
    (hf : X.fn x = true ∨ X.env.scope.names.lookup x = some .local := by first | exact .inl rfl | exact .inr rfl | assumption) : DS X W (.Assign [.Name x pos'] e pos) (setS i f) :=
  PSweak (ps_set hN hi hx he hs hf) fun D σ H ⟨w, e, M, r, re, p⟩ => ⟨w, e, M, r, re, p.of re fun x M1 w1 v H1 l1 r1 rv p1 => p1.nx r1 ((re.up l1).set rv i)⟩
/-- a ghost step ahead of a block: a handle at slot i is frozen -/
def freeze (i : Nat) : Sv := fun e M => match e[i]? with
  | some (some (.h j)) => match M[j]? with
    | some (.lst xs) => .go .nx (e.set i (some (.d (.list xs)))) (M.set j .gone)
    | _ => .st
  | _ => .st
theorem RE.put {K : Frag} {w : Wd} {e : Env} {σ : L2.St} (h : RE K w e σ) {x : Vl} {v : V} {i : Nat} (r : RV K w x v) (hv : σ[i]? = some (some v)) : RE K w (e.set i (some x)) σ :=
  ⟨by simp [h.len], fun j y q => by
    by_cases hj : i = j
    · subst hj
      by_cases hi : i < e.length
      · rw [List.getElem?_set_self hi] at q
        cases q
        exact ⟨v, hv, r⟩
      · rw [List.getElem?_eq_none (by simpa using hi)] at q
        cases q
    · rw [List.getElem?_set_ne hj] at q
      exact h.get j y q⟩
theorem freeze_nx {i : Nat} {e : Env} {M : Mem} : freeze i e M = .st ∨ ∃ j xs, e[i]? = some (some (.h j)) ∧ M[j]? = some (.lst xs) ∧ freeze i e M = .go .nx (e.set i (some (.d (.list xs)))) (M.set j .gone) := by
  unfold freeze
  split
  · rename_i j hj
    split
    · rename_i xs hm
      exact .inr ⟨j, xs, hj, hm, rfl⟩
    · exact .inl rfl
  · exact .inl rfl
theorem dss_freeze {sts : List Stmt} (i : Nat) (h2 : DSs X W sts h) : DSs X W sts (seqS (freeze i) h) :=
  PSsweak h2 fun D σ H ⟨w, e, M, r, re, p⟩ => by
    unfold seqS at p
    rcases freeze_nx (i := i) (e := e) (M := M) with q | ⟨j, xs, hj, hm, q⟩
    · rw [q] at p; exact p.elim
    · rw [q] at p
      obtain ⟨v, hv, a, ea, ev⟩ := re.get i _ hj
      subst ev
      obtain ⟨hF, vs, e2, d⟩ := r.at ea hm
      have hle : w.le (w.fz a (.lst vs)) := Wd.le_fz hF
      exact ⟨w.fz a (.lst vs), _, _, r.freeze (xs := xs) ea hF e2, (re.up hle).put (x := .d (.list xs)) (Dp.lst upd_same (DpAll.up hle.2 _ _ d)) hv, PostS.up hle p⟩
end
end DL
namespace DL
open PySem PySem.Spec L2
abbrev Tg := Vl → Env → Mem → Res Env
abbrev Tgs := List PyData → Env → Mem → Res Env
abbrev W0 : WX := fun _ _ _ _ => False
/-- what a walk gives: a value, or (b) a pair made on the way, whose object is not known -/
def DpQ (b : Bool) (K : Frag) (F : Hp) (x : V) (d : PyData) : Prop := Dp K F x d ∨ (b = true ∧ ∃ p vs ds, x = .ref p ∧ d = .tuple ds ∧ SqT K F p vs ∧ DpAll K F vs ds)
theorem DpQ.up {b : Bool} {K : Frag} {F F' : Hp} (l : ∀ a o, F a = some o → F' a = some o) {x : V} {d : PyData} : DpQ b K F x d → DpQ b K F' x d
  | .inl h => .inl (Dp.up l _ _ h)
  | .inr ⟨hb, p, vs, ds, e1, e2, h1, h2⟩ => .inr ⟨hb, p, vs, ds, e1, e2, SqT.up l h1, DpAll.up l _ _ h2⟩
def RQ (b : Bool) (K : Frag) (w : Wd) (x : Vl) (v : V) : Prop := RV K w x v ∨ ∃ d, x = .d d ∧ DpQ b K w.F v d
theorem RQ.v {K : Frag} {w : Wd} {x : Vl} {v : V} : RQ false K w x v → RV K w x v
  | .inl h => h
  | .inr ⟨_, e, .inl h⟩ => e ▸ h
  | .inr ⟨_, _, .inr ⟨z, _⟩⟩ => nomatch z
theorem RQ.tup {b : Bool} {K : Frag} {w : Wd} {M : Mem} {H : Hp} {x : Vl} {v : V} {xs : List PyData} (r : Rel K w M H) (rv : RQ b K w x v) (h : tupOf x = some xs) : ∃ p vs, v = .ref p ∧ SqT K H p vs ∧ DpAll K w.F vs xs := by
  rcases rv with rv | ⟨d, rfl, rv | ⟨_, p, vs, ds, rfl, rfl, h1, h2⟩⟩
  · exact tup_at r rv h
  · exact tup_at r (x := .d d) rv h
  · cases h
    exact ⟨p, vs, rfl, SqT.up r.sub h1, h2⟩
def tTg (K : Frag) (b : Bool) (γ : Tg) : TG := fun v σ H Q => ∃ (w : Wd) (e : Env) (M : Mem) (x : Vl), Rel K w M H ∧ RE K w e σ ∧ RQ b K w x v ∧ Post K (fun _ _ _ => False) (RE K) w (γ x e M) Q
def GDb (b : Bool) (X : Cx) (tg : Expr) (γ : Tg) : Prop := PG X tg (tTg X.K b γ)
abbrev GD (X : Cx) (tg : Expr) (γ : Tg) : Prop := GDb false X tg γ
def GDs (X : Cx) (tgs : List Expr) (γ : Tgs) : Prop := PGs X tgs fun vs σ H Q => ∃ (w : Wd) (e : Env) (M : Mem) (xs : List PyData), Rel X.K w M H ∧ RE X.K w e σ ∧ DpAll X.K w.F vs xs ∧ Post X.K (fun _ _ _ => False) (RE X.K) w (γ xs e M) Q
def setT (i : Nat) : Tg := fun x e M => .ok (e.set i (some x)) M
def nilT : Tgs := fun xs e M => match xs with
  | [] => .ok e M
  | _ => .st
def consT (γ : Tg) (δ : Tgs) : Tgs := fun xs e M => match xs with
  | x :: r => (γ (.d x) e M).bind fun e1 M1 => δ r e1 M1
  | [] => .st
def tupT (n : Nat) (δ : Tgs) : Tg := fun x e M => match tupOf x with
  | some xs => if xs.length = n then δ xs e M else .st
  | none => .st
section
variable {X : Cx} {W : WX} {pos : Pos}
theorem PGweak {tg : Expr} {t t' : TG} (h : PG X tg t) (k : ∀ v σ H Q, t' v σ H Q → t v σ H Q) : PG X tg t' := ⟨fun pins s σ H v u Q I r q => h.run pins s σ H v u Q I r (k v σ H Q q)⟩
theorem PGsweak {tg : List Expr} {t t' : TGs} (h : PGs X tg t) (k : ∀ v σ H Q, t' v σ H Q → t v σ H Q) : PGs X tg t' := ⟨fun pins s σ H v u Q I r q => h.run pins s σ H v u Q I r (k v σ H Q q)⟩
theorem gd_name {i : Nat} {x : Str} (hN : X.N.Nodup) (hi : X.N[i]? = some x) (hx : Loc X.env.scope x) (hf : X.fn x = true ∨ X.env.scope.names.lookup x = some .local := by first | exact .inl rfl | exact .inr rfl | assumption) : GD X (.Name x pos) (setT i) :=
  PGweak (pg_name hN hi hx hf) fun v σ H Q ⟨w, e, M, x, r, re, rv, p⟩ => p.at r (re.set rv.v i)
theorem gds_nil : GDs X [] nilT := PGsweak pgs_nil fun vs σ H Q ⟨w, e, M, xs, r, re, d, p⟩ => by
  unfold nilT at p
  split at p
  · cases d; exact ⟨rfl, p.at r re⟩
  · exact p.elim
theorem gds_cons {tg : Expr} {tgs : List Expr} {γ : Tg} {δ : Tgs} (h1 : GD X tg γ) (h2 : GDs X tgs δ) (hs : (assignEach (tg :: tgs) X.env).map (·.2) = assign tg X.env :: (assignEach tgs X.env).map (·.2) := by rfl) : GDs X (tg :: tgs) (consT γ δ) :=
  PGsweak (pgs_cons h1 h2 hs) fun vs σ H Q ⟨w, e, M, xs, r, re, d, p⟩ => by
    unfold consT at p
    split at p
    · cases d with
      | cons d1 d2 =>
        exact ⟨_, _, rfl, w, e, M, .d _, r, re, .inl d1, p.bind fun e1 M1 w1 σ1 H1 l1 r1 re1 p1 => ⟨w1, e1, M1, _, r1, re1, d2.up l1.2, p1⟩⟩
    · exact p.elim
theorem gd_tup {b : Bool} {es : List Expr} {k n : Nat} {δ : Tgs} (hc : X.calm = true) (h : GDs X es δ) (hn : (assignEach es X.env).length = n := by rfl) (hst : (assignEach es X.env).findIdx? (·.1) = none := by rfl) : GDb b X (.Tuple es k pos) (tupT n δ) :=
  PGweak (pg_tup hc h hn hst) fun v σ H Q ⟨w, e, M, x, r, re, rv, p⟩ => by
    unfold tupT at p
    split at p
    · rename_i xs hx
      split at p
      · rename_i hl
        obtain ⟨q, vs, rfl, hs, d⟩ := rv.tup r hx
        exact ⟨q, vs, rfl, hs, by rw [d.len]; exact hl, w, e, M, xs, r, re, d, p⟩
      · exact p.elim
    · exact p.elim
/-- o[i] = .., o a handle -/
def subT (f g : Ev) : Tg := fun x e M => (f e M).bind fun o M1 => (g e M1).bind fun j M2 => match o, j, x with
  | .h i, .d (.int k), .d y => match M2[i]? with
    | some (.lst xs) => match ixN xs.length k with
      | some n => .ok e (M2.set i (.lst (xs.set n y)))
      | none => .st
    | _ => .st
  | _, _, _ => .st
theorem gd_sub {o i : Expr} {f g : Ev} (ho : DE X W0 o f) (hi : DE X W0 i g)
    (ha : ∀ v, assign (.Subscript o i pos) X.env v = (do
      let ov ← holding [v] (eval o X.env)
      let iv ← holding [v, ov] (eval i X.env)
      standAt pos
      holding [v, ov, iv] (setItem ov iv v)
      release [v, ov, iv] []) := by intro _; rfl) : GD X (.Subscript o i pos) (subT f g) :=
  PGweak (pg_sub ho hi set_list ha) fun v σ H Q ⟨w, e, M, x, r, re, rv, p⟩ =>
    ⟨w, e, M, r, re, p.bind fun o M1 w1 ov H1 l1 r1 ro p1 =>
      ⟨w1, e, M1, r1, re.up l1, p1.bind fun j M2 w2 jv H2 l2 r2 rj p2 => by
        split at p2
        · split at p2
          · rename_i xs hm
            split at p2
            · rename_i n hn
              have ro := ro.up l2
              obtain ⟨a, ea, rfl⟩ := ro
              cases rj
              have rv := (rv.v.up l1).up l2
              obtain ⟨hF, vs, e2, d⟩ := r2.at ea hm
              exact ⟨a, vs, _, n, rfl, rfl, e2, by rw [d.len]; exact hn, p2 _ _ _ (Wd.le_refl w2) (r2.write ea hF (d.set rv n)) ((re.up l1).up l2)⟩
            · exact p2.elim
          · exact p2.elim
        · exact p2.elim⟩⟩
def asgS (f : Ev) (γ : Tg) : Sv := lift f fun x e M => match γ x e M with
  | .ok e1 M1 => .go .nx e1 M1
  | _ => .st
theorem ds_asg {tg e : Expr} {f : Ev} {γ : Tg} (he : DE X W e f) (hg : GD X tg γ) (hs : swapsWithSole [tg] e pos.line X.env = pure false := by rfl) (hw : swappedStores [tg] e X.env = pure none := by rfl)
    (h1 : (assignEach [tg] X.env).map (·.2) = [assign tg X.env] := by rfl) : DS X W (.Assign [tg] e pos) (asgS f γ) :=
  PSweak (ps_asg he hg hs hw h1) fun D σ H ⟨w, e, M, r, re, p⟩ => ⟨w, e, M, r, re, p.of re fun x M1 w1 v H1 l1 r1 rv p1 => ⟨w1, e, M1, x, r1, re.up l1, .inl rv, by
    cases q : γ x e M1 with
    | ok e1 M2 => rw [q] at p1; exact fun w' σ' H' l a b => p1 w' σ' H' l a b
    | er C fs M2 => rw [q] at p1; exact p1.elim
    | st => rw [q] at p1; exact p1.elim⟩⟩
/-- the iterator gives these, one after another -/
def IsItb (b : Bool) (K : Frag) (w : Wd) (xs : List PyData) (J : It) : Prop := Walk J xs.length (fun H => ∀ a o, w.F a = some o → H a = some o)
  (fun i H x H' => ∃ d, xs[i]? = some d ∧ ((H' = H ∧ DpQ b K w.F x d) ∨ ∃ T o, H T = none ∧ H' = upd H T o ∧ DpQ b K (upd w.F T o) x d))
abbrev IsIt (K : Frag) (w : Wd) (xs : List PyData) (J : It) : Prop := IsItb false K w xs J
abbrev Ei := Env → Mem → Res (List PyData)
def DIb (b : Bool) (X : Cx) (W : WX) (tg it : Expr) (f : Ei) : Prop := PI X tg it fun σ H R => tG X.K W (IsItb b X.K) f σ H R
abbrev DI (X : Cx) (W : WX) (tg it : Expr) (f : Ei) : Prop := DIb false X W tg it f
theorem PIweak {tg it : Expr} {t t' : TI} (h : PI X tg it t) (k : ∀ σ H R, t' σ H R → t σ H R) : PI X tg it t' := ⟨fun pins s σ H R I q => h.run pins s σ H R I (k σ H R q)⟩
def forL (γ : Tg) (g : Sv) : List PyData → Env → Mem → RS
  | [], e, M => .go .nx e M
  | x :: xs, e, M => match γ (.d x) e M with
    | .ok e1 M1 => match g e1 M1 with
      | .go .nx e2 M2 => forL γ g xs e2 M2
      | .go .ct e2 M2 => forL γ g xs e2 M2
      | .go .bk e2 M2 => .go .nx e2 M2
      | r => r
    | _ => .st
def forS (f : Ei) (γ : Tg) (g : Sv) : Sv := lift f fun xs e M => forL γ g xs e M
theorem ds_for {b : Bool} {tg it : Expr} {body : List Stmt} {f : Ei} {γ : Tg} {g : Sv} (hp : PassesOwn (model X.prog X.w) X.A X.env X.xe) (hc : X.calm = true) (hi : DIb b X W tg it f) (hg : GDb b X tg γ) (hb : DSs X W body g)
    (hs : ∀ x, foldedSetIterable it X.env x = pure x := by intro _; rfl) : DS X W (.For tg it body [] pos) (forS f γ g) :=
  PSweak (ps_for hp hc hi hg hb hs) fun D σ H ⟨w, e, M, r, re, p⟩ => ⟨w, e, M, r, re, p.of re fun xs M1 w1 J H1 l1 r1 hit p1 => by
    refine for_it (g := tTg X.K b γ) (tb := tS X.K W g) (D := D) hit (fun i σ H => ∃ w2 e2 M2, w1.le w2 ∧ Rel X.K w2 M2 H ∧ RE X.K w2 e2 σ ∧ PostS X.K W w2 (forL γ g (xs.drop i) e2 M2) D) ⟨w1, e, M1, Wd.le_refl _, r1, re.up l1, p1⟩ (fun i σ H _ ⟨w2, e2, M2, l2, r2, _, _⟩ a o q => r2.sub _ _ (l2.2 _ _ q)) ?_ ?_
    · rintro i x σ H H' hi ⟨w2, e2, M2, l2, r2, re2, p2⟩ ⟨d, hd, hx⟩
      have e1 : xs.drop i = d :: xs.drop (i + 1) := by
        rw [List.drop_eq_getElem_cons hi]
        rw [List.getElem?_eq_getElem hi] at hd
        rw [Option.some.inj hd]
      rw [e1] at p2
      unfold forL at p2
      have go : ∀ w3, w2.le w3 → Rel X.K w3 M2 H' → DpQ b X.K w3.F x d → tTg X.K b γ x σ H' fun σ2 H2 =>
          tS X.K W g { D with
            nx := fun σ H => ∃ w2 e2 M2, w1.le w2 ∧ Rel X.K w2 M2 H ∧ RE X.K w2 e2 σ ∧ PostS X.K W w2 (forL γ g (xs.drop (i + 1)) e2 M2) D
            ct := fun σ H => ∃ w2 e2 M2, w1.le w2 ∧ Rel X.K w2 M2 H ∧ RE X.K w2 e2 σ ∧ PostS X.K W w2 (forL γ g (xs.drop (i + 1)) e2 M2) D
            bk := D.nx } σ2 H2 := fun w3 l3 r3 dx => by
        refine ⟨w3, e2, M2, .d d, r3, re2.up l3, .inr ⟨d, rfl, dx⟩, ?_⟩
        cases q : γ (.d d) e2 M2 with
        | st => rw [q] at p2; exact p2.elim
        | er C fs M3 => rw [q] at p2; exact p2.elim
        | ok e3 M3 =>
          rw [q] at p2
          dsimp only at p2
          intro w4 σ4 H4 l4 r4 re4
          refine ⟨w4, e3, M3, r4, re4, ?_⟩
          have l14 : w1.le w4 := (l2.trans l3).trans l4
          have p2 := PostS.up (l3.trans l4) p2
          cases q2 : g e3 M3 with
          | st => rw [q2] at p2; exact p2.elim
          | er C fs e4 M4 => rw [q2] at p2; exact p2
          | go f e4 M4 =>
            rw [q2] at p2
            cases f with
            | nx => exact fun w5 σ5 H5 l5 r5 re5 => ⟨w5, e4, M4, l14.trans l5, r5, re5, PostS.up l5 p2⟩
            | ct => exact fun w5 σ5 H5 l5 r5 re5 => ⟨w5, e4, M4, l14.trans l5, r5, re5, PostS.up l5 p2⟩
            | bk => exact p2
            | rt x => exact p2
      rcases hx with ⟨rfl, dx⟩ | ⟨T, o, hT, rfl, dx⟩
      · exact go w2 (Wd.le_refl _) r2 (DpQ.up l2.2 dx)
      · have hF := (r2.new hT).2
        refine go (w2.fz T o) (Wd.le_fz hF) (r2.alloc hT o) (DpQ.up (fun a u q => ?_) dx)
        show upd w2.F T o a = some u
        by_cases ha : a = T
        · subst ha; rw [upd_same] at q ⊢; exact q
        · rw [upd_ne ha] at q ⊢; exact l2.2 _ _ q
    · rintro σ H ⟨w2, e2, M2, l2, r2, re2, p2⟩
      rw [List.drop_length] at p2
      exact p2.nx r2 re2⟩
def whileL (c : Env → Mem → Res Bool) (g : Sv) : Nat → Env → Mem → RS
  | 0, _, _ => .st
  | n + 1, e, M => lift c (fun b e M1 => if b = true then match g e M1 with
      | .go .nx e2 M2 => whileL c g n e2 M2
      | .go .ct e2 M2 => whileL c g n e2 M2
      | .go .bk e2 M2 => .go .nx e2 M2
      | r => r
    else .go .nx e M1) e M
def whileS (c : Env → Mem → Res Bool) (g : Sv) (n : Env → Mem → Nat) : Sv := fun e M => whileL c g (n e M) e M
theorem ds_while {c : Expr} {body : List Stmt} {f : Env → Mem → Res Bool} {g : Sv} (n : Env → Mem → Nat) (hp : PassesOwn (model X.prog X.w) X.A X.env X.xe) (hc : DT X W c f) (hb : DSs X W body g) : DS X W (.While c body [] pos) (whileS f g n) :=
  PSweak (ps_while hp hc hb) fun D σ H ⟨w, e, M, r, re, p⟩ => by
    refine ⟨fun m σ H => ∃ w e M, Rel X.K w M H ∧ RE X.K w e σ ∧ PostS X.K W w (whileL f g m e M) D, ⟨n e M, w, e, M, r, re, p⟩, ?_⟩
    rintro m σ H ⟨w, e, M, r, re, p⟩
    cases m with
    | zero => exact p.elim
    | succ m =>
      unfold whileL at p
      refine ⟨w, e, M, r, re, p.of re fun x M1 w1 v H1 l1 r1 rv p1 => ?_⟩
      have rv : x = v := rv
      subst rv
      cases x with
      | false => exact p1.nx r1 (re.up l1)
      | true =>
        refine ⟨fun σ' H' => ∃ w e M, Rel X.K w M H' ∧ RE X.K w e σ' ∧ PostS X.K W w (whileL f g m e M) D, fun σ' H' q => ⟨m, Nat.lt_succ_self m, q⟩, w1, e, M1, r1, re.up l1, ?_⟩
        rw [if_pos rfl] at p1
        cases q2 : g e M1 with
        | st => rw [q2] at p1; exact p1.elim
        | er C fs e4 M4 => rw [q2] at p1; exact p1
        | go f e4 M4 =>
          rw [q2] at p1
          cases f with
          | nx => exact fun w5 σ5 H5 l5 r5 re5 => ⟨w5, e4, M4, r5, re5, PostS.up l5 p1⟩
          | ct => exact fun w5 σ5 H5 l5 r5 re5 => ⟨w5, e4, M4, r5, re5, PostS.up l5 p1⟩
          | bk => exact p1
          | rt x => exact p1
end
end DL
namespace DL
open PySem PySem.Spec L2 PySem.W
section
open PySem.W
theorem meets_enum1 {v : Value} {o : Obj} {H : Heap → Prop} (B : Begins v o H) :
    Meets (Builtin.«enumerate.__new__» ⟨[.type "enumerate", v], []⟩) (fun _ R s => H s.heap ∧
      R (.ok (.ret (.ref (s.heap.push o).objs.size))) { s with heap := (s.heap.push o).push { cls := .type "enumerate", data := .fields #[.none, .bool false, .ref s.heap.objs.size, rawInt 0, .none, .none] } }) :=
  .of_wp fun prog w A R s h => by
    obtain ⟨hp, g, d, tk, os⟩ := s
    obtain ⟨h1, h⟩ := h
    have hsub := sub_enumerate
    have q1 : ∀ {A' : Around} {E : Value → Shared → Prop} {Q : Value → Shared → Prop}, Q (.ref hp.objs.size) ⟨hp.push o, g, d, tk, os⟩ → wpAny (model prog w) A' (pyIter v) Q E ⟨hp, g, d, tk, os⟩ :=
      fun q => B.iter prog w _ _ ⟨hp, g, d, tk, os⟩ _ h1 q
    wp_walk using q1
    refine wpAny_stack_any fun st => wpAny_pure ?_
    split
    · rename_i c _ _ _ _ _
      cases (c == Value.type "enumerate")
      · wp_walk using q1
        exact ⟨_, rfl, h⟩
      · wp_walk using q1
        exact ⟨_, rfl, h⟩
    · wp_walk using q1
      exact ⟨_, rfl, h⟩
theorem enum_begins1 {prog : Program} {w : World} {A : Around} {E : Value → Shared → Prop} {s : Shared} {v : Value} {o : Obj} {H : Heap → Prop} {Q : Value → Shared → Prop} (B : Begins v o H) (h1 : H s.heap)
    (h : ∀ h', IsEnum h' (s.heap.objs.size + 1) s.heap.objs.size 0 .none → h'.get? s.heap.objs.size = some o →
      (∀ b o, s.heap.get? b = some o → h'.get? b = some o) → Q (.ref (s.heap.objs.size + 1)) { s with heap := h' }) :
    wpAny (model prog w) A (call (.type "enumerate") [v]) Q E s := by
  refine callType_new F.called_enumerate (by decide) (F.typeCall_enumerate_1 _) (F.newCall_enumerate_1 _) (fun obj => F.args_object_init_2 obj _) F.entry_enumerate_new
    (meets_enum1 B) ⟨h1, ?_⟩
  have hz : (s.heap.push o).objs.size = s.heap.objs.size + 1 := Heap.size_push ..
  show _ ∧ _
  rw [hz]
  have he : IsEnum ((s.heap.push o).push { cls := .type "enumerate", data := .fields #[.none, .bool false, .ref s.heap.objs.size, rawInt 0, .none, .none] }) (s.heap.objs.size + 1) s.heap.objs.size 0 .none := by
    have q := Heap.get?_push_size (s.heap.push o) (o := { cls := .type "enumerate", data := .fields #[.none, .bool false, .ref s.heap.objs.size, rawInt 0, .none, .none] }) rfl
    rw [hz] at q
    exact q
  exact ⟨⟨_, he, rfl⟩, h _ he (Heap.get?_push_of_some _ (Heap.get?_push_size _ B.free)) fun b o x => Heap.get?_push_of_some _ (Heap.get?_push_of_some _ x)⟩
end
/-- a tuple's items, numbered -/
def ItEt (K : Frag) (a : Addr) : It :=
  ⟨fun i H => ∃ (xs : List V) (x : V), SqT K H a xs ∧ xs[i]? = some x, fun i H v H' => ∃ T x, v = .ref T ∧ H T = none ∧ H' = upd H T (.tup [.int (i : Nat), x]) ∧ ∀ xs, SqT K H a xs → xs[i]? = some x, fun i H => ∃ xs : List V, SqT K H a xs ∧ xs.length = i⟩
theorem enum_apart {h : Heap} {e it t : Addr} {k : Int} {old : Value} {vs : Array Value} (he : IsEnum h e it k old) (ht : h.IsTuple t vs) (hne : e ≠ it) : e ∉ [it, t] := by
  intro z
  rcases List.mem_cons.mp z with z | z
  · exact hne z
  · have z : e = t := by simpa using z
    subst z
    obtain ⟨o, ho, hc, n, hd⟩ := ht
    rw [he] at ho
    cases ho
    cases hd
theorem turn_enumT {P : Program} {w : World} {K : Frag} {elts : List Expr} {kk : Nat} {tpos : Pos} (a e it : Addr) :
    Turn P w K (.Tuple elts kk tpos) (ItEt K a) [e, it] e (fun i h => (∃ old, IsEnum h e it ((i : Nat) : Int) old) ∧ h.IsTupleIter it a i ∧ e ≠ it) where
  mem := by simp
  obj := fun i h st b hb => by
    obtain ⟨⟨old, he⟩, ⟨o, ho, hc, hd⟩, _⟩ := st
    have e' : b = e ∨ b = it := by simpa using hb
    rcases e' with z | z
    · rw [z]; exact ⟨_, he, fun v q => nomatch q⟩
    · rw [z]; exact ⟨o, ho, fun v q => by rw [hd] at q; cases q⟩
  keep := fun i h h' st k => by
    obtain ⟨⟨old, he⟩, ⟨o, ho, hc, hd⟩, hne⟩ := st
    exact ⟨⟨old, k e (by simp) _ he⟩, ⟨o, k it (by simp) _ ho, hc, hd⟩, hne⟩
  item := by
    intro X hP hw hK hc i pins s σ H E I hf st hg
    subst hP hw hK
    obtain ⟨⟨old, he⟩, hit, hne⟩ := st
    obtain ⟨xs, x, hq, hx⟩ := hg
    obtain ⟨its, rv, p, hz⟩ := I.tuple hq
    have p : s.heap.IsTuple a its.toArray := p
    obtain ⟨u, hu, ru⟩ := rv.get hx
    have hel : e < s.heap.objs.size := Heap.lt_size he
    have hil : it < s.heap.objs.size := by obtain ⟨_, q, _⟩ := hit; exact Heap.lt_size q
    have hit0 := hit
    have hai : a ≠ it := fun z => by
      subst z
      obtain ⟨o, ho, hc, n, hd⟩ := p
      obtain ⟨o', ho', hc', hd'⟩ := hit
      rw [ho] at ho'; cases ho'
      rw [hd] at hd'; cases hd'
    have D := Draws.tuple (prog := X.prog) (w := X.w) (A := X.A.in1) (I.ok.hd hc) it a hai its.toArray
    have hlt : i < its.toArray.size := by
      rw [List.size_toArray]
      exact (List.getElem?_eq_some_iff.mp hu).1
    refine wpAny_pyNext_enum_itemD D he ⟨hit, p⟩ hlt hne (enum_apart he p hne) fun x' h' tk hx' ho hst' hT hsz hk => ?_
    have ex : x' = u := by
      have hx' : its.toArray[i]? = some x' := hx'
      rw [List.getElem?_toArray, hu] at hx'
      exact (Option.some.inj hx').symm
    subst ex
    refine ⟨_, rfl, wpAny_letOwnedTupleGo_enum (s := { s with heap := h', toks := tk + 1 }) ho fun h'' he' sb => ?_⟩
    have hT2 : h''.get? s.heap.objs.size = some { cls := .type "tuple", data := .seq #[.int i tk, x'] } := (sb.2 _ (Nat.ne_of_gt hel)).trans hT
    have new : ObjOk X.prog X.w (upd H s.heap.objs.size (.tup [.int (i : Nat), x])) h'' s.heap.objs.size (.tup [.int (i : Nat), x]) :=
      ⟨by show 2 ≤ sizeLine; decide, [.int i tk, x'], .cons ⟨_, rfl⟩ (.cons ru .nil), ⟨_, hT2, rfl, _, rfl⟩⟩
    have I1 : Inv X pins σ (upd H s.heap.objs.size (.tup [.int (i : Nat), x])) { s with heap := h'', toks := tk + 1 } :=
      I.turnedNew (ch := [e, it]) (fun b ob hb q => (sb.2 b (fun z => hb (by simp [z]))).trans (hk b ob (fun z => hb (by simp [z])) (fun z => hb (by simp [z])) q)) hf (Nat.le_refl _) new
    obtain ⟨⟨oi, hoi, hci, hdi⟩, _⟩ := hst'
    refine ⟨.ref s.heap.objs.size, _, I1, rfl, ⟨_, x, rfl, I.hok.fresh (Nat.le_refl _), rfl, fun ys hy => by rw [I.tuple_inj hy hq]; exact hx⟩, ⟨⟨x', ?_⟩, ⟨oi, (sb.2 it (Ne.symm hne)).trans hoi, hci, hdi⟩, hne⟩, fun b hb => ?_⟩
    · have e1 : ((i + 1 : Nat) : Int) = (i : Int) + 1 := by omega
      rw [e1]; exact he'
    · have hb' : b < s.heap.objs.size := by
        have e' : b = e ∨ b = it := by simpa using hb
        rcases e' with z | z
        · rw [z]; exact hel
        · rw [z]; exact hil
      rw [upd_ne (Nat.ne_of_lt hb')]
      exact (hf b hb).1
  done := by
    intro X hP hw hK hc i pins s σ H E I hf st hg
    subst hP hw hK
    obtain ⟨⟨old, he⟩, hit, hne⟩ := st
    obtain ⟨xs, hq, hx⟩ := hg
    obtain ⟨its, rv, p, hz⟩ := I.tuple hq
    have p : s.heap.IsTuple a its.toArray := p
    obtain ⟨f0, f1, f2, f3, f4, f5⟩ := hf it (by simp)
    have hl := rv.length
    have hai : a ≠ it := fun z => by
      subst z
      obtain ⟨o, ho, hc, n, hd⟩ := p
      obtain ⟨o', ho', hc', hd'⟩ := hit
      rw [ho] at ho'; cases ho'
      rw [hd] at hd'; cases hd'
    have D := Draws.tuple (prog := X.prog) (w := X.w) (A := X.A.in1) (I.ok.hd hc) it a hai its.toArray
    have ei : its.toArray.size = i := by rw [List.size_toArray]; omega
    rw [ei] at D
    exact wpAny_pyNext_enum_endD D he ⟨hit, p⟩ fun h' eb => ⟨rfl, I.turned (t' := s.toks) (fun b o hb q => eb b o hb q) f0 f1 f3 f4 f5⟩
  self := fun A i s Q E st h => let ⟨⟨_, he⟩, _⟩ := st; wpAny_pyIter_enum he h
end DL
namespace DL
open PySem PySem.Spec L2
section
variable {X : Cx} {W : WX} {tg : Expr}
/-- a list or a tuple, item by item -/
theorem pi_seq {l : Expr} {tl : TE} (hl : PE X l tl) : PI X tg l (fun σ H R => tl σ H fun x H1 => ∃ a, x = .ref a ∧ (((∃ xs, SqL X.K H1 a xs) ∧ R (Itl X.K a) H1) ∨ ((∃ xs, SqT X.K H1 a xs) ∧ R (Itt X.K a) H1))) := by
  constructor
  intro pins s σ H R I h
  refine thn (hl.run pins s σ H _ I h) fun v s1 ⟨x, H1, I1, r1, a, e, q⟩ => ?_
  subst e
  cases r1
  rcases q with ⟨⟨xs, hq⟩, q⟩ | ⟨⟨xs, hq⟩, q⟩
  · obtain ⟨its, rv, p, hz⟩ := I1.list hq
    exact wpAny_pyIter_list p.isList (pi_one (tk := s1.toks) I1 _ (turn_list a _) ⟨_, Heap.get?_push_size _ rfl, rfl, rfl⟩ q)
  · obtain ⟨its, rv, p, hz⟩ := I1.tuple hq
    exact wpAny_pyIter_tuple (show s1.heap.IsTuple a its.toArray from p) (pi_one (tk := s1.toks) I1 _ (turn_tuple a _) ⟨_, Heap.get?_push_size _ rfl, rfl, rfl⟩ q)
theorem isIt_list {K : Frag} {w : Wd} {a : Addr} {vs : List V} {xs : List PyData} (h : SqL K w.F a vs) (d : DpAll K w.F vs xs) : IsIt K w xs (Itl K a) := by
  unfold IsIt IsItb
  rw [← d.len]
  refine Walk.mono (walk_list (K := K) (a := a) (xs := vs)) (fun H hs => SqL.up hs h) fun i H x H' hi hs y => ?_
  obtain ⟨e, y⟩ := y
  obtain ⟨z, h1, h2⟩ := d.get' y
  exact ⟨z, h1, .inl ⟨e, .inl h2⟩⟩
theorem isIt_tup {K : Frag} {w : Wd} {a : Addr} {vs : List V} {xs : List PyData} (h : SqT K w.F a vs) (d : DpAll K w.F vs xs) : IsIt K w xs (Itt K a) := by
  unfold IsIt IsItb
  rw [← d.len]
  refine Walk.mono (walk_tup (K := K) (a := a) (xs := vs)) (fun H hs => SqT.up hs h) fun i H x H' hi hs y => ?_
  obtain ⟨e, y⟩ := y
  obtain ⟨z, h1, h2⟩ := d.get' y
  exact ⟨z, h1, .inl ⟨e, .inl h2⟩⟩
/-- a thing that may be gone through: data that does not change -/
def walkOf : Vl → Option (List PyData)
  | .d (.list xs) => some xs
  | .d (.tuple xs) => some xs
  | .s xs => some xs
  | _ => none
theorem walk_at {K : Frag} {w : Wd} {x : Vl} {v : V} {xs : List PyData} (rv : RV K w x v) (h : walkOf x = some xs) : ∃ a vs, v = .ref a ∧ (SqL K w.F a vs ∨ SqT K w.F a vs) ∧ DpAll K w.F vs xs := by
  cases x with
  | d y =>
    cases y with
    | list ys =>
      obtain rfl : ys = xs := Option.some.inj h
      cases rv with
      | lst h1 h2 => exact ⟨_, _, rfl, .inl (.of h1), h2⟩
    | tuple ys =>
      obtain rfl : ys = xs := Option.some.inj h
      cases rv with
      | tup h1 h2 => exact ⟨_, _, rfl, .inr h1.t, h2⟩
    | _ => cases h
  | s ys =>
    obtain rfl : ys = xs := Option.some.inj h
    obtain ⟨p, vs, e, q, d⟩ := rv
    exact ⟨p, vs, e, .inl q, d⟩
  | _ => cases h
def seqI (f : Ev) : Ei := fun e M => (f e M).bind fun x M1 => match walkOf x with
  | some xs => .ok xs M1
  | none => .st
theorem di_seq {e : Expr} {f : Ev} (he : DE X W e f) : DI X W tg e (seqI f) :=
  PIweak (pi_seq he) fun σ H R ⟨w, e, M, r, re, p⟩ =>
    ⟨w, e, M, r, re, p.bind fun x M1 w1 v H1 l1 r1 rv p1 => by
      split at p1
      · rename_i xs hx
        obtain ⟨a, vs, rfl, hs | hs, d⟩ := walk_at rv hx
        · exact ⟨a, rfl, .inl ⟨⟨vs, SqL.up r1.sub hs⟩, p1.at r1 (isIt_list hs d)⟩⟩
        · exact ⟨a, rfl, .inr ⟨⟨vs, SqT.up r1.sub hs⟩, p1.at r1 (isIt_tup hs d)⟩⟩
      · exact p1.elim⟩
theorem isIt_range {K : Frag} {w : Wd} {lo hi : Int} : IsIt K w (rangeD lo hi) (Itr lo (hi - lo).toNat) := by
  unfold IsIt IsItb
  have e : (rangeD lo hi).length = (hi - lo).toNat := by unfold rangeD; simp
  rw [e]
  refine Walk.mono walk_range (fun H hs => trivial) fun i H x H' hi' hs y => ?_
  obtain ⟨e, y⟩ := y
  refine ⟨.int (lo + (i : Nat)), ?_, .inl ⟨e, .inl (by rw [y]; exact .int _)⟩⟩
  unfold rangeD
  rw [List.getElem?_map, List.getElem?_range hi']
  rfl
def rngI1 (f : Ev) : Ei := fun e M => (f e M).bind fun x M1 => match x with
  | .d (.int j) => if -(2 ^ 62) ≤ j ∧ j < 2 ^ 62 then .ok (rangeD 0 j) M1 else .st
  | _ => .st
theorem di_range1 {a : Expr} {f : Ev} {p pos : Pos} (hg : Gl X "range") (hm : X.mg "range" = none) (ha : DE X W a f) (hs : starEach [a] X.env = [(false, eval a X.env)] := by rfl) : DI X W tg (.Call (.Name "range" p) [a] [] pos) (rngI1 f) :=
  PIweak (pi_range1 hg hm (pa_cons ha pa_nil hs) hs) fun σ H R ⟨w, e, M, r, re, p⟩ =>
    ⟨w, e, M, r, re, p.bind fun x M1 w1 v H1 l1 r1 rv p1 => by
      split at p1
      · split at p1
        · rename_i hz
          cases rv
          refine ⟨_, rfl, hz.1, hz.2, ?_⟩
          have q := p1.at r1 (isIt_range (K := X.K) (w := w1))
          rw [Int.sub_zero] at q
          exact q
        · exact p1.elim
      · exact p1.elim⟩
theorem pi_enumA {e : Expr} {ta : TA} {p pos tpos : Pos} {elts : List Expr} {kk : Nat} (hg : Gl X "enumerate") (hm : X.mg "enumerate" = none) (ha : PA X [e] ta) (hs : starEach [e] X.env = [(false, eval e X.env)] := by rfl) :
    PI X (.Tuple elts kk tpos) (.Call (.Name "enumerate" p) [e] [] pos) (fun σ H R => ta σ H fun vs H1 => ∃ a, vs = [.ref a] ∧ (((∃ xs, SqL X.K H1 a xs) ∧ R (Ite X.K a) H1) ∨ ((∃ xs, SqT X.K H1 a xs) ∧ R (ItEt X.K a) H1))) := by
  constructor
  intro pins s σ H R I h
  refine PyProof.Rows.Call_ (ld_blt I hg hm PyProof.Rows.boot_enumerate (PyProof.Rows.callWith_type1 (thn (ha.run pos pins s σ H _ I h) fun us s1 ⟨vs, H1, I1, r1, a, ea, q1⟩ => ?_) hs rfl))
  subst ea
  obtain rfl := r1.ref1
  have two : ∀ b, b = s1.heap.objs.size + 1 ∨ b = s1.heap.objs.size → s1.heap.objs.size ≤ b := fun b z => by omega
  rcases q1 with ⟨⟨xs, hq⟩, q⟩ | ⟨⟨xs, hq⟩, q⟩
  · obtain ⟨its, rv, pl, hz⟩ := I1.list hq
    refine call_enumerate_list pl.isList fun h' he hit hsz hk => wpAny_pyIter_enum he ?_
    have I2 : Inv X pins σ H1 { s1 with heap := h' } := I1.kept (t' := s1.toks) hk
    refine ⟨s1.heap.objs.size + 1, [s1.heap.objs.size + 1, s1.heap.objs.size], _, _, H1, rfl, I2, turn_enum a (s1.heap.objs.size + 1) s1.heap.objs.size, ⟨⟨.none, he⟩, hit, Nat.succ_ne_self _⟩, fun b hb => ?_, q⟩
    have hle := two b (by simpa using hb)
    exact I1.fpOk hle (I1.hok.fresh hle)
  · obtain ⟨its, rv, pl, hz⟩ := I1.tuple hq
    have pl : s1.heap.IsTuple a its.toArray := pl
    refine enum_begins1 (begins_tuple a its.toArray) pl fun h' he hit hk => wpAny_pyIter_enum he ?_
    have I2 : Inv X pins σ H1 { s1 with heap := h' } := I1.kept (t' := s1.toks) hk
    refine ⟨s1.heap.objs.size + 1, [s1.heap.objs.size + 1, s1.heap.objs.size], _, _, H1, rfl, I2, turn_enumT a (s1.heap.objs.size + 1) s1.heap.objs.size, ⟨⟨.none, he⟩, ⟨_, hit, rfl, rfl⟩, Nat.succ_ne_self _⟩, fun b hb => ?_, q⟩
    have hle := two b (by simpa using hb)
    exact I1.fpOk hle (I1.hok.fresh hle)
/-- numbered -/
def numD (xs : List PyData) : List PyData := xs.zipIdx.map fun p => .tuple [.int (p.2 : Nat), p.1]
theorem numD_get {xs : List PyData} {i : Nat} {d : PyData} (h : xs[i]? = some d) : (numD xs)[i]? = some (.tuple [.int (i : Nat), d]) := by
  unfold numD
  rw [List.getElem?_map, List.getElem?_zipIdx, h]
  simp
theorem numD_len (xs : List PyData) : (numD xs).length = xs.length := by unfold numD; simp
theorem isIt_num {K : Frag} {w : Wd} {xs : List PyData} {vs : List V} (d : DpAll K w.F vs xs) {J : It} {G : Hp → Prop} (hw : Walk J vs.length G (YPair (fun i => some (.int (i : Nat))) (fun i => vs[i]?))) (hG : ∀ H, (∀ a o, w.F a = some o → H a = some o) → G H) : IsItb true K w (numD xs) J := by
  unfold IsItb
  rw [numD_len, ← d.len]
  refine Walk.mono hw hG fun i H x H' hi hs y => ?_
  obtain ⟨T, x1, x2, rfl, hT, rfl, e1, e2⟩ := y
  obtain rfl := Option.some.inj e1
  obtain ⟨z, h1, h2⟩ := d.get' e2
  have hF : w.F T = none := by
    cases q : w.F T with
    | none => rfl
    | some o => rw [hs _ _ q] at hT; cases hT
  refine ⟨_, numD_get h1, .inr ⟨T, _, hT, rfl, .inr ⟨rfl, T, _, _, rfl, rfl, .inl (.inl upd_same), .cons (.int _) (.cons (Dp.up (fun a u q => ?_) _ _ h2) .nil)⟩⟩⟩
  rw [upd_ne (ne_of_none q hF)]
  exact q
theorem walk_enumT {K : Frag} {a : Addr} {xs : List V} : Walk (ItEt K a) xs.length (fun H => SqT K H a xs) (YPair (fun i => some (.int (i : Nat))) (fun i => xs[i]?)) :=
  ⟨fun i H hi h => ⟨xs, xs[i], h, by simp [hi]⟩, fun H h => ⟨xs, h, rfl⟩, fun i H x H' hi h ⟨T, y, e1, e2, e3, e4⟩ => ⟨T, .int (i : Nat), y, e1, e2, e3, rfl, e4 xs h⟩⟩
def enumI (f : Ev) : Ei := fun e M => (f e M).bind fun x M1 => match walkOf x with
  | some xs => .ok (numD xs) M1
  | none => .st
theorem di_enum {e : Expr} {f : Ev} {p pos tpos : Pos} {elts : List Expr} {kk : Nat} (hg : Gl X "enumerate") (hm : X.mg "enumerate" = none) (ha : DE X W e f) (hs : starEach [e] X.env = [(false, eval e X.env)] := by rfl) :
    DIb true X W (.Tuple elts kk tpos) (.Call (.Name "enumerate" p) [e] [] pos) (enumI f) :=
  PIweak (pi_enumA hg hm (pa_cons ha pa_nil hs) hs) fun σ H R ⟨w, e, M, r, re, p⟩ =>
    ⟨w, e, M, r, re, p.bind fun x M1 w1 v H1 l1 r1 rv p1 => by
      split at p1
      · rename_i xs hx
        obtain ⟨a, vs, rfl, hs | hs, d⟩ := walk_at rv hx
        · exact ⟨a, rfl, .inl ⟨⟨vs, SqL.up r1.sub hs⟩, p1.at r1 (isIt_num d walk_enum fun H q => SqL.up q hs)⟩⟩
        · exact ⟨a, rfl, .inr ⟨⟨vs, SqT.up r1.sub hs⟩, p1.at r1 (isIt_num d walk_enumT fun H q => SqT.up q hs)⟩⟩
      · exact p1.elim⟩
def zipD (xs ys : List PyData) : List PyData := (xs.zip ys).map fun p => .tuple [p.1, p.2]
theorem zipD_len (xs ys : List PyData) : (zipD xs ys).length = min xs.length ys.length := by unfold zipD; simp
def zipOf (x y : Vl) : Option (List PyData × List PyData) := match walkOf x, walkOf y with
  | some xs, some ys => some (xs, ys)
  | _, _ => none
def zipI (f g : Ev) : Ei := fun e M => (f e M).bind fun x M1 => (g e M1).bind fun y M2 => match zipOf x y with
  | some p => .ok (zipD p.1 p.2) M2
  | none => .st
end
end DL
namespace DL
open PySem PySem.Spec L2
theorem wipe_get (σ : L2.St) : ∀ (vs : List Nat) (j : Nat), (wipe σ vs)[j]? = if j ∈ vs then (σ[j]?).map (fun _ => none) else σ[j]?
  | [], j => by simp [wipe]
  | v :: vs, j => by
    unfold wipe
    by_cases hj : v = j
    · subst hj
      rw [if_pos List.mem_cons_self]
      by_cases hl : v < σ.length
      · rw [List.getElem?_set_self (by rw [wipe_length]; exact hl), List.getElem?_eq_getElem hl]
        rfl
      · rw [List.getElem?_eq_none (by rw [List.length_set, wipe_length]; omega), List.getElem?_eq_none (by omega)]
        rfl
    · rw [List.getElem?_set_ne hj, wipe_get σ vs j]
      by_cases hm : j ∈ vs
      · rw [if_pos hm, if_pos (List.mem_cons_of_mem _ hm)]
      · rw [if_neg hm, if_neg]
        intro z
        rcases List.mem_cons.mp z with z | z
        · exact hj z.symm
        · exact hm z
theorem wipe_set {σ : L2.St} {vs : List Nat} {i : Nat} {o : Option V} (hi : i ∈ vs) : wipe (σ.set i o) vs = wipe σ vs := by
  apply List.ext_getElem?
  intro j
  rw [wipe_get, wipe_get]
  by_cases hj : i = j
  · subst hj
    rw [if_pos hi, if_pos hi]
    by_cases hl : i < σ.length
    · rw [List.getElem?_set_self hl, List.getElem?_eq_getElem hl]
      rfl
    · rw [List.getElem?_eq_none (by rw [List.length_set]; omega), List.getElem?_eq_none (by omega)]
  · rw [List.getElem?_set_ne hj]
theorem wipe_wipe (σ : L2.St) (vs : List Nat) : wipe (wipe σ vs) vs = wipe σ vs := by
  apply List.ext_getElem?
  intro j
  rw [wipe_get, wipe_get]
  by_cases hj : j ∈ vs
  · rw [if_pos hj, if_pos hj, Option.map_map]
    rfl
  · rw [if_neg hj, if_neg hj]
/-- a target that stores to these slots alone -/
def tTv (K : Frag) (b : Bool) (vs : List Nat) (γ : Tg) : TG := fun v σ H Q => ∃ (w : Wd) (e : Env) (M : Mem) (x : Vl), Rel K w M H ∧ RE K w e σ ∧ RQ b K w x v ∧ Post K (fun _ _ _ => False) (RE K) w (γ x e M) fun σ' H' => wipe σ' vs = wipe σ vs → Q σ' H'
def GVb (b : Bool) (X : Cx) (vs : List Nat) (tg : Expr) (γ : Tg) : Prop := PG X tg (tTv X.K b vs γ)
abbrev GV (X : Cx) (vs : List Nat) (tg : Expr) (γ : Tg) : Prop := GVb false X vs tg γ
section
variable {X : Cx} {W : WX} {pos : Pos} {vs : List Nat}
theorem gv_name {i : Nat} {x : Str} (hv : i ∈ vs) (hN : X.N.Nodup) (hi : X.N[i]? = some x) (hx : Loc X.env.scope x) (hf : X.fn x = true ∨ X.env.scope.names.lookup x = some .local := by first | exact .inl rfl | exact .inr rfl | assumption) : GV X vs (.Name x pos) (setT i) :=
  PGweak (pg_name hN hi hx hf) fun v σ H Q ⟨w, e, M, x, r, re, rv, p⟩ => p.at r (re.set rv.v i) (wipe_set hv)
/-- a comprehension's tests -/
def DTs (X : Cx) (ifs : List Expr) (f : Env → Mem → Res Bool) : Prop := PTs X ifs (tT X.K W0 f)
theorem dts_nil : DTs X [] (fun _ M => .ok true M) := ⟨fun pins s σ H Q I ⟨w, e, M, r, re, p⟩ => pts_nil.run pins s σ H Q I (p.at r rfl)⟩
theorem dts_one {c : Expr} {f : Env → Mem → Res Bool} (h : DT X W0 c f) : DTs X [c] f := pts_one h
def lcL (γ : Tg) (t : Env → Mem → Res Bool) (h : Ev) (ew : Env) : List PyData → List PyData → Mem → Res (List PyData)
  | [], acc, M => .ok acc M
  | x :: xs, acc, M => match γ (.d x) ew M with
    | .ok e1 M1 => match t e1 M1 with
      | .ok true M2 => match h e1 M2 with
        | .ok (.d y) M3 => if acc.length < sizeLine then lcL γ t h ew xs (acc ++ [y]) M3 else .st
        | _ => .st
      | .ok false M2 => lcL γ t h ew xs acc M2
      | _ => .st
    | _ => .st
def lcE (vs : List Nat) (f : Ei) (γ : Tg) (t : Env → Mem → Res Bool) (h : Ev) : Env → Mem → Res (List PyData) := fun e M => (f e M).bind fun xs M1 => lcL γ t h (ewipe e vs) xs [] M1
/-- the heap without p -/
def off (H : Hp) (p : Addr) : Hp := fun b => if b = p then none else H b
theorem off_ne {H : Hp} {p b : Addr} (h : b ≠ p) : off H p b = H b := if_neg h
theorem upd_off {H : Hp} {p : Addr} {o : HO} (h : H p = some o) : upd (off H p) p o = H := by
  funext b
  by_cases hb : b = p
  · subst hb; rw [upd_same, h]
  · rw [upd_ne hb, off_ne hb]
theorem Rel.drop {K : Frag} {w : Wd} {M : Mem} {H : Hp} (r : Rel K w M H) {p : Addr} (hF : w.F p = none) (hA : p ∉ w.as) {P : Hp} (hP : ∀ a o, P a = some o → w.P a = some o) (h0 : P p = none) : Rel K ⟨w.as, w.F, P⟩ M (off H p) := by
  refine ⟨fun a u e => ?_, r.len, r.nd, fun a u e => ?_, fun i a m e1 e2 => ?_⟩
  · rw [off_ne (ne_of_none e hF)]; exact r.sub a u e
  · rw [off_ne (ne_of_none e h0)]; exact r.pin a u (hP a u e)
  · have ha : a ≠ p := fun z => hA (z ▸ List.mem_of_getElem? e1)
    rw [off_ne ha]
    have q := r.ob i a m e1 e2
    cases m with
    | gone => exact q
    | lst xs => exact q
    | nest xs => obtain ⟨q1, j, vs, q2, q3, q4, q5⟩ := q; exact ⟨q1, j, vs, q2, q3, q4.reP, q5⟩
    | dct kvs => exact q
theorem RE.upP {K : Frag} {w w' : Wd} {e : Env} {σ : L2.St} (h : RE K w e σ) (h1 : w.as <+: w'.as) (h2 : ∀ a o, w.F a = some o → w'.F a = some o) : RE K w' e σ :=
  ⟨h.len, fun i x q => let ⟨v, a, b⟩ := h.get i x q; ⟨v, a, (RV.up (w' := ⟨w'.as, w'.F, w.P⟩) ⟨h1, h2, rfl⟩ b).reP⟩⟩
theorem lc_imp {b : Bool} {own : List (Str × Nat)} {f : Ei} {γ : Tg} {t : Env → Mem → Res Bool} {h : Ev} {K : Frag} (σ : L2.St) (H : Hp) (Q : VK)
    (hq : tG K W (fun w xs vs => DpAll K w.F vs xs) (lcE (own.map (·.2)) f γ t h) σ H fun vs H1 => ∀ p, H1 p = none → Q (.ref p) (upd H1 p (.lst vs))) :
    tLc (fun σ H R => tG K W (IsItb b K) f σ H R) (tTv K b (List.map (fun x : Str × Nat => x.2) own) γ) (tT K W0 t) (tE K W0 h) (own.map (·.2)) σ H Q := by
  obtain ⟨w, e, M, r, re, p⟩ := hq
  exact ⟨w, e, M, r, re, p.bind fun xs M1 w1 J H1 l1 r1 hit p1 D hD => by
    obtain ⟨hDa, hDF⟩ := r1.new hD
    have hw1P : w1.P D = none := by
      cases q : w1.P D with
      | none => rfl
      | some o => rw [(r1.pin _ _ q).1] at hD; cases hD
    refine lc_it (g := tTv K b (own.map (·.2)) γ) (tt := tT K W0 t) (te := tE K W0 h) (vs := own.map (·.2)) (σ := σ) hit (fun i H => ∃ (w2 : Wd) (M2 : Mem) (acc : List PyData) (us : List V), w1.as <+: w2.as ∧ (∀ a o, w1.F a = some o → w2.F a = some o) ∧ w2.P = upd w1.P D (.lst us) ∧ Rel K w2 M2 H ∧ DpAll K w2.F us acc ∧
      Post K (WE W σ) (fun w xs vs => DpAll K w.F vs xs) w1 (lcL γ t h (ewipe e (own.map (·.2))) (xs.drop i) acc M2) fun us H1 => ∀ p, H1 p = none → Q (.ref p) (upd H1 p (.lst us))) ?_ (fun i H _ ⟨w2, M2, acc, us, q1, q2, _, r2, _⟩ a o q => r2.sub _ _ (q2 _ _ q)) ?_ ?_
    · exact ⟨⟨w1.as, w1.F, upd w1.P D (.lst [])⟩, M1, [], [], List.prefix_refl _, fun _ _ q => q, rfl, r1.aside hDF hDa, .nil, p1⟩
    · rintro i x H H' hi ⟨w2, M2, acc, us, q1, q2, q3, r2, d2, p2⟩ ⟨d, hd, hx⟩
      have e1 : xs.drop i = d :: xs.drop (i + 1) := by
        rw [List.drop_eq_getElem_cons hi]
        rw [List.getElem?_eq_getElem hi] at hd
        rw [Option.some.inj hd]
      rw [e1] at p2
      unfold lcL at p2
      have go : ∀ w3, w2.le w3 → Rel K w3 M2 H' → DpQ b K w3.F x d → tTv K b (own.map (·.2)) γ x (wipe σ (own.map (·.2))) H' fun σ2 H2 => wipe σ2 (own.map (·.2)) = wipe σ (own.map (·.2)) ∧ tT K W0 t σ2 H2 fun b H3 =>
          if b = true then tE K W0 h σ2 H3 fun y H4 => ∃ acc, H4 D = some (.lst acc) ∧ acc.length < sizeLine ∧ ∃ (w2 : Wd) (M2 : Mem) (acc' : List PyData) (us : List V), w1.as <+: w2.as ∧ (∀ a o, w1.F a = some o → w2.F a = some o) ∧ w2.P = upd w1.P D (.lst us) ∧ Rel K w2 M2 (upd H4 D (.lst (acc ++ [y]))) ∧ DpAll K w2.F us acc' ∧
            Post K (WE W σ) (fun w xs vs => DpAll K w.F vs xs) w1 (lcL γ t h (ewipe e (own.map (·.2))) (xs.drop (i + 1)) acc' M2) fun us H1 => ∀ p, H1 p = none → Q (.ref p) (upd H1 p (.lst us))
          else ∃ (w2 : Wd) (M2 : Mem) (acc' : List PyData) (us : List V), w1.as <+: w2.as ∧ (∀ a o, w1.F a = some o → w2.F a = some o) ∧ w2.P = upd w1.P D (.lst us) ∧ Rel K w2 M2 H3 ∧ DpAll K w2.F us acc' ∧
            Post K (WE W σ) (fun w xs vs => DpAll K w.F vs xs) w1 (lcL γ t h (ewipe e (own.map (·.2))) (xs.drop (i + 1)) acc' M2) fun us H1 => ∀ p, H1 p = none → Q (.ref p) (upd H1 p (.lst us)) := fun w3 l3 r3 dx => by
        refine ⟨w3, ewipe e (own.map (·.2)), M2, .d d, r3, ((re.up l1).wiped _).upP (q1.trans l3.1) (fun a o q => l3.2 _ _ (q2 _ _ q)), .inr ⟨d, rfl, dx⟩, ?_⟩
        cases hγ : γ (.d d) (ewipe e (own.map (·.2))) M2 with
        | st => rw [hγ] at p2; exact p2.elim
        | er C fs M3 => rw [hγ] at p2; exact p2.elim
        | ok e3 M3 =>
          rw [hγ] at p2
          dsimp only at p2
          intro w4 σ4 H4 l4 r4 re4 hw4
          rw [wipe_wipe] at hw4
          refine ⟨hw4, w4, e3, M3, r4, re4, ?_⟩
          cases ht3 : t e3 M3 with
          | st => rw [ht3] at p2; exact p2.elim
          | er C fs M4 => rw [ht3] at p2; exact p2.elim
          | ok b M4 =>
            rw [ht3] at p2
            intro w5 b' H5 l5 r5 eb
            have eb : b = b' := eb
            subst eb
            cases b with
            | false =>
              dsimp only at p2
              rw [if_neg Bool.false_ne_true]
              have ll := (l3.trans l4).trans l5
              exact ⟨w5, M4, acc, us, q1.trans ll.1, fun a o q => ll.2 _ _ (q2 _ _ q), ll.3.trans q3, r5, d2.up ll.2, p2⟩
            | true =>
              dsimp only at p2
              rw [if_pos rfl]
              refine ⟨w5, e3, M4, r5, re4.up l5, ?_⟩
              cases hh : h e3 M4 with
              | st => rw [hh] at p2; exact p2.elim
              | er C fs M5 => rw [hh] at p2; exact p2.elim
              | ok y M5 =>
                rw [hh] at p2
                intro w6 v H6 l6 r6 rv
                cases y with
                | d y =>
                  dsimp only at p2
                  split at p2
                  · rename_i hz
                    have ll := ((l3.trans l4).trans l5).trans l6
                    have eP : w6.P = upd w1.P D (.lst us) := ll.3.trans q3
                    obtain ⟨g1, g2, g3⟩ := r6.pin D (.lst us) (by rw [eP, upd_same])
                    have d6 := d2.up ll.2
                    refine ⟨us, g1, by rw [d6.len]; exact hz, ⟨w6.as, w6.F, upd w6.P D (.lst (us ++ [v]))⟩, M5, acc ++ [y], us ++ [v], q1.trans ll.1, fun a o q => ll.2 _ _ (q2 _ _ q), ?_, r6.aside g2 g3, d6.app (.cons rv .nil), p2⟩
                    show upd w6.P D _ = _
                    rw [eP, upd_upd]
                  · exact p2.elim
                | h _ => exact p2.elim
                | a _ => exact p2.elim
                | t _ => exact p2.elim
                | x _ _ => exact p2.elim
                | c _ => exact p2.elim
                | s _ => exact p2.elim
      rcases hx with ⟨rfl, dx⟩ | ⟨T, o, hT, rfl, dx⟩
      · exact go w2 (Wd.le_refl _) r2 (DpQ.up q2 dx)
      · have hF := (r2.new hT).2
        refine go (w2.fz T o) (Wd.le_fz hF) (r2.alloc hT o) (DpQ.up (fun a u q => ?_) dx)
        show upd w2.F T o a = some u
        by_cases ha : a = T
        · subst ha; rw [upd_same] at q ⊢; exact q
        · rw [upd_ne ha] at q ⊢; exact q2 _ _ q
    · rintro H ⟨w2, M2, acc, us, q1, q2, q3, r2, d2, p2⟩
      rw [List.drop_length] at p2
      obtain ⟨g1, g2, g3⟩ := r2.pin D (.lst us) (by rw [q3, upd_same])
      have p2 : Post K (WE W σ) (fun w xs vs => DpAll K w.F vs xs) w1 (.ok acc M2) (fun us H1 => ∀ p, H1 p = none → Q (.ref p) (upd H1 p (.lst us))) := p2
      have r3 := r2.drop g2 g3 (P := w1.P) (fun a o q => by rw [q3, upd_ne (ne_of_none q hw1P)]; exact q) hw1P
      have k := p2 ⟨w2.as, w2.F, w1.P⟩ us _ ⟨q1, q2, rfl⟩ r3 d2 D (if_pos rfl)
      rw [upd_off g1] at k
      exact k⟩
theorem df_lc {b : Bool} {elt tg iter : Expr} {ifs : List Expr} {scope : Scope} {own : List (Str × Nat)} {f : Ei} {γ : Tg} {t : Env → Mem → Res Bool} {h : Ev} (hc : X.calm = true) (hN : X.N.Nodup) (hi : DIb b X W tg iter f) (ok : BlkOk X.N X.env.scope scope own)
    (hg : ∀ (s : Shared) (H : Hp) (C : Addr) (cl : List (Str × Addr)) (fp : List Addr), GVb b (X.blk s H scope (compEnvC scope cl C X.env) fp) (own.map (·.2)) tg γ) (ht : ∀ (s : Shared) (H : Hp) (C : Addr) (cl : List (Str × Addr)) (fp : List Addr), DTs (X.blk s H scope (compEnvC scope cl C X.env) fp) ifs t)
    (he : ∀ (s : Shared) (H : Hp) (C : Addr) (cl : List (Str × Addr)) (fp : List Addr), DE (X.blk s H scope (compEnvC scope cl C X.env) fp) W0 elt h) (hs : ∀ x, foldedSetIterable iter X.env x = pure x := by intro _; rfl) :
    DF X W (.ListComp elt [⟨tg, iter, ifs, 0⟩] scope pos) (lcE (own.map (·.2)) f γ t h) :=
  PEweak (pe_lc (own := own) (g := tTv X.K b (List.map (fun x : Str × Nat => x.2) own) γ) (tt := tT X.K W0 t) (te := tE X.K W0 h) hc hN hi ok hg ht he hs) fun σ H Q hq => lc_imp σ H Q hq
/-- name = [..] on one row, kept as data, kept under a handle -/
theorem ds_setLc {b : Bool} {i : Nat} {y : Str} {py spos : Pos} {elt tg iter : Expr} {ifs : List Expr} {scope : Scope} {own : List (Str × Nat)} {f : Ei} {γ : Tg} {t : Env → Mem → Res Bool} {h : Ev} (hc : X.calm = true) (hN : X.N.Nodup) (hy : X.N[i]? = some y) (hyl : X.env.scope.names.lookup y = some .local)
    (hsw : swapsWith (.ListComp elt [⟨tg, iter, ifs, 0⟩] scope pos) (some (.Name y py)) spos.line X.env = pure true) (hi : DIb b X W tg iter f) (ok : BlkOk X.N X.env.scope scope own)
    (hg : ∀ (s : Shared) (H : Hp) (C : Addr) (cl : List (Str × Addr)) (fp : List Addr), GVb b (X.blk s H scope (compEnvC scope cl C X.env) fp) (own.map (·.2)) tg γ) (ht : ∀ (s : Shared) (H : Hp) (C : Addr) (cl : List (Str × Addr)) (fp : List Addr), DTs (X.blk s H scope (compEnvC scope cl C X.env) fp) ifs t)
    (he : ∀ (s : Shared) (H : Hp) (C : Addr) (cl : List (Str × Addr)) (fp : List Addr), DE (X.blk s H scope (compEnvC scope cl C X.env) fp) W0 elt h) (hs : ∀ x, foldedSetIterable iter X.env x = pure x := by intro _; rfl) :
    DS X W (.Assign [.Name y py] (.ListComp elt [⟨tg, iter, ifs, 0⟩] scope pos) spos) (setS i (datE (lcE (own.map (·.2)) f γ t h))) :=
  PSweak (ps_setLc (own := own) (g := tTv X.K b (List.map (fun x : Str × Nat => x.2) own) γ) (tt := tT X.K W0 t) (te := tE X.K W0 h) hc hN hy hyl hsw hi ok hg ht he hs) fun D σ H ⟨w, e, M, r, re, p⟩ => by
    refine lc_imp (W := W) σ H _ ⟨w, e, M, r, re, ?_⟩
    have p : PostS X.K W w (lift (lcE (own.map (·.2)) f γ t h) (fun xs e M => .go .nx (e.set i (some (.d (.list xs)))) M) e M) D := by
      unfold setS lift datE at p
      unfold lift
      cases q : lcE (own.map (·.2)) f γ t h e M with
      | ok xs M1 => rw [q] at p; exact p
      | er C fs M1 => rw [q] at p; exact p
      | st => rw [q] at p; exact p
    exact p.of re fun xs M1 w1 vs H1 l1 r1 d1 p1 q hq =>
      PostS.nx (PostS.up (Wd.le_fz (r1.new hq).2) p1) (r1.alloc hq _) (((re.up l1).up (Wd.le_fz (r1.new hq).2)).set (x := .d (.list xs)) (Dp.lst upd_same (DpAll.up (Wd.le_fz (w := w1) (o := .lst vs) (r1.new hq).2).2 _ _ d1)) i)
end
end DL
namespace DL
open PySem PySem.Spec L2
abbrev Fn := List Vl → Mem → Res Vl
/-- the promise of a def whose worth is m, for n arguments -/
def spD (K : Frag) (n : Nat) (m : Fn) : Sp := fun vs H Q E => vs.length = n ∧ ∃ (w : Wd) (M : Mem) (ds : List Vl), Rel K w M H ∧ RVs K w ds vs ∧ Post K E (RV K) w (m ds M) Q
/-- nothing is being shown around -/
abbrev GA (A : Around) : Prop := A.guards = some []
/-- L2's promise of a def, for calls from where nothing is being shown -/
structure FnG (P : Program) (w : World) (K : Frag) (mg : Str → Option Value) (base : Heap) (k : Nat) (f : Addr) (fd : FuncData) (ps : List Str) (sp : Sp) : Prop where
  len : ∀ vs H Q E, sp vs H Q E → vs.length = ps.length
  run : ∀ (A : Around) (outer : List PySem.Env) (s : Shared) (H : Hp) (args : Args) (us : List Value) (vs : List V) (Q : VK) (E : XK), Room k A → GA A → Env0 P w K mg base A outer s H → BindsTo s fd args (ps.zip us) → Vals vs us → sp vs H Q E →
    codeAny (model P w) A (.call (.ref f) args) (CR (L2.CX P w) outer P w H s Q E) s
theorem FnG.mono {P : Program} {w : World} {K : Frag} {mg : Str → Option Value} {base : Heap} {j k : Nat} {f : Addr} {fd : FuncData} {ps : List Str} {sp : Sp} (F : FnG P w K mg base j f fd ps sp) (h : j ≤ k) : FnG P w K mg base k f fd ps sp :=
  ⟨F.len, fun A outer s H args us vs Q E hr => F.run A outer s H args us vs Q E (hr.mono h)⟩
theorem FnG.imp {P : Program} {w : World} {K : Frag} {mg : Str → Option Value} {base : Heap} {k : Nat} {f : Addr} {fd : FuncData} {ps : List Str} {sp sp' : Sp} (F : FnG P w K mg base k f fd ps sp) (h : ∀ vs H Q E, sp' vs H Q E → sp vs H Q E) : FnG P w K mg base k f fd ps sp' :=
  ⟨fun vs H Q E q => F.len vs H Q E (h _ _ _ _ q), fun A outer s H args us vs Q E hr hg he hb hv hs => F.run A outer s H args us vs Q E hr hg he hb hv (h _ _ _ _ hs)⟩
abbrev FnD (P : Program) (w : World) (K : Frag) (mg : Str → Option Value) (base : Heap) (k : Nat) (f : Addr) (fd : FuncData) (ps : List Str) (m : Fn) : Prop := FnG P w K mg base k f fd ps (spD K ps.length m)
/-- a def that may be called by its name -/
structure Cald (P : Program) (w : World) (K : Frag) (mg : Str → Option Value) (base : Heap) (k : Nat) (x : Str) (n : Nat) (m : Fn) : Prop where
  ex : ∃ (f : Addr) (fd : FuncData) (ps : List Str), ps.length = n ∧ FnD P w K mg base k f fd ps m ∧ mg x = some (.ref f) ∧ PySem.W.keepIn K (.ref f) = true ∧ Binds K fd ps []
theorem Cald.mono {P : Program} {w : World} {K : Frag} {mg : Str → Option Value} {base : Heap} {j k : Nat} {x : Str} {n : Nat} {m : Fn} (c : Cald P w K mg base j x n m) (h : j ≤ k) : Cald P w K mg base k x n m := by
  obtain ⟨f, fd, ps, e, F, a, b, d⟩ := c.ex
  exact ⟨f, fd, ps, e, F.mono h, a, b, d⟩
/-- a function told otherwise: where the new one promises, it is the old one -/
def Le (m' m : Fn) : Prop := ∀ ds M, m' ds M = .st ∨ m' ds M = m ds M
theorem Cald.imp {P : Program} {w : World} {K : Frag} {mg : Str → Option Value} {base : Heap} {k : Nat} {x : Str} {n : Nat} {m m' : Fn} (c : Cald P w K mg base k x n m) (h : Le m' m) : Cald P w K mg base k x n m' := by
  obtain ⟨f, fd, ps, e, F, a, b, d⟩ := c.ex
  refine ⟨f, fd, ps, e, F.imp fun vs H Q E ⟨hl, w2, M, ds, r, rv, p⟩ => ⟨hl, w2, M, ds, r, rv, ?_⟩, a, b, d⟩
  rcases h ds M with q | q
  · rw [q] at p; exact p.elim
  · rw [← q]; exact p
def callF (n : Nat) (m : Fn) (f : Evs) : Ev := fun e M => (f e M).bind fun xs M1 => if xs.length = n then m xs M1 else .st
section
variable {X : Cx} {W : WX} {e : Expr} {es : List Expr} {p pos : Pos} {x : Str} {f : Evs} {k j n : Nat} {m : Fn}
theorem run_fnG {E : XK} {f' : Addr} {fd : FuncData} {ps : List Str} {sp : Sp} {ds : List Value} {dvs : List V} {pins : List (Addr × Obj)} {σ : L2.St} {H : Hp} {s : Shared} {Q : VK} {us : List Value} {vs : List V} (F : FnG X.prog X.w X.K X.mg X.base k f' fd ps sp) (hr : Room k X.A) (ga : GA X.A) (hb : Binds X.K fd ps []) (hx : PassesAt (L2.CX X.prog X.w) X σ E)
    (I : Inv X pins σ H s) (r : Vals vs us) (h : sp vs H Q E) : wpAny (model X.prog X.w) X.A (call (.ref f') us) (EP X pins σ Q) X.xe s := by
  have hl : (us ++ []).length = ps.length := by rw [List.append_nil, ← r.length]; exact F.len _ _ _ _ h
  have b := hb s us I.kIn hl
  rw [List.append_nil] at b
  refine wpAny_call (codeAny_mono (F.run X.A X.stack s H ⟨us, []⟩ us vs Q E hr ga I.env0 b r h) fun r s' hq => ?_)
  cases r with
  | error e => exact hx pins H s e s' I hq
  | ok fl =>
    cases fl with
    | ret u => exact I.after hq
    | next => exact False.elim hq
    | brk => exact False.elim hq
    | cont => exact False.elim hq
theorem de_call (c : Cald X.prog X.w X.K X.mg X.base k x n m) (hr : Room j X.A) (ga : GA X.A) (hk : k ≤ j) (tk : Takes X W) (hg : Gl X x) (ha : DA X W (e :: es) f)
    (hdb : (x == ("__debug__" : Str)) = false := by decide) (he : starEach (e :: es) X.env = (false, eval e X.env) :: starEach es X.env := by rfl) (hpl : (backTo pos (starEach es X.env)).any (·.1) = false := by rfl) :
    DE X W (.Call (.Name x p) (e :: es) [] pos) (callF n m f) := by
  obtain ⟨f', fd, ps, en, F, hm, kp, b⟩ := c.ex
  constructor
  intro pins s σ H Q I ⟨w, ev, M, r, re, q⟩
  refine wpAny_Call_Name_kw (ld_glob I hg hm ?_ hdb)
  refine PySem.W.callWith_K (h₀ := X.base) I.ok.mod.kin kp (thn (ha.run pos pins s σ H (fun vs H1 => spD X.K ps.length m vs H1 Q (WE W σ)) I ⟨w, ev, M, r, re, q.bind fun xs M1 w1 vs H1 l1 r1 rvs p1 => ?_⟩) fun us s1 ⟨vs, H1, I1, rr, q1⟩ => ⟨I1.kIn, ?_⟩) he hpl
  · split at p1
    · rename_i hl
      exact ⟨by rw [← rvs.len, hl, en], w1, M1, xs, r1, rvs, p1⟩
    · exact p1.elim
  · exact run_fnG (ds := []) (dvs := []) F (hr.mono hk) ga b (passAt tk σ) I1 rr q1
end
/-- the end of a def's body: the younger handles are forgotten, but for so many -/
def leave (n : Nat) : RS → Res Vl
  | .go (.rt (.h i)) _ M => if i < n then .ok (.h i) (M.take n) else .st
  | .go (.rt x) _ M => .ok x (M.take n)
  | .go .nx _ M => .ok (.d .none) (M.take n)
  | .er C fs _ M => .er C fs (M.take n)
  | _ => .st
def startE (N : Nat) (ds : List Vl) : Env := ds.map some ++ List.replicate (N - ds.length) none
/-- a def by its body: N names, keep handles that are handed out -/
def defM (N keep : Nat) (g : Sv) : Fn := fun ds M => leave (M.length + keep) (g (startE N ds) M)
theorem RE.start {K : Frag} {w : Wd} {ds : List Vl} {vs : List V} (h : RVs K w ds vs) (N : List Str) : RE K w (startE N.length ds) (L2.start N vs) := by
  refine ⟨by unfold startE L2.start; simp [h.len], fun i x q => ?_⟩
  unfold startE at q
  unfold L2.start
  have hi : i < ds.length := by
    by_cases hi : i < ds.length
    · exact hi
    · rw [List.getElem?_append_right (by simpa using hi), List.getElem?_replicate] at q
      split at q <;> cases q
  rw [List.getElem?_append_left (by simpa using hi), List.getElem?_map] at q
  cases hx : ds[i]? with
  | none => rw [hx] at q; cases q
  | some y =>
    rw [hx] at q
    cases q
    obtain ⟨v, h1, h2⟩ := h.get hx
    exact ⟨v, by rw [List.getElem?_append_left (by rw [List.length_map, ← h.len]; exact hi), List.getElem?_map, h1]; rfl, h2⟩
theorem cut_le {w w' : Wd} {n : Nat} (l : w.le w') (h : w.as.length ≤ n) : w.le ⟨w'.as.take n, w'.F, w'.P⟩ := by
  refine ⟨?_, l.2, l.3⟩
  obtain ⟨t, e⟩ := l.1
  rw [← e, List.take_append]
  rw [List.take_of_length_le h]
  exact List.prefix_append _ _
theorem leave_ok {K : Frag} {E : XK} {w : Wd} {M : Mem} {H : Hp} {r : RS} {Q : VK} {n : Nat} (hM : Rel K w M H) (hn : M.length ≤ n) (p : Post K E (RV K) w (leave n r) Q) : PostS K (fun c d _ H => E c d H) w r { nx := fun _ H' => Q .non H', rt := Q } := by
  have hl : w.as.length ≤ n := by rw [hM.len]; exact hn
  cases r with
  | st => exact p
  | er C fs e M' => exact fun w' σ d H' l r re xd => p ⟨w'.as.take n, w'.F, w'.P⟩ d H' (cut_le l hl) (r.cut n) (xd.cut n)
  | go f e M' =>
    cases f with
    | nx => exact fun w' σ H' l r re => p ⟨w'.as.take n, w'.F, w'.P⟩ .non H' (cut_le l hl) (r.cut n) .non
    | bk => exact p.elim
    | ct => exact p.elim
    | rt x =>
      intro w' v H' l r rv
      cases x with
      | h i =>
        unfold leave at p
        by_cases hi : i < n
        · have p : Post K E (RV K) w (if i < n then .ok (.h i) (M'.take n) else .st) Q := p
          rw [if_pos hi] at p
          refine p ⟨w'.as.take n, w'.F, w'.P⟩ v H' (cut_le l hl) (r.cut n) ?_
          obtain ⟨a, e1, e2⟩ := rv
          exact ⟨a, by show (w'.as.take n)[i]? = some a; rw [List.getElem?_take_of_lt hi]; exact e1, e2⟩
        · have p : Post K E (RV K) w (if i < n then .ok (.h i) (M'.take n) else .st) Q := p
          rw [if_neg hi] at p
          exact p.elim
      | d y => exact p ⟨w'.as.take n, w'.F, w'.P⟩ v H' (cut_le l hl) (r.cut n) rv
      | a y => exact p ⟨w'.as.take n, w'.F, w'.P⟩ v H' (cut_le l hl) (r.cut n) rv
      | t y => exact p ⟨w'.as.take n, w'.F, w'.P⟩ v H' (cut_le l hl) (r.cut n) rv
      | x y z => exact p ⟨w'.as.take n, w'.F, w'.P⟩ v H' (cut_le l hl) (r.cut n) rv
      | c y => exact p ⟨w'.as.take n, w'.F, w'.P⟩ v H' (cut_le l hl) (r.cut n) rv
      | s y => exact p ⟨w'.as.take n, w'.F, w'.P⟩ v H' (cut_le l hl) (r.cut n) rv
section
variable {P : Program} {w : World} {K : Frag} {mg : Str → Option Value} {base : Heap}
/-- the context of a def's body -/
abbrev bodyX (P : Program) (w : World) (K : Frag) (mg : Str → Option Value) (base : Heap) (N : List Str) (qual : Str) (sc : Scope) (f : Addr) (cdv : Value) (A : Around) (outer : List PySem.Env) (s : Shared) (H : Hp) (E : XK) : Cx := cxOf (L2.CX P w) P w K mg base N qual sc f cdv A outer s H E
theorem body_takes {N : List Str} {qual : Str} {sc : Scope} {f : Addr} {cdv : Value} {A : Around} {outer : List PySem.Env} {s : Shared} {H : Hp} {E : XK} : Takes (bodyX P w K mg base N qual sc f cdv A outer s H E) (fun c d _ H => E c d H) := takes_of rfl rfl rfl rfl
open PyProof.Rows in
theorem fnG_of {f : Addr} {name qual : Str} {params : Arguments} {body : List Stmt} {scope : Scope} {dV kV doc pm cdv ct oc : Value} {an od : Option Addr} {osl : Array (Option Value)} {N ps : List Str} {k : Nat} {sp : Sp}
    (lk : K.lookup f = some ⟨oc, od, .func (PySem.W.fnOf name qual params body scope dV kV doc pm an cdv ct), osl⟩) (hcd : PySem.W.codeIn K cdv qual = true) (S : FnScope N ps scope) (len : ∀ vs H Q E, sp vs H Q E → vs.length = ps.length)
    (hbody : ∀ (A : Around) (outer : List PySem.Env) (s : Shared) (H : Hp) (vs : List V) (Q : VK) (E : XK), Room k (A.deeper (PyProof.Rows.envOfC qual scope s.heap.objs.size f cdv)) → GA (A.deeper (PyProof.Rows.envOfC qual scope s.heap.objs.size f cdv)) → sp vs H Q E →
      ∃ t, PSs (bodyX P w K mg base N qual scope f cdv A outer s H E) body t ∧ t { nx := fun _ H' => Q .non H', rt := Q } (L2.start N vs) H) :
    FnG P w K mg base (k + 1) f (PySem.W.fnOf name qual params body scope dV kV doc pm an cdv ct) ps sp := by
  refine ⟨len, fun A outer s H args us vs Q E hr hga e0 hb r hsp => ?_⟩
  have hl := len _ _ _ _ hsp
  have KX : K.In s.heap := e0.mod.kin.keeps fun b o e => (e0.bs b o e).1
  have lim : s.heap.NoLimit := e0.mod.nolimit.keeps fun b o e => (e0.bs b o e).1
  have hkind : ∀ y ∈ ps.zip us, scope.names.lookup y.1 = some .local ∨ (scope.names.lookup y.1 = some .cell ∧ ((cellsFrom (s.heap.objs.size + 1) scope.names []).lookup y.1).isSome = true) := fun y hy => by
    rcases S.par y.1 (List.of_mem_zip (show (y.1, y.2) ∈ ps.zip us from hy)).1 with q | q
    · exact .inl q
    · exact .inr ⟨q, PySem.W.cellsFrom_some _ _ _ (.inl q)⟩
  refine codeAny_call_function hr.depth (KX _ _ lk) rfl S.co S.gen rfl (PySem.W.codeRec_of KX hcd) (hb _ _ _ _ ?_)
  refine wpAny_newFunctionEnv_cells S.kind hkind fun env he s1 x => ?_
  subst he
  refine ⟨lim.keeps x.toInCall.keep, codeAny_func ?_⟩
  obtain ⟨t, ht, hq⟩ := hbody A outer s H vs Q E (hr.deeper _) hga hsp
  have I : Inv (bodyX P w K mg base N qual scope f cdv A outer s H E) [] (L2.start N vs) H s1 := inv_start S hr.hd e0 hl r x
  refine wpAny_mono (ht.run [] s1 (L2.start N vs) H _ I hq) (fun fl s' hs => ?_) fun e s' hs => hs
  cases fl with
  | ret u =>
    obtain ⟨v, σ', H', J, rv, q⟩ := hs
    exact ⟨v, H', J.os, J.bare, J.base, J.hok, rv, q⟩
  | next =>
    obtain ⟨σ', H', J, q⟩ := hs
    exact ⟨V.non, H', J.os, J.bare, J.base, J.hok, rfl, q⟩
  | brk =>
    obtain ⟨_, _, _, q⟩ := hs
    exact q.elim
  | cont =>
    obtain ⟨_, _, _, q⟩ := hs
    exact q.elim
/-- no error comes to a comprehension's turn -/
theorem takesW0 {X : Cx} : Takes X W0 := takes0
end
end DL
namespace DL
open PySem PySem.Spec L2
/-- items by their places -/
def permL {α : Type} (q : List Nat) (l : List α) : List α := q.filterMap fun i => l[i]?
/-- so many positional values and these keywords bind to the parameters, by q -/
structure KwB (K : Frag) (fd : FuncData) (ps ks : List Str) (n : Nat) (q : List Nat) : Prop where
  to : ∀ (s : Shared) (us ws : List Value), K.In s.heap → us.length = n → ws.length = ks.length → BindsTo s fd ⟨us, ks.zip ws⟩ (ps.zip (permL q (us ++ ws)))
structure CaldK (P : Program) (w : World) (K : Frag) (mg : Str → Option Value) (base : Heap) (k : Nat) (x : Str) (n : Nat) (ks : List Str) (q : List Nat) (m : Fn) : Prop where
  ex : ∃ (f : Addr) (fd : FuncData) (ps : List Str), ps.length = q.length ∧ FnD P w K mg base k f fd ps m ∧ mg x = some (.ref f) ∧ PySem.W.keepIn K (.ref f) = true ∧ KwB K fd ps ks n q
theorem CaldK.mono {P : Program} {w : World} {K : Frag} {mg : Str → Option Value} {base : Heap} {j k n : Nat} {x : Str} {ks : List Str} {q : List Nat} {m : Fn} (c : CaldK P w K mg base j x n ks q m) (h : j ≤ k) : CaldK P w K mg base k x n ks q m := by
  obtain ⟨f, fd, ps, e, F, a, b, d⟩ := c.ex
  exact ⟨f, fd, ps, e, F.mono h, a, b, d⟩
theorem CaldK.imp {P : Program} {w : World} {K : Frag} {mg : Str → Option Value} {base : Heap} {k n : Nat} {x : Str} {ks : List Str} {q : List Nat} {m m' : Fn} (c : CaldK P w K mg base k x n ks q m) (h : Le m' m) : CaldK P w K mg base k x n ks q m' := by
  obtain ⟨f, fd, ps, e, F, a, b, d⟩ := c.ex
  refine ⟨f, fd, ps, e, F.imp fun vs H Q E ⟨hl, w2, M, ds, r, rv, p⟩ => ⟨hl, w2, M, ds, r, rv, ?_⟩, a, b, d⟩
  rcases h ds M with z | z
  · rw [z] at p; exact p.elim
  · rw [← z]; exact p
section
variable {P : Program} {w : World} {K : Frag} {mg : Str → Option Value} {base : Heap} {x qual : Str} {st : Stmt} {f : Addr} {fd : FuncData} {N ps : List Str} {k keep : Nat} {g : Sv}
abbrev FunT (K : Frag) (x qual : Str) (st : Stmt) (f : Addr) (fd : FuncData) : Prop := FunD K x qual (defArgs st) (defBody st) (defScope st) [] [] f fd
theorem fnDD (F : FunT K x qual st f fd) (S : FnScope N ps (defScope st))
    (hb : ∀ (cdv : Value) (A : Around) (outer : List PySem.Env) (s : Shared) (H : Hp) (E : XK), Room k (A.deeper (PyProof.Rows.envOfC qual (defScope st) s.heap.objs.size f cdv)) → GA (A.deeper (PyProof.Rows.envOfC qual (defScope st) s.heap.objs.size f cdv)) →
      DSs (bodyX P w K mg base N qual (defScope st) f cdv A outer s H E) (fun c d _ H => E c d H) (defBody st) g) : FnD P w K mg base (k + 1) f fd ps (defM N.length keep g) := by
  obtain ⟨oc, od, dV, kV, doc, pm, an, cdv, ct, osl, rfl, lk, hcd, _, _⟩ := F.ex
  refine fnG_of lk hcd S (fun vs H Q E h => h.1) fun A outer s H vs Q E hr ga ⟨hl, w2, M, ds, r, rv, p⟩ => ?_
  exact ⟨_, hb cdv A outer s H E hr ga, w2, startE N.length ds, M, r, RE.start rv N, leave_ok r (Nat.le_add_right _ _) p⟩
theorem cald_of {m : Fn} (F : FunT K x qual st f fd) (hm : mg x = some (.ref f)) (ok : FnD P w K mg base k f fd ps m)
    (h : ∀ (kV doc pm : Value) (an : Option Addr) (cdv ct : Value) (us : List Value), us.length = ps.length → bindArgs (PySem.W.fnOf x qual (defArgs st) (defBody st) (defScope st) .none kV doc pm an cdv ct) ⟨us, []⟩ = pure (ps.zip us)) : Cald P w K mg base k x ps.length m :=
  ⟨f, fd, ps, rfl, ok, hm, F.kp, FunD.bindsN F h⟩
end
section
variable {P : Program} {w : World} {K : Frag} {mg mb : Str → Option Value} {k : Nat} {fa a : Addr} {fd : FuncData} {x : Str} {sp : Sp} {s1 : Shared} {vs : List Value} {H : Hp}
/-- the heap without the script holds what the top has left -/
theorem hid_env (KX : K.In s1.heap) (hns : s1.heap.Ns mainGlobals mg) (hb : s1.heap.Ns builtinsNs mb) (hbb : ∀ x : Str, x ≠ "__name__" → mb x = bootBuiltins x) (hlim : s1.heap.NoLimit) (hg : s1.gens = #[])
    (ha : s1.heap.get? a = some { cls := .type "list", data := .seq vs.toArray }) (hok : HOk P w H s1.heap) (hA : ∀ b u, H b = some u → b = a) (hK : ∀ u, H a = some u → K.lookup a = none) :
    K.In (hidT s1.heap H) ∧ (hidT s1.heap H).Ns mainGlobals mg ∧ Env0 P w K mg (hidT s1.heap H) callerA [] s1 H := by
  have free : ∀ (b : Addr) (o : Obj) (es : Array DictEntry) (ep : Nat), s1.heap.get? b = some o → o.data = .dict es ep → H b = none := fun b o es ep e d => by
    cases q : H b with
    | none => rfl
    | some u =>
      rw [hA b u q, ha] at e
      cases e
      cases d
  have keepN : ∀ (b : Addr) (m : Str → Option Value), s1.heap.Ns b m → (hidT s1.heap H).Ns b m := by
    rintro b m ⟨o, es, ep, e, d, r⟩
    exact ⟨o, es, ep, hidT_get e (free b o es ep e d), d, r⟩
  have keepK : K.In (hidT s1.heap H) := fun b o e => hidT_get (KX b o e) (by
    cases q : H b with
    | none => rfl
    | some u =>
      have z := hA b u q
      subst z
      rw [hK u q] at e
      cases e)
  obtain ⟨mc, l1, l2⟩ := hlim
  exact ⟨keepK, keepN _ _ hns, ⟨rfl, ⟨keepK, keepN _ _ hns, ⟨mb, keepN _ _ hb, hbb⟩, ⟨mc, keepN _ _ l1, l2⟩⟩, fun b o e => of_hidT e, Nat.le_of_eq (hidT_size _ _), trivial, (fun b z => absurd (show b ∈ ([] : List Addr) from z) (by simp)), hok, PyProof.Rows.AllBare.of_eq hg⟩⟩
open PyProof.Rows in
theorem law_at (KX : K.In s1.heap) (hns : s1.heap.Ns mainGlobals mg) (hb : s1.heap.Ns builtinsNs mb) (hbb : ∀ x : Str, x ≠ "__name__" → mb x = bootBuiltins x) (hlim : s1.heap.NoLimit) (hg : s1.gens = #[])
    (ha : s1.heap.get? a = some { cls := .type "list", data := .seq vs.toArray }) (hok : HOk P w H s1.heap) (hA : ∀ b u, H b = some u → b = a) (hK : ∀ u, H a = some u → K.lookup a = none) (hO : Only H) (hr : Room k callerA)
    (F : ∀ base : Heap, K.In base → base.Ns mainGlobals mg → FnG P w K mg base k fa fd [x] sp) (hbind : ∀ (s : Shared) (u : Value), BindsTo s fd ⟨[u], []⟩ [(x, u)])
    (hsp : sp [.ref a] H (fun v _ => v = .bl true) fun _ _ _ => False) :
    codeAny (model P w) callerA (.call (.ref fa) ⟨[.ref a], []⟩) (fun r s' => r = .ok (.ret (.bool true)) ∧ OldK s1.heap s'.heap ∧ s'.os = s1.os ∧ AllBare s'.gens) s1 := by
  obtain ⟨h1, h2, e0⟩ := hid_env KX hns hb hbb hlim hg ha hok hA hK
  refine codeAny_mono ((F _ h1 h2).run callerA [] s1 H ⟨[.ref a], []⟩ [.ref a] [.ref a] _ _ hr rfl e0 (hbind s1 (.ref a)) (.cons rfl .nil) hsp) fun r s' h => ?_
  match r, h with
  | .error e, ⟨_, _, _, _, _, _, _, _, _, _, _, _, z⟩ => exact z.elim
  | .ok .next, h => exact False.elim h
  | .ok .brk, h => exact False.elim h
  | .ok .cont, h => exact False.elim h
  | .ok (.ret u), ⟨v, H', os, bare, un, hok', rv, q⟩ =>
    have q : v = .bl true := q
    subst q
    obtain rfl : u = Value.bool true := rv
    refine ⟨rfl, OldK.of_keep fun b o e => ?_, os, bare⟩
    cases q : H b with
    | none => exact un.keep b o e q (fun z => nomatch z) (fun z => nomatch z)
    | some t =>
      rcases hO b with z | ⟨ob, xs, z⟩
      · rw [q] at z; cases z
      · have e1 := (hok b _ z).1
        have e2 := (hok' b _ (un.frzs b ob _ z)).1
        rw [e] at e1
        cases e1
        exact e2
open PyProof.Rows in
theorem law_run {ns : List Int} (KX : K.In s1.heap) (hns : s1.heap.Ns mainGlobals mg) (hb : s1.heap.Ns builtinsNs mb) (hbb : ∀ x : Str, x ≠ "__name__" → mb x = bootBuiltins x) (hlim : s1.heap.NoLimit) (hg : s1.gens = #[])
    (ha : s1.heap.get? a = some { cls := .type "list", data := .seq vs.toArray }) (hi : IntsAre vs ns) (hl : ns.length ≤ sizeLine) (hr : Room k callerA)
    (F : ∀ base : Heap, K.In base → base.Ns mainGlobals mg → FnG P w K mg base k fa fd [x] sp) (hbind : ∀ (s : Shared) (u : Value), BindsTo s fd ⟨[u], []⟩ [(x, u)])
    (hsp : ∀ H : Hp, Only H → SqL K H a (ns.map V.int) → sp [.ref a] H (fun v _ => v = .bl true) fun _ _ _ => False) :
    codeAny (model P w) callerA (.call (.ref fa) ⟨[.ref a], []⟩) (fun r s' => r = .ok (.ret (.bool true)) ∧ OldK s1.heap s'.heap ∧ s'.os = s1.os ∧ AllBare s'.gens) s1 := by
  have rv := vals_ints hi
  have hlen := hi.length
  cases hk : K.lookup a with
  | some o =>
    have e := KX a o hk
    rw [ha] at e
    cases e
    have hO : Only (fun _ => none) := fun _ => .inl rfl
    have hS : SqL K (fun _ => none) a (ns.map V.int) := .inr ⟨_, vs.toArray, _, hk, rfl, rfl, rfl, by rw [List.size_toArray, hlen]; exact hl, by simpa using rv⟩
    exact law_at KX hns hb hbb hlim hg ha (fun b u z => by cases (show (none : Option HO) = some u from z)) (fun b u z => by cases (show (none : Option HO) = some u from z)) (fun u z => by cases (show (none : Option HO) = some u from z)) hO hr F hbind (hsp _ hO hS)
  | none =>
    have at_a : (fun b => if b = a then some (HO.frz { cls := .type "list", data := .seq vs.toArray } (.lst (ns.map V.int))) else none : Hp) a = some (HO.frz { cls := .type "list", data := .seq vs.toArray } (.lst (ns.map V.int))) := if_pos rfl
    generalize hH : (fun b => if b = a then some (HO.frz { cls := .type "list", data := .seq vs.toArray } (.lst (ns.map V.int))) else none : Hp) = H at at_a
    have off_a : ∀ b, b ≠ a → H b = none := fun b z => by rw [← hH]; exact if_neg z
    have only_a : ∀ b u, H b = some u → b = a := fun b u z => by
      by_cases hb : b = a
      · exact hb
      · rw [off_a b hb] at z; cases z
    have hO : Only H := fun b => by
      by_cases hb : b = a
      · subst hb; exact .inr ⟨_, _, at_a⟩
      · exact .inl (off_a b hb)
    have hok : HOk P w H s1.heap := fun b u z => by
      have e := only_a b u z
      subst e
      rw [at_a] at z
      cases z
      exact ⟨ha, by rw [List.length_map]; exact hl, vs, _, rv, ha⟩
    exact law_at KX hns hb hbb hlim hg ha hok only_a (fun _ _ => hk) hO hr F hbind (hsp H hO (.inl (.inr ⟨_, at_a⟩)))
end
theorem walk_end {l : PySem.W.OpenLaw} {n k : Nat} {q : Program} {loose : List Str} {XP : (Str → Option Value) → Heap → Prop} {YP : World → Heap → Prop} {d : DefRec} {x : Str} {m : Fn}
    (hn : l.most = some n) (hn2 : n ≤ sizeLine) (hdf : d.params.defaults = []) (hr : Room k callerA)
    (F : ∀ (w : World) (mg : Str → Option Value) (fa : Addr) (h : Heap), YP w h → h.Ns mainGlobals mg → mg d.name = some (.ref fa) →
      ∃ (K : Frag) (fd : FuncData), K.In h ∧ (∀ (s : Shared) (u : Value), BindsTo s fd ⟨[u], []⟩ [(x, u)]) ∧ ∀ base : Heap, K.In base → base.Ns mainGlobals mg → FnD l.prog w K mg base k fa fd [x] m)
    (hm : ∀ ns : List Int, ns.length ≤ n → ∃ M, m [.s (ns.map PyData.int)] [] = .ok (.d (.bool true)) M) :
    PySem.W.WalkO q loose XP YP l.row.toRowW d [] (fun f vs => PySem.call f vs) := by
  refine Att.attach_call hn hdf fun w s₀ s₁ mg mb fa o pm cd doc a vs ns G Y ho hd hcd hmg hobj hints hlen hg => ?_
  obtain ⟨K, fd, KX, hb, hF⟩ := F w mg fa _ Y G.T.g hmg
  refine law_run KX G.T.g G.T.b G.T.builtins G.T.nolimit hg hobj hints (Nat.le_trans hlen hn2) hr hF hb fun H hO hS => ?_
  obtain ⟨M', e⟩ := hm ns hlen
  refine ⟨rfl, ⟨[], H, fun _ => none⟩, [], [.s (ns.map PyData.int)], ⟨fun _ _ z => z, rfl, List.nodup_nil, (fun a o z => nomatch z), (fun i a m z => by have z : none = some a := z; cases z)⟩, .cons ⟨a, ns.map V.int, rfl, hS, DpAll.ints ns⟩ .nil, ?_⟩
  rw [e]
  intro w' v H' l r rv
  cases rv
  rfl
end DL
namespace DL
open PySem PySem.Spec L2
section
variable {X : Cx} {W : WX} {pos : Pos}
def seqT (n : Nat) (δ : Tgs) : Tg := fun x e M => match seqOf M x with
  | some xs => if xs.length = n then δ xs e M else .st
  | none => .st
def parS (i j : Nat) (f : Evs) : Sv := lift f fun xs e M => match xs with
  | [x, y] => .go .nx ((e.set i (some x)).set j (some y)) M
  | _ => .st
theorem ds_par {i j : Nat} {x y : Str} {a b : Expr} {f : Evs} {px py pt : Pos} {kt k2 pt2} (hc : X.calm = true) (hN : X.N.Nodup) (hi : X.N[i]? = some x) (hj : X.N[j]? = some y) (hij : i ≠ j)
    (hx : X.env.scope.names.lookup x = some .local) (hy : X.env.scope.names.lookup y = some .local) (ha : DA X W [a, b] f)
    (hw : swappedStores [.Tuple [.Name x px, .Name y py] kt pt] (.Tuple [a, b] k2 pt2) X.env = pure (some [x, y]))
    (hs : swapsWithSole [.Tuple [.Name x px, .Name y py] kt pt] (.Tuple [a, b] k2 pt2) pos.line X.env = pure false := by rfl) :
    DS X W (.Assign [.Tuple [.Name x px, .Name y py] kt pt] (.Tuple [a, b] k2 pt2) pos) (parS i j f) :=
  PSweak (ps_par hc hN hi hj hij hx hy ha hw hs) fun D σ H ⟨w, e, M, r, re, p⟩ => ⟨w, e, M, r, re, p.of re fun xs M1 w1 vs H1 l1 r1 rv p1 => by
    split at p1
    · obtain ⟨v, u, rfl, h1, h2⟩ := rvs2 rv
      exact ⟨v, u, rfl, p1.nx r1 (((re.up l1).set h1 i).set h2 j)⟩
    · exact p1.elim⟩
end
end DL
namespace DL
open PySem PySem.Spec L2
theorem fnD0 {P : Program} {w : World} {K : Frag} {mg : Str → Option Value} {base : Heap} {k : Nat} {f : Addr} {fd : FuncData} {ps : List Str} : FnD P w K mg base k f fd ps (fun _ _ => .st) :=
  ⟨fun vs H Q E h => h.1, fun A outer s H args us vs Q E hr hg he hb hv ⟨_, _, _, _, _, _, p⟩ => p.elim⟩
/-- fuel of a loop over the list in a slot -/
def lenAt (i : Nat) : Env → Mem → Nat := fun e M => match e[i]? with
  | some (some x) => match lstOf M x with
    | some xs => xs.length + 1
    | none => 0
  | _ => 0
end DL
namespace DL
open PySem PySem.Spec L2
namespace C
def g_box : Sv := (seqS (setS 2 (ifE (opT ltV (getV 1) (callE lenV (consA (getV 0) nilA))) (op2 ixV (getV 0) (getV 1)) (cst (.d (.int 0))))) (retS (newE (dispE (consA (op2 mulV (callE DL.absV (consA (getV 2) nilA)) (callE intV (consA (op2 geV (callE DL.absV (consA (getV 2) nilA)) (op2 powV (cst (.d (.int 10))) (cst (.d (.int 18))))) nilA))) (consA (op2 addV (op2 addV (op2 modV (getV 2) (cst (.d (.int 2305843009213693951)))) (op2 mulV (cst (.d (.int 7919))) (getV 1))) (cst (.d (.int 55)))) (consA (cst (.d (.int 0))) nilA)))))))
def m_box : Fn := defM 3 1 g_box
def g_take (self : Fn) : Sv := (seqS (ifS (opT gtV (op2 ixV (getV 0) (cst (.d (.int 0)))) (cst (.d (.int 0)))) (seqS (setS 2 (op2 modV (op2 ixV (getV 0) (cst (.d (.int 0)))) (getV 1))) (seqS (asgS (op2 fdivV (op2 ixV (getV 0) (cst (.d (.int 0)))) (getV 1)) (subT (getV 0) (cst (.d (.int 0))))) (retS (getV 2)))) nopS) (seqS (ifS (opT gtV (getV 1) (op2 powV (cst (.d (.int 10))) (cst (.d (.int 7))))) (retS (op2 modV (op2 addV (callF 2 self (consA (getV 0) (consA (op2 powV (cst (.d (.int 10))) (cst (.d (.int 7)))) nilA))) (op2 mulV (op2 powV (cst (.d (.int 10))) (cst (.d (.int 7)))) (callF 2 self (consA (getV 0) (consA (op2 addV (op2 fdivV (op2 subV (getV 1) (cst (.d (.int 1)))) (op2 powV (cst (.d (.int 10))) (cst (.d (.int 7))))) (cst (.d (.int 1)))) nilA))))) (getV 1))) nopS) (seqS (asgS (op2 addV (op2 ixV (getV 0) (cst (.d (.int 2)))) (cst (.d (.int 1)))) (subT (getV 0) (cst (.d (.int 2))))) (seqS (setS 3 (op2 modV (op2 powV (op2 addV (op2 ixV (getV 0) (cst (.d (.int 1)))) (op2 mulV (cst (.d (.int 39373))) (op2 ixV (getV 0) (cst (.d (.int 2)))))) (cst (.d (.int 5)))) (cst (.d (.int 2147483647))))) (retS (op2 modV (op2 fdivV (op2 modV (op2 addV (op2 mulV (getV 3) (op2 addV (op2 modV (getV 3) (cst (.d (.int 40009)))) (cst (.d (.int 7))))) (op2 mulV (op2 ixV (getV 0) (cst (.d (.int 2)))) (cst (.d (.int 7919))))) (cst (.d (.int 2147483629)))) (cst (.d (.int 64)))) (getV 1)))))))
def m_take : Nat → Fn
  | 0 => fun _ _ => .st
  | n + 1 => defM 4 0 (g_take (m_take n))
def g_cells : Sv := (seqS (setS 2 (newE (listE (slE (getV 0) noP (someP (getV 1)))))) (seqS (forS (enumI (slE (getV 0) (someP (getV 1)) (someP (cst (.d (.int 63)))))) (tupT 2 (consT (setT 3) (consT (setT 4) nilT))) (asgS (op2 addV (op2 ixV (getV 2) (op2 modV (getV 3) (getV 1))) (op2 mulV (getV 4) (op2 addV (getV 3) (cst (.d (.int 2)))))) (subT (getV 2) (op2 modV (getV 3) (getV 1))))) (seqS (freeze 2) (retS (ifE (opT neV (getV 2) (datE (dispE nilA))) (getV 2) (datE (dispE (consA (cst (.d (.int 0))) nilA))))))))
def m_cells : Fn := defM 5 0 g_cells
def g_of : Sv := (retS (op2 ixV (getV 1) (callF 2 (C.m_take 10) (consA (getV 0) (consA (callE lenV (consA (getV 1) nilA)) nilA)))))
def m_of : Fn := defM 2 0 g_of
def g_strewn : Sv := (seqS (parS 2 3 (consA (newE (listE (getV 1))) (consA (newE (dispE nilA)) nilA))) (seqS (whileS (opT neV (getV 2) (datE (dispE nilA))) (dropS (methE appM (getV 3) (consA (methE popM (getV 2) (consA (callF 2 (C.m_take 10) (consA (getV 0) (consA (callE lenV (consA (getV 2) nilA)) nilA))) nilA)) nilA))) (lenAt 2)) (seqS (freeze 3) (retS (getV 3)))))
def m_strewn : Fn := defM 4 0 g_strewn
end C
end DL
namespace DL
open PySem PySem.Spec L2
theorem bind_ok {α β : Type} {x : α} {M : Mem} {k : α → Mem → Res β} : (Res.ok x M).bind k = k x M := Eq.trans rfl rfl
theorem pur_ok {α : Type} {x : α} {M : Mem} : (Res.ok x M).pur = .ok x M := Eq.trans rfl rfl
def bindS {α : Type} (r : Res α) (k : α → Env → Mem → RS) (e : Env) : RS := match r with
  | .ok x M1 => k x e M1
  | .er C fs M1 => .er C fs e M1
  | .st => .st
theorem lift_eq {α : Type} {f : Env → Mem → Res α} {k : α → Env → Mem → RS} {e : Env} {M : Mem} : lift f k e M = bindS (f e M) k e := Eq.trans rfl rfl
theorem bindS_ok {α : Type} {x : α} {M1 : Mem} {k : α → Env → Mem → RS} {e : Env} : bindS (.ok x M1) k e = k x e M1 := Eq.trans rfl rfl
theorem bindS_er {α : Type} {C : Str} {fs : List (Str × PyData)} {M1 : Mem} {k : α → Env → Mem → RS} {e : Env} : bindS (α := α) (.er C fs M1) k e = .er C fs e M1 := Eq.trans rfl rfl
def thenS (r : RS) (h : Sv) : RS := match r with
  | .go .nx e1 M1 => h e1 M1
  | r => r
theorem then_nx {e : Env} {M : Mem} {h : Sv} : thenS (.go .nx e M) h = h e M := Eq.trans rfl rfl
theorem then_rt {e : Env} {M : Mem} {h : Sv} {x : Vl} : thenS (.go (.rt x) e M) h = .go (.rt x) e M := Eq.trans rfl rfl
theorem then_er {e : Env} {M : Mem} {h : Sv} {C : Str} {fs : List (Str × PyData)} : thenS (.er C fs e M) h = .er C fs e M := Eq.trans rfl rfl
theorem getV_0 {e : Env} {M : Mem} {v : Vl} : getV 0 (some v :: e) M = .ok v M := Eq.trans rfl rfl
theorem getV_s {i : Nat} {e : Env} {M : Mem} {o : Option Vl} : getV (i + 1) (o :: e) M = getV i e M := by simp [getV]
theorem leave_d {n : Nat} {e : Env} {M : Mem} {x : PyData} : leave n (.go (.rt (.d x)) e M) = .ok (.d x) (M.take n) := Eq.trans rfl rfl
theorem leave_nx {n : Nat} {e : Env} {M : Mem} : leave n (.go .nx e M) = .ok (.d .none) (M.take n) := Eq.trans rfl rfl
theorem leave_er {n : Nat} {e : Env} {M : Mem} {C : Str} {fs : List (Str × PyData)} : leave n (.er C fs e M) = .er C fs (M.take n) := Eq.trans rfl rfl
theorem leave_h {n i : Nat} {e : Env} {M : Mem} (h : i < n) : leave n (.go (.rt (.h i)) e M) = .ok (.h i) (M.take n) := by simp [leave, h]
theorem take_all {M : Mem} {n : Nat} (h : M.length ≤ n) : M.take n = M := List.take_of_length_le h
theorem ixV_h {M : Mem} {i : Nat} {xs : List PyData} {k : Int} {d : PyData} (h : M[i]? = some (.lst xs)) (hd : atI xs k = some d) : ixV (.h i) (.d (.int k)) M = .ok (.d d) M := by
  simp [ixV, seqOf, tupOf, rdOf, lstOf, h, hd]
theorem ixV_l {M : Mem} {xs : List PyData} {k : Int} {d : PyData} (hd : atI xs k = some d) : ixV (.d (.list xs)) (.d (.int k)) M = .ok (.d d) M := by
  simp [ixV, seqOf, tupOf, rdOf, lstOf, hd]
theorem ixV_t {M : Mem} {xs : List PyData} {k : Int} {d : PyData} (hd : atI xs k = some d) : ixV (.d (.tuple xs)) (.d (.int k)) M = .ok (.d d) M := by
  simp [ixV, seqOf, tupOf, rdOf, lstOf, hd]
theorem ixV_s {M : Mem} {xs : List PyData} {k : Int} {d : PyData} (hd : atI xs k = some d) : ixV (.s xs) (.d (.int k)) M = .ok (.d d) M := by
  simp [ixV, seqOf, tupOf, rdOf, lstOf, hd]
theorem add_ii {i j : Int} {M : Mem} : addV (.d (.int i)) (.d (.int j)) M = .ok (.d (.int (i + j))) M := Eq.trans rfl rfl
theorem sub_ii {i j : Int} {M : Mem} : subV (.d (.int i)) (.d (.int j)) M = .ok (.d (.int (i - j))) M := Eq.trans rfl rfl
theorem mul_ii {i j : Int} {M : Mem} (h : (-(2 ^ 64) < i ∧ i < 2 ^ 64) ∨ (-(2 ^ 64) < j ∧ j < 2 ^ 64)) : mulV (.d (.int i)) (.d (.int j)) M = .ok (.d (.int (i * j))) M := by
  exact if_pos (by rcases h with h | h; exact .inl h; exact .inr (.inl h))
theorem mod_ii {i j : Int} {M : Mem} (h : 0 < j) : modV (.d (.int i)) (.d (.int j)) M = .ok (.d (.int (i % j))) M := by
  exact if_pos h
theorem fdiv_ii {i j : Int} {M : Mem} (h : 0 < j) (h2 : j < 2 ^ 255) : fdivV (.d (.int i)) (.d (.int j)) M = .ok (.d (.int (i / j))) M := by
  refine if_pos ⟨h, ?_⟩
  have : j.natAbs < 2 ^ 255 := by omega
  exact Nat.lt_trans ((Nat.log2_lt (by omega)).mpr this) (by decide)
theorem pow_ii {i j : Int} {M : Mem} (h0 : 0 ≤ j) (h : j ≤ 1000000) (h2 : i.natAbs < 2 ^ 64) : powV (.d (.int i)) (.d (.int j)) M = .ok (.d (.int (i ^ j.toNat))) M := if_pos ⟨h0, h, h2⟩
theorem pow_7 {M : Mem} : powV (.d (.int 10)) (.d (.int 7)) M = .ok (.d (.int 10000000)) M := Eq.trans rfl rfl
theorem pow_18 {M : Mem} : powV (.d (.int 10)) (.d (.int 18)) M = .ok (.d (.int 1000000000000000000)) M := Eq.trans rfl rfl
theorem pow_40 {M : Mem} : powV (.d (.int 10)) (.d (.int 40)) M = .ok (.d (.int 10000000000000000000000000000000000000000)) M := Eq.trans rfl rfl
theorem gt_ii {i j : Int} {M : Mem} : gtV (.d (.int i)) (.d (.int j)) M = .ok (.d (.bool (decide (j < i)))) M := Eq.trans rfl rfl
theorem lt_ii {i j : Int} {M : Mem} : ltV (.d (.int i)) (.d (.int j)) M = .ok (.d (.bool (decide (i < j)))) M := Eq.trans rfl rfl
theorem ge_ii {i j : Int} {M : Mem} : geV (.d (.int i)) (.d (.int j)) M = .ok (.d (.bool (decide (j ≤ i)))) M := Eq.trans rfl rfl
theorem le_ii {i j : Int} {M : Mem} : leV (.d (.int i)) (.d (.int j)) M = .ok (.d (.bool (decide (i ≤ j)))) M := Eq.trans rfl rfl
theorem bool_b {b : Bool} {M : Mem} : boolOf (.d (.bool b)) M = .ok b M := Eq.trans rfl rfl
def putV (o j x : Vl) (e : Env) (M2 : Mem) : Res Env := match o, j, x with
  | .h i, .d (.int k), .d y => match M2[i]? with
    | some (.lst xs) => match ixN xs.length k with
      | some n => .ok e (M2.set i (.lst (xs.set n y)))
      | none => .st
    | _ => .st
  | _, _, _ => .st
theorem putV_h {e : Env} {M : Mem} {i n : Nat} {k : Int} {xs : List PyData} {y : PyData} (hM : M[i]? = some (.lst xs)) (hn : ixN xs.length k = some n) : putV (.h i) (.d (.int k)) (.d y) e M = .ok e (M.set i (.lst (xs.set n y))) := by
  unfold putV
  simp only [hM, hn]
def goG (r : Res Env) : RS := match r with
  | .ok e1 M1 => .go .nx e1 M1
  | _ => .st
theorem goG_ok {e : Env} {M : Mem} : goG (.ok e M) = .go .nx e M := Eq.trans rfl rfl
section
variable {g : Vl → Vl → Mem → Res Vl} {f f1 f2 : Ev} {F : Env → Mem → Res (List PyData)} {h k : Evs} {e : Env} {M M1 : Mem} {x y : Vl} {xs : List Vl} {t u : Env → Mem → Res Bool} {G G2 : Sv} {b : Bool} {γ : Tg} {δ : Tgs}
theorem cst_a : cst x e M = .ok x M := Eq.trans rfl rfl
def o2a (g : Vl → Vl → Mem → Res Vl) (f2 : Ev) (e : Env) (r : Res Vl) : Res Vl := r.bind fun x M1 => (f2 e M1).bind fun y M2 => (g x y M2).pur
def o2b (g : Vl → Vl → Mem → Res Vl) (x : Vl) (r : Res Vl) : Res Vl := r.bind fun y M2 => (g x y M2).pur
theorem op2_a : op2 g f1 f2 e M = o2a g f2 e (f1 e M) := Eq.trans rfl rfl
theorem o2a_ok : o2a g f2 e (.ok x M1) = o2b g x (f2 e M1) := Eq.trans rfl rfl
theorem o2b_ok : o2b g x (.ok y M1) = (g x y M1).pur := Eq.trans rfl rfl
def oTa (g : Vl → Vl → Mem → Res Vl) (f2 : Ev) (e : Env) (r : Res Vl) : Res Bool := r.bind fun x M1 => (f2 e M1).bind fun y M2 => (g x y M2).pur.bind boolOf
def oTb (g : Vl → Vl → Mem → Res Vl) (x : Vl) (r : Res Vl) : Res Bool := r.bind fun y M2 => (g x y M2).pur.bind boolOf
theorem opT_a : opT g f1 f2 e M = oTa g f2 e (f1 e M) := Eq.trans rfl rfl
theorem oTa_ok : oTa g f2 e (.ok x M1) = oTb g x (f2 e M1) := Eq.trans rfl rfl
theorem oTb_ok : oTb g x (.ok y M1) = (g x y M1).pur.bind boolOf := Eq.trans rfl rfl
def cAa (h : Evs) (e : Env) (r : Res Vl) : Res (List Vl) := r.bind fun x M1 => (h e M1).bind fun xs M2 => .ok (x :: xs) M2
def cAb (x : Vl) (r : Res (List Vl)) : Res (List Vl) := r.bind fun xs M2 => .ok (x :: xs) M2
theorem nilA_a : nilA e M = .ok [] M := Eq.trans rfl rfl
theorem consA_a : consA f h e M = cAa h e (f e M) := Eq.trans rfl rfl
theorem cAa_ok : cAa h e (.ok x M1) = cAb x (h e M1) := Eq.trans rfl rfl
theorem cAb_ok : cAb x (.ok xs M1) = .ok (x :: xs) M1 := Eq.trans rfl rfl
def cFa (n : Nat) (m : Fn) (r : Res (List Vl)) : Res Vl := r.bind fun xs M1 => if xs.length = n then m xs M1 else .st
theorem callF_a {n : Nat} {m : Fn} : callF n m h e M = cFa n m (h e M) := Eq.trans rfl rfl
theorem cFa_ok {n : Nat} {m : Fn} : cFa n m (.ok xs M1) = if xs.length = n then m xs M1 else .st := Eq.trans rfl rfl
def cEa (v : List Vl → Mem → Res Vl) (r : Res (List Vl)) : Res Vl := r.bind fun xs M1 => (v xs M1).pur
theorem callE_a {v : List Vl → Mem → Res Vl} : callE v h e M = cEa v (h e M) := Eq.trans rfl rfl
theorem cEa_ok {v : List Vl → Mem → Res Vl} : cEa v (.ok xs M1) = (v xs M1).pur := Eq.trans rfl rfl
def dta (r : Res (List PyData)) : Res Vl := r.bind fun xs M1 => .ok (.d (.list xs)) M1
theorem datE_a : datE F e M = dta (F e M) := Eq.trans rfl rfl
theorem dta_ok {ds : List PyData} : dta (.ok ds M1) = .ok (.d (.list ds)) M1 := Eq.trans rfl rfl
def nwa (r : Res (List PyData)) : Res Vl := r.bind fun xs M1 => .ok (.h M1.length) (M1 ++ [.lst xs])
theorem newE_a : newE F e M = nwa (F e M) := Eq.trans rfl rfl
theorem nwa_ok {ds : List PyData} : nwa (.ok ds M1) = .ok (.h M1.length) (M1 ++ [.lst ds]) := Eq.trans rfl rfl
theorem dispE_a : dispE h e M = (h e M).bind asDs := Eq.trans rfl rfl
def tpa (r : Res (List Vl)) : Res Vl := r.bind fun xs M1 => (asDs xs M1).bind fun ds M2 => .ok (.d (.tuple ds)) M2
theorem tupE_a : tupE h e M = tpa (h e M) := Eq.trans rfl rfl
theorem tpa_ok : tpa (.ok xs M1) = (asDs xs M1).bind fun ds M2 => .ok (.d (.tuple ds)) M2 := Eq.trans rfl rfl
theorem asDs_a : asDs xs M = match datas xs with
  | some ds => if ds.length ≤ sizeLine then .ok ds M else .st
  | none => .st := by unfold asDs; rfl
def ifa (f g : Ev) (e : Env) (r : Res Bool) : Res Vl := r.bind fun b M1 => if b = true then f e M1 else g e M1
theorem ifE_a : ifE t f1 f2 e M = ifa f1 f2 e (t e M) := Eq.trans rfl rfl
theorem ifa_t : ifa f1 f2 e (.ok true M1) = f1 e M1 := Eq.trans rfl rfl
theorem ifa_f : ifa f1 f2 e (.ok false M1) = f2 e M1 := Eq.trans rfl rfl
def nta (r : Res Bool) : Res Bool := r.bind fun b M1 => .ok (!b) M1
theorem notT_a : notT t e M = nta (t e M) := Eq.trans rfl rfl
theorem nta_ok : nta (.ok b M1) = .ok (!b) M1 := Eq.trans rfl rfl
def ana (u : Env → Mem → Res Bool) (e : Env) (r : Res Bool) : Res Bool := r.bind fun b M1 => if b = true then u e M1 else .ok false M1
theorem andT_a : andT t u e M = ana u e (t e M) := Eq.trans rfl rfl
theorem ana_t : ana u e (.ok true M1) = u e M1 := Eq.trans rfl rfl
theorem ana_f : ana u e (.ok false M1) = .ok false M1 := Eq.trans rfl rfl
def ora (u : Env → Mem → Res Bool) (e : Env) (r : Res Bool) : Res Bool := r.bind fun b M1 => if b = true then .ok true M1 else u e M1
theorem orT_a : orT t u e M = ora u e (t e M) := Eq.trans rfl rfl
theorem ora_t : ora u e (.ok true M1) = .ok true M1 := Eq.trans rfl rfl
theorem ora_f : ora u e (.ok false M1) = u e M1 := Eq.trans rfl rfl
def tsa (r : Res Vl) : Res Bool := r.bind asB
theorem tstE_a : tstE f e M = tsa (f e M) := Eq.trans rfl rfl
theorem tsa_b : tsa (.ok (.d (.bool b)) M1) = .ok b M1 := Eq.trans rfl rfl
def aEa (g : Ev) (e : Env) (r : Res Vl) : Res Vl := r.bind fun x M1 => (boolOf x M1).bind fun b M2 => if b = true then g e M2 else .ok (.d (.bool false)) M2
theorem andE_a : andE f1 f2 e M = aEa f2 e (f1 e M) := Eq.trans rfl rfl
theorem aEa_t : aEa f2 e (.ok (.d (.bool true)) M1) = f2 e M1 := Eq.trans rfl rfl
theorem aEa_f : aEa f2 e (.ok (.d (.bool false)) M1) = .ok (.d (.bool false)) M1 := Eq.trans rfl rfl
def oEa (g : Ev) (e : Env) (r : Res Vl) : Res Vl := r.bind fun x M1 => (boolOf x M1).bind fun b M2 => if b = true then .ok (.d (.bool true)) M2 else g e M2
theorem orE_a : orE f1 f2 e M = oEa f2 e (f1 e M) := Eq.trans rfl rfl
theorem oEa_t : oEa f2 e (.ok (.d (.bool true)) M1) = .ok (.d (.bool true)) M1 := Eq.trans rfl rfl
theorem oEa_f : oEa f2 e (.ok (.d (.bool false)) M1) = f2 e M1 := Eq.trans rfl rfl
def nEa (r : Res Vl) : Res Vl := r.bind fun x M1 => (boolOf x M1).bind fun b M2 => .ok (.d (.bool !b)) M2
theorem notE_a : notE f e M = nEa (f e M) := Eq.trans rfl rfl
theorem nEa_ok : nEa (.ok (.d (.bool b)) M1) = .ok (.d (.bool !b)) M1 := Eq.trans rfl rfl
theorem seqS_a : seqS G G2 e M = thenS (G e M) G2 := Eq.trans rfl rfl
theorem nopS_a : nopS e M = .go .nx e M := Eq.trans rfl rfl
theorem setS_a {i : Nat} : setS i f e M = bindS (f e M) (fun x e M => .go .nx (e.set i (some x)) M) e := Eq.trans rfl rfl
theorem retS_a : retS f e M = bindS (f e M) (fun x e M => .go (.rt x) e M) e := Eq.trans rfl rfl
theorem dropS_a : dropS f e M = bindS (f e M) (fun _ e M => .go .nx e M) e := Eq.trans rfl rfl
def ifK (G G2 : Sv) : Bool → Env → Mem → RS := fun b e M => if b = true then G e M else G2 e M
theorem ifS_a : ifS t G G2 e M = bindS (t e M) (ifK G G2) e := Eq.trans rfl rfl
theorem ifK_t : ifK G G2 true e M = G e M := Eq.trans rfl rfl
theorem ifK_f : ifK G G2 false e M = G2 e M := Eq.trans rfl rfl
def asK (γ : Tg) : Vl → Env → Mem → RS := fun x e M => goG (γ x e M)
theorem asgS_a : asgS f γ e M = bindS (f e M) (asK γ) e := Eq.trans rfl rfl
theorem asK_a : asK γ x e M = goG (γ x e M) := Eq.trans rfl rfl
theorem setT_a {i : Nat} : setT i x e M = .ok (e.set i (some x)) M := Eq.trans rfl rfl
theorem nilT_a : nilT [] e M = .ok e M := Eq.trans rfl rfl
def cTa (δ : Tgs) (xs : List PyData) (r : Res Env) : Res Env := r.bind fun e1 M1 => δ xs e1 M1
theorem consT_a {d : PyData} {ds : List PyData} : consT γ δ (d :: ds) e M = cTa δ ds (γ (.d d) e M) := Eq.trans rfl rfl
theorem cTa_ok {ds : List PyData} {e1 : Env} : cTa δ ds (.ok e1 M1) = δ ds e1 M1 := Eq.trans rfl rfl
theorem tupT_a {n : Nat} {ds : List PyData} (h : ds.length = n) : tupT n δ (.d (.tuple ds)) e M = δ ds e M := if_pos h
theorem seqT_t {n : Nat} {ds : List PyData} (h : ds.length = n) : seqT n δ (.d (.tuple ds)) e M = δ ds e M := if_pos h
theorem seqT_l {n : Nat} {ds : List PyData} (h : ds.length = n) : seqT n δ (.d (.list ds)) e M = δ ds e M := if_pos h
theorem subT_a : subT f1 f2 x e M = (f1 e M).bind fun o M1 => (f2 e M1).bind fun j M2 => putV o j x e M2 := Eq.trans rfl rfl
theorem forS_a {fi : Ei} : forS fi γ G e M = bindS (fi e M) (fun xs e M => forL γ G xs e M) e := Eq.trans rfl rfl
theorem parS_a {i j : Nat} : parS i j h e M = bindS (h e M) (fun xs e M => match xs with
  | [x, y] => RS.go .nx ((e.set i (some x)).set j (some y)) M
  | _ => .st) e := Eq.trans rfl rfl
end
theorem freeze_at {i j : Nat} {e : Env} {M : Mem} {xs : List PyData} (h1 : e[i]? = some (some (.h j))) (h2 : M[j]? = some (.lst xs)) : freeze i e M = .go .nx (e.set i (some (.d (.list xs)))) (M.set j .gone) := by
  unfold freeze
  rw [h1]
  simp only [h2]
theorem whileS_at {c : Env → Mem → Res Bool} {g : Sv} {n : Env → Mem → Nat} {k : Nat} {e : Env} {M : Mem} {r : RS} (hk : n e M = k) (h : whileL c g k e M = r) : whileS c g n e M = r := by
  unfold whileS
  rw [hk]
  exact h
theorem listE_a {f : Ev} {e : Env} {M M1 : Mem} {x : Vl} {xs : List PyData} (h : f e M = .ok x M1) (hx : seqOf M1 x = some xs) : listE f e M = .ok xs M1 := by
  unfold listE
  rw [h, bind_ok]
  simp only [hx]
namespace C
/-- the box: what is left of a great number, a seed, a counter -/
def Bx (n : Nat) (o : MO) : Prop := ∃ a b c : Int, o = .lst [.int a, .int b, .int c] ∧ 0 ≤ a ∧ 0 ≤ b ∧ b < 2 ^ 62 ∧ 0 ≤ c ∧ c ≤ n
theorem Bx.mono {m n : Nat} {o : MO} (h : Bx m o) (hn : m ≤ n) : Bx n o := by
  obtain ⟨a, b, c, e, h1, h2, h3, h4, h5⟩ := h
  exact ⟨a, b, c, e, h1, h2, h3, h4, by omega⟩
theorem getM {M : Mem} {i : Nat} {o o' : MO} (h : M[i]? = some o) : (M.set i o')[i]? = some o' := by
  have : i < M.length := by
    by_cases hi : i < M.length
    · exact hi
    · rw [List.getElem?_eq_none (by omega)] at h; cases h
  simp [this]
theorem take_step (i n m : Nat) (M : Mem) (o : MO) (sp : Int) (self : Fn) (hM : M[i]? = some o) (hB : Bx n o) (hn : n + 1 ≤ 2 ^ 46) (hm : n + 1 ≤ m) (h0 : 0 < sp) (h1 : sp ≤ 10 ^ 70)
    (hs : 10000000 < sp → ∃ v1 o1 v2 o2, self [.h i, .d (.int 10000000)] M = .ok (.d (.int v1)) (M.set i o1) ∧ self [.h i, .d (.int ((sp - 1) / 10000000 + 1))] (M.set i o1) = .ok (.d (.int v2)) (M.set i o2) ∧ Bx m o2) :
    ∃ v o', defM 4 0 (g_take self) [.h i, .d (.int sp)] M = .ok (.d (.int v)) (M.set i o') ∧ Bx m o' ∧ 0 ≤ v ∧ v < sp := by
  obtain ⟨a, b, c, rfl, ha, hb, hb2, hc, hc2⟩ := hB
  have i0 : atI [PyData.int a, .int b, .int c] 0 = some (.int a) := rfl
  have i1 : atI [PyData.int a, .int b, .int c] 1 = some (.int b) := rfl
  have i2 : atI [PyData.int a, .int b, .int c] 2 = some (.int c) := rfl
  have p0 : ixN [PyData.int a, .int b, .int c].length 0 = some 0 := rfl
  have p2 : ixN [PyData.int a, .int b, .int c].length 2 = some 2 := rfl
  have hv : ∀ x : Int, 0 ≤ x % sp ∧ x % sp < sp := fun x => ⟨Int.emod_nonneg _ (by omega), Int.emod_lt_of_pos _ h0⟩
  unfold g_take
  by_cases h : 0 < a
  · simp only [defM, startE, seqS_a, setS_a, bindS_ok, bindS_er, then_nx, then_rt, then_er, ifS_a, ifK_t, ifK_f, retS_a, dropS_a, asgS_a, asK_a, goG_ok, subT_a, nopS_a, getV_0, getV_s, cst_a, op2_a, o2a_ok, o2b_ok, opT_a, oTa_ok, oTb_ok, consA_a, cAa_ok, cAb_ok, nilA_a, callF_a, cFa_ok, callE_a, cEa_ok, newE_a, nwa_ok, datE_a, dta_ok, dispE_a, tupE_a, tpa_ok, asDs_a, datas, bind_ok, pur_ok, bool_b, leave_d, leave_nx, leave_er, ifE_a, ifa_t, ifa_f, notT_a, nta_ok, andT_a, ana_t, ana_f, orT_a, ora_t, ora_f, tstE_a, tsa_b, andE_a, aEa_t, aEa_f, orE_a, oEa_t, oEa_f, notE_a, nEa_ok, add_ii, sub_ii, gt_ii, lt_ii, ge_ii, le_ii, setT_a, consT_a, cTa_ok, nilT_a, tupT_a, seqT_t, seqT_l, forS_a, List.map_cons, List.map_nil, List.length_cons, List.length_nil, Nat.reduceAdd, Nat.reduceSub, Nat.zero_add, Nat.add_zero, List.replicate, List.cons_append, List.nil_append, List.append_nil, List.getElem?_cons_zero, List.getElem?_cons_succ, List.set_cons_zero, List.set_cons_succ, List.getElem?_nil, Option.map_some, Option.map_none, Option.bind_some, if_true, if_false, ite_true, ite_false, eq_self_iff_true, and_self, and_true, true_and, decide_true, decide_false, Bool.false_eq_true, Bool.not_true, Bool.not_false, sizeLine, Nat.reducePow, Nat.reduceLeDiff, Nat.zero_le, pow_7, pow_18, pow_40, ixV_h hM i0, h, mod_ii h0, fdiv_ii h0 (by omega), putV_h hM p0]
    refine ⟨a % sp, _, ?_, ⟨a / sp, b, c, rfl, ?_, hb, hb2, hc, by omega⟩, hv _⟩
    · rw [take_all (by simp)]
      try rfl
    · exact Int.ediv_nonneg ha (by omega)
  · by_cases hsp : 10000000 < sp
    · obtain ⟨v1, o1, v2, o2, e1, e2, hB2⟩ := hs hsp
      have hmul : mulV (.d (.int 10000000)) (.d (.int v2)) (M.set i o2) = .ok (.d (.int (10000000 * v2))) (M.set i o2) := mul_ii (.inl (by decide))
      simp only [defM, startE, seqS_a, setS_a, bindS_ok, bindS_er, then_nx, then_rt, then_er, ifS_a, ifK_t, ifK_f, retS_a, dropS_a, asgS_a, asK_a, goG_ok, subT_a, nopS_a, getV_0, getV_s, cst_a, op2_a, o2a_ok, o2b_ok, opT_a, oTa_ok, oTb_ok, consA_a, cAa_ok, cAb_ok, nilA_a, callF_a, cFa_ok, callE_a, cEa_ok, newE_a, nwa_ok, datE_a, dta_ok, dispE_a, tupE_a, tpa_ok, asDs_a, datas, bind_ok, pur_ok, bool_b, leave_d, leave_nx, leave_er, ifE_a, ifa_t, ifa_f, notT_a, nta_ok, andT_a, ana_t, ana_f, orT_a, ora_t, ora_f, tstE_a, tsa_b, andE_a, aEa_t, aEa_f, orE_a, oEa_t, oEa_f, notE_a, nEa_ok, add_ii, sub_ii, gt_ii, lt_ii, ge_ii, le_ii, setT_a, consT_a, cTa_ok, nilT_a, tupT_a, seqT_t, seqT_l, forS_a, List.map_cons, List.map_nil, List.length_cons, List.length_nil, Nat.reduceAdd, Nat.reduceSub, Nat.zero_add, Nat.add_zero, List.replicate, List.cons_append, List.nil_append, List.append_nil, List.getElem?_cons_zero, List.getElem?_cons_succ, List.set_cons_zero, List.set_cons_succ, List.getElem?_nil, Option.map_some, Option.map_none, Option.bind_some, if_true, if_false, ite_true, ite_false, eq_self_iff_true, and_self, and_true, true_and, decide_true, decide_false, Bool.false_eq_true, Bool.not_true, Bool.not_false, sizeLine, Nat.reducePow, Nat.reduceLeDiff, Nat.zero_le, pow_7, pow_18, pow_40, ixV_h hM i0, h, hsp, e1, fdiv_ii (show (0 : Int) < 10000000 by decide) (by decide), e2, hmul, mod_ii h0]
      refine ⟨(v1 + 10000000 * v2) % sp, o2, ?_, hB2, hv _⟩
      rw [take_all (by simp)]
    · have j1 : atI [PyData.int a, .int b, .int (c + 1)] 1 = some (.int b) := rfl
      have j2 : atI [PyData.int a, .int b, .int (c + 1)] 2 = some (.int (c + 1)) := rfl
      have hM' := getM (o' := .lst [.int a, .int b, .int (c + 1)]) hM
      have hmul : mulV (.d (.int 39373)) (.d (.int (c + 1))) (M.set i (.lst [.int a, .int b, .int (c + 1)])) = .ok (.d (.int (39373 * (c + 1)))) (M.set i (.lst [.int a, .int b, .int (c + 1)])) := mul_ii (.inl (by decide))
      have hpow : powV (.d (.int (b + 39373 * (c + 1)))) (.d (.int 5)) (M.set i (.lst [.int a, .int b, .int (c + 1)])) = .ok (.d (.int ((b + 39373 * (c + 1)) ^ 5))) (M.set i (.lst [.int a, .int b, .int (c + 1)])) := pow_ii (by decide) (by decide) (by omega)
      generalize hq : (b + 39373 * (c + 1)) ^ 5 % 2147483647 = q at *
      have hq1 : 0 ≤ q := by omega
      have hq2 : q < 2147483647 := by omega
      simp only [defM, startE, seqS_a, setS_a, bindS_ok, bindS_er, then_nx, then_rt, then_er, ifS_a, ifK_t, ifK_f, retS_a, dropS_a, asgS_a, asK_a, goG_ok, subT_a, nopS_a, getV_0, getV_s, cst_a, op2_a, o2a_ok, o2b_ok, opT_a, oTa_ok, oTb_ok, consA_a, cAa_ok, cAb_ok, nilA_a, callF_a, cFa_ok, callE_a, cEa_ok, newE_a, nwa_ok, datE_a, dta_ok, dispE_a, tupE_a, tpa_ok, asDs_a, datas, bind_ok, pur_ok, bool_b, leave_d, leave_nx, leave_er, ifE_a, ifa_t, ifa_f, notT_a, nta_ok, andT_a, ana_t, ana_f, orT_a, ora_t, ora_f, tstE_a, tsa_b, andE_a, aEa_t, aEa_f, orE_a, oEa_t, oEa_f, notE_a, nEa_ok, add_ii, sub_ii, gt_ii, lt_ii, ge_ii, le_ii, setT_a, consT_a, cTa_ok, nilT_a, tupT_a, seqT_t, seqT_l, forS_a, List.map_cons, List.map_nil, List.length_cons, List.length_nil, Nat.reduceAdd, Nat.reduceSub, Nat.zero_add, Nat.add_zero, List.replicate, List.cons_append, List.nil_append, List.append_nil, List.getElem?_cons_zero, List.getElem?_cons_succ, List.set_cons_zero, List.set_cons_succ, List.getElem?_nil, Option.map_some, Option.map_none, Option.bind_some, if_true, if_false, ite_true, ite_false, eq_self_iff_true, and_self, and_true, true_and, decide_true, decide_false, Bool.false_eq_true, Bool.not_true, Bool.not_false, sizeLine, Nat.reducePow, Nat.reduceLeDiff, Nat.zero_le, pow_7, pow_18, pow_40, ixV_h hM i0, ixV_h hM i1, ixV_h hM i2, h, hsp, mod_ii h0, putV_h hM p2, ixV_h hM' j1, ixV_h hM' j2, hmul, hpow, mod_ii (show (0 : Int) < 2147483647 by decide), hq, mod_ii (show (0 : Int) < 40009 by decide), mul_ii (.inl (show -(2 ^ 64) < q ∧ q < 2 ^ 64 by omega)), mul_ii (i := c + 1) (.inr (show -(2 ^ 64) < (7919 : Int) ∧ (7919 : Int) < 2 ^ 64 by decide)), mod_ii (show (0 : Int) < 2147483629 by decide), fdiv_ii (show (0 : Int) < 64 by decide) (by decide)]
      refine ⟨((q * (q % 40009 + 7) + (c + 1) * 7919) % 2147483629 / 64 % sp), .lst [.int a, .int b, .int (c + 1)], ?_, ⟨a, b, c + 1, rfl, ha, hb, hb2, by omega, by omega⟩, hv _⟩
      rw [take_all (by simp)]
theorem take_ok : ∀ (f n i : Nat) (M : Mem) (o : MO) (sp : Int), M[i]? = some o → Bx n o → n + 2 ^ f ≤ 2 ^ 45 → 0 < sp → sp ≤ 10 ^ (7 * (f + 1)) → f < 10 →
    ∃ v o', m_take (f + 1) [.h i, .d (.int sp)] M = .ok (.d (.int v)) (M.set i o') ∧ Bx (n + 2 ^ f) o' ∧ 0 ≤ v ∧ v < sp := by
  intro f
  induction f with
  | zero =>
    intro n i M o sp hM hB hn h0 h1 hf
    exact take_step i n (n + 2 ^ 0) M o sp (m_take 0) hM hB (by omega) (by omega) h0 (by omega) (fun h => by omega)
  | succ f ih =>
    intro n i M o sp hM hB hn h0 h1 hf
    have hp : 0 < 2 ^ f := Nat.pow_pos (by decide)
    have hp2 : 2 ^ (f + 1) = 2 ^ f + 2 ^ f := by rw [Nat.pow_succ]; omega
    have hT : (10 : Int) ^ (7 * (f + 1 + 1)) = 10 ^ (7 * (f + 1)) * 10000000 := by
      rw [show 7 * (f + 1 + 1) = 7 * (f + 1) + 7 by omega, Int.pow_add]
      rfl
    have hT2 : (10000000 : Int) ≤ 10 ^ (7 * (f + 1)) := by
      have : (10 : Nat) ^ 7 ≤ 10 ^ (7 * (f + 1)) := Nat.pow_le_pow_right (by decide) (by omega)
      have e : ((10 ^ (7 * (f + 1)) : Nat) : Int) = (10 : Int) ^ (7 * (f + 1)) := by simp
      omega
    have hT3 : (10 : Int) ^ (7 * (f + 1 + 1)) ≤ 10 ^ 70 := by
      have : (10 : Nat) ^ (7 * (f + 1 + 1)) ≤ 10 ^ 70 := Nat.pow_le_pow_right (by decide) (by omega)
      have e : ((10 ^ (7 * (f + 1 + 1)) : Nat) : Int) = (10 : Int) ^ (7 * (f + 1 + 1)) := by simp
      omega
    refine take_step i n (n + 2 ^ (f + 1)) M o sp (m_take (f + 1)) hM hB (by omega) (by omega) h0 (by omega) (fun hs => ?_)
    obtain ⟨v1, o1, e1, B1, k1, _⟩ := ih n i M o 10000000 hM hB (by omega) (by decide) hT2 (by omega)
    obtain ⟨v2, o2, e2, B2, k2, _⟩ := ih (n + 2 ^ f) i (M.set i o1) o1 ((sp - 1) / 10000000 + 1) (getM hM) B1 (by omega) (by omega) (by omega) (by omega)
    rw [List.set_set] at e2
    exact ⟨v1, o1, v2, o2, e1, e2, by rw [hp2, ← Nat.add_assoc]; exact B2⟩
/-- one draw -/
theorem take10 {n i : Nat} {M : Mem} {o : MO} {sp : Int} (hM : M[i]? = some o) (hB : Bx n o) (hn : n ≤ 2 ^ 44) (h0 : 0 < sp) (h1 : sp ≤ 10 ^ 70) :
    ∃ v o', m_take 10 [.h i, .d (.int sp)] M = .ok (.d (.int v)) (M.set i o') ∧ Bx (n + 512) o' ∧ 0 ≤ v ∧ v < sp :=
  take_ok 9 n i M o sp hM hB (by omega) h0 h1 (by omega)
end C
end DL
namespace DL
open PySem PySem.Spec L2
theorem ixN_nat {n k : Nat} (h : k < n) : ixN n (k : Int) = some k := by
  unfold ixN
  rw [if_pos (by omega), if_pos (by omega)]
  simp
theorem atI_nat {α : Type} {xs : List α} {k : Nat} (h : k < xs.length) : atI xs (k : Int) = some xs[k] := by
  unfold atI
  rw [ixN_nat h]
  simp [h]
theorem methE_at {g : Nat → List PyData → List Vl → Mem → Res Vl} {f : Ev} {h : Evs} {e : Env} {M M2 : Mem} {i : Nat} {xs0 xs : List PyData} {ys : List Vl} (hf : f e M = .ok (.h i) M) (h0 : M[i]? = some (.lst xs0)) (hh : h e M = .ok ys M2) (h2 : M2[i]? = some (.lst xs)) :
    methE g f h e M = (g i xs ys M2).pur := by
  unfold methE
  rw [hf, bind_ok]
  simp only [h0, hh, bind_ok, h2]
theorem pop_at {i k : Nat} {xs : List PyData} {M : Mem} (h : k < xs.length) (hl : xs.length ≤ 2 ^ 62) : popM i xs [.d (.int (k : Nat))] M = .ok (.d xs[k]) (M.set i (.lst (xs.eraseIdx k))) := by
  unfold popM
  simp only [ixN_nat h]
  rw [if_pos ⟨by omega, by omega⟩]
  simp [h]
theorem app_at {i : Nat} {xs : List PyData} {y : PyData} {M : Mem} (h : xs.length < sizeLine) : appM i xs [.d y] M = .ok (.d .none) (M.set i (.lst (xs ++ [y]))) := if_pos h
theorem while_step {c : Env → Mem → Res Bool} {g : Sv} {n : Nat} {e e2 : Env} {M M1 M2 : Mem} (h1 : c e M = .ok true M1) (h2 : g e M1 = .go .nx e2 M2) : whileL c g (n + 1) e M = whileL c g n e2 M2 := by
  show lift c _ e M = _
  rw [lift_eq, h1, bindS_ok, if_pos rfl, h2]
theorem while_end {c : Env → Mem → Res Bool} {g : Sv} {n : Nat} {e : Env} {M M1 : Mem} (h1 : c e M = .ok false M1) : whileL c g (n + 1) e M = .go .nx e M1 := by
  show lift c _ e M = _
  rw [lift_eq, h1, bindS_ok, if_neg Bool.false_ne_true]
theorem forL_cons {γ : Tg} {g : Sv} {x : PyData} {xs : List PyData} {e e1 e2 : Env} {M M1 M2 : Mem} (h1 : γ (.d x) e M = .ok e1 M1) (h2 : g e1 M1 = .go .nx e2 M2) : forL γ g (x :: xs) e M = forL γ g xs e2 M2 := by
  show (match γ (.d x) e M with
    | .ok e1 M1 => _
    | _ => _) = _
  rw [h1]
  simp only [h2]
/-- a loop that keeps something -/
theorem forL_inv {γ : Tg} {g : Sv} (I : Nat → Env → Mem → Prop) (xs : List PyData) : ∀ (j : Nat) (e : Env) (M : Mem), j ≤ xs.length → (∀ (k : Nat) (x : PyData) (e : Env) (M : Mem), j ≤ k → xs[k]? = some x → I k e M → ∃ e1 M1 e2 M2, γ (.d x) e M = .ok e1 M1 ∧ g e1 M1 = .go .nx e2 M2 ∧ I (k + 1) e2 M2) → I j e M →
    ∃ e' M', forL γ g (xs.drop j) e M = .go .nx e' M' ∧ I xs.length e' M' := by
  intro j
  induction hn : xs.length - j generalizing j with
  | zero =>
    intro e M hj _ hI
    have : j = xs.length := by omega
    subst this
    rw [List.drop_length]
    exact ⟨e, M, rfl, hI⟩
  | succ n ih =>
    intro e M hj hs hI
    have hlt : j < xs.length := by omega
    rw [List.drop_eq_getElem_cons hlt]
    obtain ⟨e1, M1, e2, M2, h1, h2, h3⟩ := hs j xs[j] e M (Nat.le_refl _) (List.getElem?_eq_getElem hlt) hI
    rw [forL_cons h1 h2]
    exact ih (j + 1) (by omega) e2 M2 (by omega) (fun k x e M hk => hs k x e M (by omega)) h3
theorem forL_all {γ : Tg} {g : Sv} (I : Nat → Env → Mem → Prop) {xs : List PyData} {e : Env} {M : Mem} (hs : ∀ (k : Nat) (x : PyData) (e : Env) (M : Mem), xs[k]? = some x → I k e M → ∃ e1 M1 e2 M2, γ (.d x) e M = .ok e1 M1 ∧ g e1 M1 = .go .nx e2 M2 ∧ I (k + 1) e2 M2) (h0 : I 0 e M) :
    ∃ e' M', forL γ g xs e M = .go .nx e' M' ∧ I xs.length e' M' := forL_inv I xs 0 e M (Nat.zero_le _) (fun k x e M _ => hs k x e M) h0
/-- a comprehension that keeps something -/
theorem lcL_all {γ : Tg} {t : Env → Mem → Res Bool} {h : Ev} {ew : Env} (I : Nat → Mem → Prop) (P : Nat → PyData → PyData → Prop) (xs : List PyData) : ∀ (j : Nat) (acc : List PyData) (M : Mem), j ≤ xs.length → acc.length + (xs.length - j) ≤ sizeLine →
    (∀ (k : Nat) (x : PyData) (M : Mem), xs[k]? = some x → I k M → ∃ e1 M1 M2 y M3, γ (.d x) ew M = .ok e1 M1 ∧ t e1 M1 = .ok true M2 ∧ h e1 M2 = .ok (.d y) M3 ∧ I (k + 1) M3 ∧ P k x y) → I j M →
    ∃ ys M', lcL γ t h ew (xs.drop j) acc M = .ok (acc ++ ys) M' ∧ I xs.length M' ∧ ys.length = xs.length - j ∧ ∀ k x y, xs[j + k]? = some x → ys[k]? = some y → P (j + k) x y := by
  intro j
  induction hn : xs.length - j generalizing j with
  | zero =>
    intro acc M hj _ _ hI
    have : j = xs.length := by omega
    subst this
    rw [List.drop_length]
    exact ⟨[], M, by rw [List.append_nil]; rfl, hI, rfl, fun k x y _ e => by cases e⟩
  | succ n ih =>
    intro acc M hj hl hs hI
    have hlt : j < xs.length := by omega
    rw [List.drop_eq_getElem_cons hlt]
    obtain ⟨e1, M1, M2, y, M3, h1, h2, h3, h4, h5⟩ := hs j xs[j] M (List.getElem?_eq_getElem hlt) hI
    obtain ⟨ys, M', k1, k2, k3, k4⟩ := ih (j + 1) (by omega) (acc ++ [y]) M3 (by omega) (by rw [List.length_append, List.length_singleton]; omega) hs h4
    refine ⟨y :: ys, M', ?_, k2, by rw [List.length_cons, k3], ?_⟩
    · unfold lcL
      rw [h1]
      simp only [h2, h3]
      rw [if_pos (by omega), k1, List.append_assoc]
      rfl
    · intro k x z e1 e2
      cases k with
      | zero =>
        rw [Nat.add_zero] at e1 ⊢
        rw [List.getElem?_eq_getElem hlt] at e1
        cases e1
        cases e2
        exact h5
      | succ k =>
        have := k4 k x z (by rw [show j + 1 + k = j + (k + 1) by omega]; exact e1) e2
        rw [show j + (k + 1) = j + 1 + k by omega]
        exact this
/-- a comprehension without side effects -/
theorem lcL_map {γ : Tg} {t : Env → Mem → Res Bool} {h : Ev} {ew : Env} {M : Mem} (F : PyData → PyData) : ∀ (xs acc : List PyData), acc.length + xs.length ≤ sizeLine → (∀ x ∈ xs, ∃ e1, γ (.d x) ew M = .ok e1 M ∧ t e1 M = .ok true M ∧ h e1 M = .ok (.d (F x)) M) →
    lcL γ t h ew xs acc M = .ok (acc ++ xs.map F) M
  | [], acc, _, _ => by rw [List.map_nil, List.append_nil]; rfl
  | x :: xs, acc, hl, hs => by
    obtain ⟨e1, h1, h2, h3⟩ := hs x List.mem_cons_self
    rw [List.length_cons] at hl
    unfold lcL
    rw [h1]
    simp only [h2, h3]
    rw [if_pos (by omega), lcL_map F xs (acc ++ [F x]) (by rw [List.length_append, List.length_singleton]; omega) fun y hy => hs y (List.mem_cons_of_mem _ hy), List.append_assoc]
    rfl
section
variable {M : Mem} {a b x o : MO} {i L : Nat}
theorem m2_get (hi : i < M.length) : (M ++ [a, b])[i]? = M[i]? := List.getElem?_append_left hi
theorem m2_a (hL : L = M.length) : (M ++ [a, b])[L]? = some a := by subst hL; simp
theorem m2_b (hL : L = M.length) : (M ++ [a, b])[L + 1]? = some b := by subst hL; simp
theorem m2_set (hi : i < M.length) : (M ++ [a, b]).set i x = M.set i x ++ [a, b] := by rw [List.set_append_left _ _ hi]
theorem m2_sa (hL : L = M.length) : (M ++ [a, b]).set L x = M ++ [x, b] := by subst hL; rw [List.set_append_right _ _ (Nat.le_refl _)]; simp
theorem m2_sb (hL : L = M.length) : (M ++ [a, b]).set (L + 1) x = M ++ [a, x] := by subst hL; rw [List.set_append_right _ _ (by omega)]; simp
theorem m1_a (hL : L = M.length) : (M ++ [a])[L]? = some a := by subst hL; simp
theorem m1_sa (hL : L = M.length) : (M ++ [a]).set L x = M ++ [x] := by subst hL; rw [List.set_append_right _ _ (Nat.le_refl _)]; simp
theorem lt_of_get (h : M[i]? = some o) : i < M.length := by
  by_cases hi : i < M.length
  · exact hi
  · rw [List.getElem?_eq_none (by omega)] at h; cases h
end
theorem lt_of_getL {α : Type} {xs : List α} {i : Nat} {x : α} (h : xs[i]? = some x) : i < xs.length := by
  by_cases hi : i < xs.length
  · exact hi
  · rw [List.getElem?_eq_none (by omega)] at h; cases h
theorem perm_erase {α : Type} : ∀ (l : List α) (k : Nat) (h : k < l.length), (l[k] :: l.eraseIdx k).Perm l
  | x :: l, 0, _ => by simp
  | x :: l, k + 1, h => by
    rw [List.getElem_cons_succ, List.eraseIdx_cons_succ]
    exact (List.Perm.swap x _ _).trans (List.Perm.cons x (perm_erase l k (by simpa using h)))
theorem canLayAll_iff : ∀ xs : List PyData, PyData.canLayAll0 xs = true ↔ ∀ x ∈ xs, PyData.canLay0 x = true
  | [] => by simp [PyData.canLayAll0]
  | x :: xs => by simp [PyData.canLayAll0, canLayAll_iff xs]
theorem eqvAll_nil (xs : List PyData) : PyData.eqvAll xs [] = xs.isEmpty := by cases xs <;> simp [PyData.eqvAll]
/-- a list beside the empty list -/
theorem ne_nil {a : Vl} {xs : List PyData} {M : Mem} (h : datOf M a = some (.list xs)) (hc : ∀ x ∈ xs, x.canLay0 = true) : neV a (.d (.list [])) M = .ok (.d (.bool (!xs.isEmpty))) M := by
  unfold neV
  rw [h]
  show neD (.list xs) (.list []) M = _
  have h1 : (PyData.list xs).canLay0 = true := by rw [PyData.canLay0]; exact (canLayAll_iff xs).mpr hc
  have h2 : (PyData.list []).canLay0 = true := rfl
  have h3 : (PyData.list []).depth = 1 := rfl
  refine (if_pos (by unfold eqOk; rw [h1, h2, h3]; simp; omega)).trans ?_
  rw [PyData.eqv, eqvAll_nil]
theorem len_at {x : Vl} {xs : List PyData} {M : Mem} (h : seqOf M x = some xs) : lenV [x] M = .ok (.d (.int (xs.length : Nat))) M := by
  cases x with
  | d y =>
    cases y with
    | str z => simp [seqOf, tupOf, rdOf, lstOf] at h
    | _ => simp only [lenV, h]
  | _ => simp only [lenV, h]
theorem len_l {xs : List PyData} {M : Mem} : lenV [.d (.list xs)] M = .ok (.d (.int (xs.length : Nat))) M := len_at rfl
theorem len_t {xs : List PyData} {M : Mem} : lenV [.d (.tuple xs)] M = .ok (.d (.int (xs.length : Nat))) M := len_at rfl
theorem len_s {xs : List PyData} {M : Mem} : lenV [.s xs] M = .ok (.d (.int (xs.length : Nat))) M := len_at rfl
theorem len_h {i : Nat} {xs : List PyData} {M : Mem} (h : M[i]? = some (.lst xs)) : lenV [.h i] M = .ok (.d (.int (xs.length : Nat))) M := len_at (by simp [seqOf, tupOf, rdOf, lstOf, h])
namespace C
/-- one of several -/
theorem of_ok {n i : Nat} {M : Mem} {o : MO} {xs : List PyData} (hM : M[i]? = some o) (hB : Bx n o) (hn : n ≤ 2 ^ 44) (h0 : xs ≠ []) (h1 : xs.length ≤ 2 ^ 60) :
    ∃ d o', m_of [.h i, .d (.list xs)] M = .ok (.d d) (M.set i o') ∧ Bx (n + 512) o' ∧ d ∈ xs := by
  have hl : 0 < xs.length := List.length_pos_iff.mpr h0
  obtain ⟨v, o', e, B, k1, k2⟩ := take10 (sp := (xs.length : Nat)) hM hB hn (by omega) (by omega)
  obtain ⟨k, rfl⟩ := Int.eq_ofNat_of_zero_le k1
  have hk : k < xs.length := by omega
  refine ⟨xs[k], o', ?_, B, List.getElem_mem hk⟩
  unfold m_of g_of
  simp only [defM, startE, seqS_a, setS_a, bindS_ok, bindS_er, then_nx, then_rt, then_er, ifS_a, ifK_t, ifK_f, retS_a, dropS_a, asgS_a, asK_a, goG_ok, subT_a, nopS_a, getV_0, getV_s, cst_a, op2_a, o2a_ok, o2b_ok, opT_a, oTa_ok, oTb_ok, consA_a, cAa_ok, cAb_ok, nilA_a, callF_a, cFa_ok, callE_a, cEa_ok, newE_a, nwa_ok, datE_a, dta_ok, dispE_a, tupE_a, tpa_ok, asDs_a, datas, bind_ok, pur_ok, bool_b, leave_d, leave_nx, leave_er, ifE_a, ifa_t, ifa_f, notT_a, nta_ok, andT_a, ana_t, ana_f, orT_a, ora_t, ora_f, tstE_a, tsa_b, andE_a, aEa_t, aEa_f, orE_a, oEa_t, oEa_f, notE_a, nEa_ok, add_ii, sub_ii, gt_ii, lt_ii, ge_ii, le_ii, setT_a, consT_a, cTa_ok, nilT_a, tupT_a, seqT_t, seqT_l, forS_a, List.map_cons, List.map_nil, List.length_cons, List.length_nil, Nat.reduceAdd, Nat.reduceSub, Nat.zero_add, Nat.add_zero, List.replicate, List.cons_append, List.nil_append, List.append_nil, List.getElem?_cons_zero, List.getElem?_cons_succ, List.set_cons_zero, List.set_cons_succ, List.getElem?_nil, Option.map_some, Option.map_none, Option.bind_some, if_true, if_false, ite_true, ite_false, eq_self_iff_true, and_self, and_true, true_and, decide_true, decide_false, Bool.false_eq_true, Bool.not_true, Bool.not_false, sizeLine, Nat.reducePow, Nat.reduceLeDiff, Nat.zero_le, pow_7, pow_18, pow_40, len_l, e, ixV_l (atI_nat hk)]
  rw [take_all (by simp)]
theorem numD_get {ys : List PyData} {j : Nat} {x : PyData} (h : (numD ys)[j]? = some x) : ∃ y, ys[j]? = some y ∧ x = .tuple [.int (j : Nat), y] := by
  unfold numD at h
  rw [List.getElem?_map, List.getElem?_zipIdx] at h
  cases q : ys[j]? with
  | none => rw [q] at h; cases h
  | some y =>
    rw [q] at h
    cases h
    exact ⟨y, rfl, by simp⟩
theorem slE_s {f : Ev} {a b : Eo} {e : Env} {M : Mem} {xs : List PyData} {lo hi : Option Int} (hf : f e M = .ok (.s xs) M) (ha : a e M = .ok lo M) (hb : b e M = .ok hi M) : slE f a b e M = .ok (.d (.list (cutD xs lo hi))) M := by
  unfold slE
  rw [hf, bind_ok, ha, bind_ok, hb, bind_ok]
  rfl
theorem someP_a {f : Ev} {e : Env} {M : Mem} {i : Int} (h : f e M = .ok (.d (.int i)) M) : someP f e M = .ok (some i) M := by
  unfold someP
  rw [h, bind_ok]
theorem cut_to {xs : List PyData} {k : Nat} : cutD xs none (some (k : Int)) = xs.take k := by
  unfold cutD
  rw [HT.sIx_none, HT.sIx_nat, List.drop_zero, Nat.sub_zero, ← List.take_eq_take_min]
theorem cut_nn {xs : List PyData} {k l : Nat} : cutD xs (some (k : Int)) (some (l : Int)) = (xs.drop (min k xs.length)).take (min l xs.length - min k xs.length) := by
  unfold cutD
  rw [HT.sIx_nat, HT.sIx_nat]
theorem enumI_a {f : Ev} {e : Env} {M M1 : Mem} {x : Vl} {xs : List PyData} (h : f e M = .ok x M1) (hx : walkOf x = some xs) (hl : xs.length ≤ 2 ^ 20) : enumI f e M = .ok (numD xs) M1 := by
  unfold enumI
  rw [h, bind_ok]
  simp only [hx]
  try rfl
/-- the numbers of the script, as they are drawn from -/
theorem cells_ok {ns : List Int} {k : Nat} (hk : 0 < k) (hk2 : k ≤ 63) (hn : ns.length ≤ 63) {M : Mem} :
    ∃ cs : List Int, m_cells [.s (ns.map PyData.int), .d (.int (k : Nat))] M = .ok (.d (.list (cs.map PyData.int))) M ∧ cs ≠ [] ∧ cs.length ≤ k := by
  have hcan : ∀ cs : List Int, ∀ x ∈ cs.map PyData.int, x.canLay0 = true := fun cs x hx => by
    obtain ⟨i, _, rfl⟩ := List.mem_map.mp hx
    rfl
  generalize hys : ((ns.map PyData.int).drop (min k (ns.map PyData.int).length)).take (min 63 (ns.map PyData.int).length - min k (ns.map PyData.int).length) = ys
  have hyl : ys.length ≤ 63 := by rw [← hys, List.length_take]; omega
  obtain ⟨e', M', el, cs, v3, v4, rfl, rfl, hl⟩ := forL_all (γ := tupT 2 (consT (setT 3) (consT (setT 4) nilT)))
    (g := asgS (op2 addV (op2 ixV (getV 2) (op2 modV (getV 3) (getV 1))) (op2 mulV (getV 4) (op2 addV (getV 3) (cst (.d (.int 2)))))) (subT (getV 2) (op2 modV (getV 3) (getV 1))))
    (fun j e M2 => ∃ (cs : List Int) (v3 v4 : Option Vl), e = [some (.s (ns.map PyData.int)), some (.d (.int (k : Nat))), some (.h M.length), v3, v4] ∧ M2 = M ++ [.lst (cs.map PyData.int)] ∧ cs.length = min k ns.length)
    (xs := numD ys) (e := [some (.s (ns.map PyData.int)), some (.d (.int (k : Nat))), some (.h M.length), none, none]) (M := M ++ [.lst ((ns.take k).map PyData.int)])
    (by
      rintro j x e M2 hx ⟨cs, v3, v4, rfl, rfl, hl⟩
      obtain ⟨y, hy, rfl⟩ := numD_get hx
      have hj : j < ys.length := lt_of_getL hy
      rw [← hys] at hy
      have hkn : k < ns.length := by
        rw [← hys, List.length_take, List.length_drop, List.length_map] at hj
        omega
      rw [List.getElem?_take, List.getElem?_drop, List.getElem?_map] at hy
      split at hy
      · obtain ⟨c, hc, rfl⟩ := Option.map_eq_some_iff.mp hy
        have hjk : j % k < cs.length := by
          have := Nat.mod_lt j hk
          omega
        have hjk' : j % k < (cs.map PyData.int).length := by simpa using hjk
        have hmod : modV (.d (.int (j : Nat))) (.d (.int (k : Nat))) (M ++ [.lst (cs.map PyData.int)]) = .ok (.d (.int ((j % k : Nat) : Int))) (M ++ [.lst (cs.map PyData.int)]) := by
          rw [mod_ii (by omega)]
          rfl
        have hix := ixV_h (M := M ++ [.lst (cs.map PyData.int)]) (m1_a rfl) (atI_nat hjk')
        rw [List.getElem_map] at hix
        have hput := putV_h (e := [some (.s (ns.map PyData.int)), some (.d (.int (k : Nat))), some (.h M.length), some (.d (.int (j : Nat))), some (.d (.int c))]) (M := M ++ [.lst (cs.map PyData.int)]) (y := .int (cs[j % k] + c * ((j : Int) + 2))) (m1_a rfl) (ixN_nat hjk')
        rw [m1_sa rfl] at hput
        refine ⟨[some (.s (ns.map PyData.int)), some (.d (.int (k : Nat))), some (.h M.length), some (.d (.int (j : Nat))), some (.d (.int c))], M ++ [.lst (cs.map PyData.int)], [some (.s (ns.map PyData.int)), some (.d (.int (k : Nat))), some (.h M.length), some (.d (.int (j : Nat))), some (.d (.int c))], M ++ [.lst ((cs.set (j % k) (cs[j % k] + c * ((j : Int) + 2))).map PyData.int)], ?_, ?_, cs.set (j % k) (cs[j % k] + c * ((j : Int) + 2)), _, _, rfl, rfl, by rw [List.length_set]; exact hl⟩
        · simp only [defM, startE, seqS_a, setS_a, bindS_ok, bindS_er, then_nx, then_rt, then_er, ifS_a, ifK_t, ifK_f, retS_a, dropS_a, asgS_a, asK_a, goG_ok, subT_a, nopS_a, getV_0, getV_s, cst_a, op2_a, o2a_ok, o2b_ok, opT_a, oTa_ok, oTb_ok, consA_a, cAa_ok, cAb_ok, nilA_a, callF_a, cFa_ok, callE_a, cEa_ok, newE_a, nwa_ok, datE_a, dta_ok, dispE_a, tupE_a, tpa_ok, asDs_a, datas, bind_ok, pur_ok, bool_b, leave_d, leave_nx, leave_er, ifE_a, ifa_t, ifa_f, notT_a, nta_ok, andT_a, ana_t, ana_f, orT_a, ora_t, ora_f, tstE_a, tsa_b, andE_a, aEa_t, aEa_f, orE_a, oEa_t, oEa_f, notE_a, nEa_ok, add_ii, sub_ii, gt_ii, lt_ii, ge_ii, le_ii, setT_a, consT_a, cTa_ok, nilT_a, tupT_a, seqT_t, seqT_l, forS_a, List.map_cons, List.map_nil, List.length_cons, List.length_nil, Nat.reduceAdd, Nat.reduceSub, Nat.zero_add, Nat.add_zero, List.replicate, List.cons_append, List.nil_append, List.append_nil, List.getElem?_cons_zero, List.getElem?_cons_succ, List.set_cons_zero, List.set_cons_succ, List.getElem?_nil, Option.map_some, Option.map_none, Option.bind_some, if_true, if_false, ite_true, ite_false, eq_self_iff_true, and_self, and_true, true_and, decide_true, decide_false, Bool.false_eq_true, Bool.not_true, Bool.not_false, sizeLine, Nat.reducePow, Nat.reduceLeDiff, Nat.zero_le, pow_7, pow_18, pow_40]
        · simp only [defM, startE, seqS_a, setS_a, bindS_ok, bindS_er, then_nx, then_rt, then_er, ifS_a, ifK_t, ifK_f, retS_a, dropS_a, asgS_a, asK_a, goG_ok, subT_a, nopS_a, getV_0, getV_s, cst_a, op2_a, o2a_ok, o2b_ok, opT_a, oTa_ok, oTb_ok, consA_a, cAa_ok, cAb_ok, nilA_a, callF_a, cFa_ok, callE_a, cEa_ok, newE_a, nwa_ok, datE_a, dta_ok, dispE_a, tupE_a, tpa_ok, asDs_a, datas, bind_ok, pur_ok, bool_b, leave_d, leave_nx, leave_er, ifE_a, ifa_t, ifa_f, notT_a, nta_ok, andT_a, ana_t, ana_f, orT_a, ora_t, ora_f, tstE_a, tsa_b, andE_a, aEa_t, aEa_f, orE_a, oEa_t, oEa_f, notE_a, nEa_ok, add_ii, sub_ii, gt_ii, lt_ii, ge_ii, le_ii, setT_a, consT_a, cTa_ok, nilT_a, tupT_a, seqT_t, seqT_l, forS_a, List.map_cons, List.map_nil, List.length_cons, List.length_nil, Nat.reduceAdd, Nat.reduceSub, Nat.zero_add, Nat.add_zero, List.replicate, List.cons_append, List.nil_append, List.append_nil, List.getElem?_cons_zero, List.getElem?_cons_succ, List.set_cons_zero, List.set_cons_succ, List.getElem?_nil, Option.map_some, Option.map_none, Option.bind_some, if_true, if_false, ite_true, ite_false, eq_self_iff_true, and_self, and_true, true_and, decide_true, decide_false, Bool.false_eq_true, Bool.not_true, Bool.not_false, sizeLine, Nat.reducePow, Nat.reduceLeDiff, Nat.zero_le, pow_7, pow_18, pow_40, hmod, hix, mul_ii (i := c) (j := (j : Int) + 2) (.inr (by omega)), hput, List.map_set]
      · cases hy)
    ⟨ns.take k, none, none, rfl, rfl, by simp⟩
  have h1 : slE (getV 0) noP (someP (getV 1)) [some (.s (ns.map PyData.int)), some (.d (.int (k : Nat))), none, none, none] M = .ok (.d (.list ((ns.take k).map PyData.int))) M := by
    rw [slE_s (xs := ns.map PyData.int) (lo := none) (hi := some (k : Int)) (by simp only [defM, startE, seqS_a, setS_a, bindS_ok, bindS_er, then_nx, then_rt, then_er, ifS_a, ifK_t, ifK_f, retS_a, dropS_a, asgS_a, asK_a, goG_ok, subT_a, nopS_a, getV_0, getV_s, cst_a, op2_a, o2a_ok, o2b_ok, opT_a, oTa_ok, oTb_ok, consA_a, cAa_ok, cAb_ok, nilA_a, callF_a, cFa_ok, callE_a, cEa_ok, newE_a, nwa_ok, datE_a, dta_ok, dispE_a, tupE_a, tpa_ok, asDs_a, datas, bind_ok, pur_ok, bool_b, leave_d, leave_nx, leave_er, ifE_a, ifa_t, ifa_f, notT_a, nta_ok, andT_a, ana_t, ana_f, orT_a, ora_t, ora_f, tstE_a, tsa_b, andE_a, aEa_t, aEa_f, orE_a, oEa_t, oEa_f, notE_a, nEa_ok, add_ii, sub_ii, gt_ii, lt_ii, ge_ii, le_ii, setT_a, consT_a, cTa_ok, nilT_a, tupT_a, seqT_t, seqT_l, forS_a, List.map_cons, List.map_nil, List.length_cons, List.length_nil, Nat.reduceAdd, Nat.reduceSub, Nat.zero_add, Nat.add_zero, List.replicate, List.cons_append, List.nil_append, List.append_nil, List.getElem?_cons_zero, List.getElem?_cons_succ, List.set_cons_zero, List.set_cons_succ, List.getElem?_nil, Option.map_some, Option.map_none, Option.bind_some, if_true, if_false, ite_true, ite_false, eq_self_iff_true, and_self, and_true, true_and, decide_true, decide_false, Bool.false_eq_true, Bool.not_true, Bool.not_false, sizeLine, Nat.reducePow, Nat.reduceLeDiff, Nat.zero_le, pow_7, pow_18, pow_40]) rfl (someP_a (by simp only [defM, startE, seqS_a, setS_a, bindS_ok, bindS_er, then_nx, then_rt, then_er, ifS_a, ifK_t, ifK_f, retS_a, dropS_a, asgS_a, asK_a, goG_ok, subT_a, nopS_a, getV_0, getV_s, cst_a, op2_a, o2a_ok, o2b_ok, opT_a, oTa_ok, oTb_ok, consA_a, cAa_ok, cAb_ok, nilA_a, callF_a, cFa_ok, callE_a, cEa_ok, newE_a, nwa_ok, datE_a, dta_ok, dispE_a, tupE_a, tpa_ok, asDs_a, datas, bind_ok, pur_ok, bool_b, leave_d, leave_nx, leave_er, ifE_a, ifa_t, ifa_f, notT_a, nta_ok, andT_a, ana_t, ana_f, orT_a, ora_t, ora_f, tstE_a, tsa_b, andE_a, aEa_t, aEa_f, orE_a, oEa_t, oEa_f, notE_a, nEa_ok, add_ii, sub_ii, gt_ii, lt_ii, ge_ii, le_ii, setT_a, consT_a, cTa_ok, nilT_a, tupT_a, seqT_t, seqT_l, forS_a, List.map_cons, List.map_nil, List.length_cons, List.length_nil, Nat.reduceAdd, Nat.reduceSub, Nat.zero_add, Nat.add_zero, List.replicate, List.cons_append, List.nil_append, List.append_nil, List.getElem?_cons_zero, List.getElem?_cons_succ, List.set_cons_zero, List.set_cons_succ, List.getElem?_nil, Option.map_some, Option.map_none, Option.bind_some, if_true, if_false, ite_true, ite_false, eq_self_iff_true, and_self, and_true, true_and, decide_true, decide_false, Bool.false_eq_true, Bool.not_true, Bool.not_false, sizeLine, Nat.reducePow, Nat.reduceLeDiff, Nat.zero_le, pow_7, pow_18, pow_40])), cut_to, List.map_take]
  have h2 : ∀ N : Mem, slE (getV 0) (someP (getV 1)) (someP (cst (.d (.int 63)))) [some (.s (ns.map PyData.int)), some (.d (.int (k : Nat))), some (.h M.length), none, none] N = .ok (.d (.list ys)) N := fun N => by
    rw [slE_s (xs := ns.map PyData.int) (lo := some (k : Int)) (hi := some ((63 : Nat) : Int)) (by simp only [defM, startE, seqS_a, setS_a, bindS_ok, bindS_er, then_nx, then_rt, then_er, ifS_a, ifK_t, ifK_f, retS_a, dropS_a, asgS_a, asK_a, goG_ok, subT_a, nopS_a, getV_0, getV_s, cst_a, op2_a, o2a_ok, o2b_ok, opT_a, oTa_ok, oTb_ok, consA_a, cAa_ok, cAb_ok, nilA_a, callF_a, cFa_ok, callE_a, cEa_ok, newE_a, nwa_ok, datE_a, dta_ok, dispE_a, tupE_a, tpa_ok, asDs_a, datas, bind_ok, pur_ok, bool_b, leave_d, leave_nx, leave_er, ifE_a, ifa_t, ifa_f, notT_a, nta_ok, andT_a, ana_t, ana_f, orT_a, ora_t, ora_f, tstE_a, tsa_b, andE_a, aEa_t, aEa_f, orE_a, oEa_t, oEa_f, notE_a, nEa_ok, add_ii, sub_ii, gt_ii, lt_ii, ge_ii, le_ii, setT_a, consT_a, cTa_ok, nilT_a, tupT_a, seqT_t, seqT_l, forS_a, List.map_cons, List.map_nil, List.length_cons, List.length_nil, Nat.reduceAdd, Nat.reduceSub, Nat.zero_add, Nat.add_zero, List.replicate, List.cons_append, List.nil_append, List.append_nil, List.getElem?_cons_zero, List.getElem?_cons_succ, List.set_cons_zero, List.set_cons_succ, List.getElem?_nil, Option.map_some, Option.map_none, Option.bind_some, if_true, if_false, ite_true, ite_false, eq_self_iff_true, and_self, and_true, true_and, decide_true, decide_false, Bool.false_eq_true, Bool.not_true, Bool.not_false, sizeLine, Nat.reducePow, Nat.reduceLeDiff, Nat.zero_le, pow_7, pow_18, pow_40]) (someP_a (by simp only [defM, startE, seqS_a, setS_a, bindS_ok, bindS_er, then_nx, then_rt, then_er, ifS_a, ifK_t, ifK_f, retS_a, dropS_a, asgS_a, asK_a, goG_ok, subT_a, nopS_a, getV_0, getV_s, cst_a, op2_a, o2a_ok, o2b_ok, opT_a, oTa_ok, oTb_ok, consA_a, cAa_ok, cAb_ok, nilA_a, callF_a, cFa_ok, callE_a, cEa_ok, newE_a, nwa_ok, datE_a, dta_ok, dispE_a, tupE_a, tpa_ok, asDs_a, datas, bind_ok, pur_ok, bool_b, leave_d, leave_nx, leave_er, ifE_a, ifa_t, ifa_f, notT_a, nta_ok, andT_a, ana_t, ana_f, orT_a, ora_t, ora_f, tstE_a, tsa_b, andE_a, aEa_t, aEa_f, orE_a, oEa_t, oEa_f, notE_a, nEa_ok, add_ii, sub_ii, gt_ii, lt_ii, ge_ii, le_ii, setT_a, consT_a, cTa_ok, nilT_a, tupT_a, seqT_t, seqT_l, forS_a, List.map_cons, List.map_nil, List.length_cons, List.length_nil, Nat.reduceAdd, Nat.reduceSub, Nat.zero_add, Nat.add_zero, List.replicate, List.cons_append, List.nil_append, List.append_nil, List.getElem?_cons_zero, List.getElem?_cons_succ, List.set_cons_zero, List.set_cons_succ, List.getElem?_nil, Option.map_some, Option.map_none, Option.bind_some, if_true, if_false, ite_true, ite_false, eq_self_iff_true, and_self, and_true, true_and, decide_true, decide_false, Bool.false_eq_true, Bool.not_true, Bool.not_false, sizeLine, Nat.reducePow, Nat.reduceLeDiff, Nat.zero_le, pow_7, pow_18, pow_40])) (someP_a (by simp only [defM, startE, seqS_a, setS_a, bindS_ok, bindS_er, then_nx, then_rt, then_er, ifS_a, ifK_t, ifK_f, retS_a, dropS_a, asgS_a, asK_a, goG_ok, subT_a, nopS_a, getV_0, getV_s, cst_a, op2_a, o2a_ok, o2b_ok, opT_a, oTa_ok, oTb_ok, consA_a, cAa_ok, cAb_ok, nilA_a, callF_a, cFa_ok, callE_a, cEa_ok, newE_a, nwa_ok, datE_a, dta_ok, dispE_a, tupE_a, tpa_ok, asDs_a, datas, bind_ok, pur_ok, bool_b, leave_d, leave_nx, leave_er, ifE_a, ifa_t, ifa_f, notT_a, nta_ok, andT_a, ana_t, ana_f, orT_a, ora_t, ora_f, tstE_a, tsa_b, andE_a, aEa_t, aEa_f, orE_a, oEa_t, oEa_f, notE_a, nEa_ok, add_ii, sub_ii, gt_ii, lt_ii, ge_ii, le_ii, setT_a, consT_a, cTa_ok, nilT_a, tupT_a, seqT_t, seqT_l, forS_a, List.map_cons, List.map_nil, List.length_cons, List.length_nil, Nat.reduceAdd, Nat.reduceSub, Nat.zero_add, Nat.add_zero, List.replicate, List.cons_append, List.nil_append, List.append_nil, List.getElem?_cons_zero, List.getElem?_cons_succ, List.set_cons_zero, List.set_cons_succ, List.getElem?_nil, Option.map_some, Option.map_none, Option.bind_some, if_true, if_false, ite_true, ite_false, eq_self_iff_true, and_self, and_true, true_and, decide_true, decide_false, Bool.false_eq_true, Bool.not_true, Bool.not_false, sizeLine, Nat.reducePow, Nat.reduceLeDiff, Nat.zero_le, pow_7, pow_18, pow_40]; rfl)), cut_nn, hys]
  have fz := freeze_at (i := 2) (e := [some (.s (ns.map PyData.int)), some (.d (.int (k : Nat))), some (.h M.length), v3, v4]) (M := M ++ [.lst (cs.map PyData.int)]) rfl (m1_a rfl)
  rw [m1_sa rfl] at fz
  unfold m_cells g_cells
  by_cases hc : cs = []
  · subst hc
    refine ⟨[0], ?_, by simp, by simp; omega⟩
    rw [List.map_nil] at el fz
    simp only [defM, startE, seqS_a, setS_a, bindS_ok, bindS_er, then_nx, then_rt, then_er, ifS_a, ifK_t, ifK_f, retS_a, dropS_a, asgS_a, asK_a, goG_ok, subT_a, nopS_a, getV_0, getV_s, cst_a, op2_a, o2a_ok, o2b_ok, opT_a, oTa_ok, oTb_ok, consA_a, cAa_ok, cAb_ok, nilA_a, callF_a, cFa_ok, callE_a, cEa_ok, newE_a, nwa_ok, datE_a, dta_ok, dispE_a, tupE_a, tpa_ok, asDs_a, datas, bind_ok, pur_ok, bool_b, leave_d, leave_nx, leave_er, ifE_a, ifa_t, ifa_f, notT_a, nta_ok, andT_a, ana_t, ana_f, orT_a, ora_t, ora_f, tstE_a, tsa_b, andE_a, aEa_t, aEa_f, orE_a, oEa_t, oEa_f, notE_a, nEa_ok, add_ii, sub_ii, gt_ii, lt_ii, ge_ii, le_ii, setT_a, consT_a, cTa_ok, nilT_a, tupT_a, seqT_t, seqT_l, forS_a, List.map_cons, List.map_nil, List.length_cons, List.length_nil, Nat.reduceAdd, Nat.reduceSub, Nat.zero_add, Nat.add_zero, List.replicate, List.cons_append, List.nil_append, List.append_nil, List.getElem?_cons_zero, List.getElem?_cons_succ, List.set_cons_zero, List.set_cons_succ, List.getElem?_nil, Option.map_some, Option.map_none, Option.bind_some, if_true, if_false, ite_true, ite_false, eq_self_iff_true, and_self, and_true, true_and, decide_true, decide_false, Bool.false_eq_true, Bool.not_true, Bool.not_false, sizeLine, Nat.reducePow, Nat.reduceLeDiff, Nat.zero_le, pow_7, pow_18, pow_40, listE_a h1 rfl, enumI_a (h2 _) rfl (by omega), el, fz, ne_nil (M := M ++ [.gone]) (a := .d (.list [])) (xs := []) rfl (by simp), List.isEmpty_nil]
    rw [List.take_append_of_le_length (by simp), take_all (by simp)]
  · have hce : (cs.map PyData.int).isEmpty = false := by cases cs with
      | nil => exact absurd rfl hc
      | cons _ _ => rfl
    refine ⟨cs, ?_, hc, by omega⟩
    simp only [defM, startE, seqS_a, setS_a, bindS_ok, bindS_er, then_nx, then_rt, then_er, ifS_a, ifK_t, ifK_f, retS_a, dropS_a, asgS_a, asK_a, goG_ok, subT_a, nopS_a, getV_0, getV_s, cst_a, op2_a, o2a_ok, o2b_ok, opT_a, oTa_ok, oTb_ok, consA_a, cAa_ok, cAb_ok, nilA_a, callF_a, cFa_ok, callE_a, cEa_ok, newE_a, nwa_ok, datE_a, dta_ok, dispE_a, tupE_a, tpa_ok, asDs_a, datas, bind_ok, pur_ok, bool_b, leave_d, leave_nx, leave_er, ifE_a, ifa_t, ifa_f, notT_a, nta_ok, andT_a, ana_t, ana_f, orT_a, ora_t, ora_f, tstE_a, tsa_b, andE_a, aEa_t, aEa_f, orE_a, oEa_t, oEa_f, notE_a, nEa_ok, add_ii, sub_ii, gt_ii, lt_ii, ge_ii, le_ii, setT_a, consT_a, cTa_ok, nilT_a, tupT_a, seqT_t, seqT_l, forS_a, List.map_cons, List.map_nil, List.length_cons, List.length_nil, Nat.reduceAdd, Nat.reduceSub, Nat.zero_add, Nat.add_zero, List.replicate, List.cons_append, List.nil_append, List.append_nil, List.getElem?_cons_zero, List.getElem?_cons_succ, List.set_cons_zero, List.set_cons_succ, List.getElem?_nil, Option.map_some, Option.map_none, Option.bind_some, if_true, if_false, ite_true, ite_false, eq_self_iff_true, and_self, and_true, true_and, decide_true, decide_false, Bool.false_eq_true, Bool.not_true, Bool.not_false, sizeLine, Nat.reducePow, Nat.reduceLeDiff, Nat.zero_le, pow_7, pow_18, pow_40, listE_a h1 rfl, enumI_a (h2 _) rfl (by omega), el, fz, ne_nil (M := M ++ [.gone]) (a := .d (.list (cs.map PyData.int))) rfl (hcan cs), hce]
    rw [List.take_append_of_le_length (by simp), take_all (by simp)]
end C
end DL
namespace DL
open PySem PySem.Spec L2
theorem abs_i {i : Int} {M : Mem} : DL.absV [.d (.int i)] M = .ok (.d (.int (if i < 0 then -i else i))) M := Eq.trans rfl rfl
theorem int_b {b : Bool} {M : Mem} : intV [.d (.bool b)] M = .ok (.d (.int (if b then 1 else 0))) M := Eq.trans rfl rfl
theorem eq_ii {i j : Int} {M : Mem} : eqV (.d (.int i)) (.d (.int j)) M = .ok (.d (.bool (i == j))) M := Eq.trans rfl rfl
theorem ne_ii {i j : Int} {M : Mem} : neV (.d (.int i)) (.d (.int j)) M = .ok (.d (.bool (!(i == j)))) M := Eq.trans rfl rfl
theorem is_nn {M : Mem} : isV (.d .none) (.d .none) M = .ok (.d (.bool true)) M := Eq.trans rfl rfl
theorem is_n {x : PyData} {M : Mem} : isV (.d x) (.d .none) M = .ok (.d (.bool (match x with | .none => true | _ => false))) M := by cases x <;> rfl
theorem lcE_at {vs : List Nat} {fi : Ei} {γ : Tg} {t : Env → Mem → Res Bool} {h : Ev} {e : Env} {M M1 : Mem} {xs : List PyData} (hf : fi e M = .ok xs M1) : lcE vs fi γ t h e M = lcL γ t h (ewipe e vs) xs [] M1 := by
  unfold lcE
  rw [hf, bind_ok]
theorem seqI_a {f : Ev} {e : Env} {M M1 : Mem} {x : Vl} {xs : List PyData} (h : f e M = .ok x M1) (hx : walkOf x = some xs) : seqI f e M = .ok xs M1 := by
  unfold seqI
  rw [h, bind_ok]
  simp only [hx]
theorem zipI_a {f g : Ev} {e : Env} {M M1 M2 : Mem} {x y : Vl} {p : List PyData × List PyData} (h : f e M = .ok x M1) (h2 : g e M1 = .ok y M2) (hx : zipOf x y = some p) : zipI f g e M = .ok (zipD p.1 p.2) M2 := by
  unfold zipI
  rw [h, bind_ok, h2, bind_ok]
  simp only [hx]
theorem rngI1_a {f : Ev} {e : Env} {M M1 : Mem} {i : Int} (h : f e M = .ok (.d (.int i)) M1) (hi : -(2 ^ 62) ≤ i ∧ i < 2 ^ 62) : rngI1 f e M = .ok (rangeD 0 i) M1 := by
  unfold rngI1
  rw [h, bind_ok]
  exact if_pos hi
theorem rgE1_a {f : Ev} {e : Env} {M M1 : Mem} {i : Int} (h : f e M = .ok (.d (.int i)) M1) (h0 : 0 ≤ i) (hi : i ≤ 2 ^ 24) : rgE1 f e M = .ok (rangeD 0 i) M1 := by
  unfold rgE1
  rw [h, bind_ok]
  refine if_pos ?_
  unfold rgOk
  simp only [decide_eq_true_eq]
  omega
theorem rangeD_nat (n : Nat) : rangeD 0 (n : Int) = ((List.range n).map fun (i : Nat) => PyData.int i) := by
  unfold rangeD
  simp
/-- trees of whole numbers, truth values, texts and None -/
def leafB : PyData → Bool
  | .int _ => true
  | .bool _ => true
  | .none => true
  | .str _ => true
  | _ => false
def It : Nat → PyData → Prop
  | 0, x => leafB x = true
  | k + 1, x => leafB x = true ∨ ∃ xs, (x = .list xs ∨ x = .tuple xs) ∧ xs.length ≤ 2 ^ 20 ∧ ∀ y ∈ xs, It k y
theorem It.up {x : PyData} : ∀ {k : Nat}, It k x → It (k + 1) x := by
  intro k
  induction k generalizing x with
  | zero => exact fun h => .inl h
  | succ k ih =>
    rintro (h | ⟨xs, h1, h2, h3⟩)
    · exact .inl h
    · exact .inr ⟨xs, h1, h2, fun y hy => ih (h3 y hy)⟩
theorem It.mono {x : PyData} {j k : Nat} (h : It j x) (hk : j ≤ k) : It k x := by
  induction hk with
  | refl => exact h
  | step _ ih => exact ih.up
/-- the same with lists in place of tuples -/
def Tr : Nat → PyData → PyData → Prop
  | 0, x, y => ∃ i, x = .int i ∧ y = .int i
  | k + 1, x, y => (∃ i, x = .int i ∧ y = .int i) ∨ ∃ (xs : List PyData) (F : PyData → PyData), (x = .list xs ∨ x = .tuple xs) ∧ y = .list (xs.map F) ∧ xs.length ≤ 2 ^ 20 ∧ ∀ z ∈ xs, Tr k z (F z)
namespace C
theorem box_ok {cs : List Int} {k : Nat} (hk : k < cs.length) (hl : cs.length ≤ 2 ^ 20) {M : Mem} : ∃ o, m_box [.d (.list (cs.map PyData.int)), .d (.int (k : Nat))] M = .ok (.h M.length) (M ++ [o]) ∧ Bx 0 o := by
  have hk' : k < (cs.map PyData.int).length := by simpa using hk
  have hix := ixV_l (M := M) (atI_nat hk')
  rw [List.getElem_map] at hix
  have hlt : ((k : Int) < (((cs.map PyData.int).length : Nat) : Int)) := by omega
  generalize hA : (if cs[k] < 0 then -cs[k] else cs[k]) = A
  have hA0 : 0 ≤ A := by rw [← hA]; split <;> omega
  generalize hb : (if (decide (1000000000000000000 ≤ A)) = true then (1 : Int) else 0) = b
  have hb0 : 0 ≤ b ∧ b ≤ 1 := by rw [← hb]; split <;> omega
  refine ⟨.lst [.int (A * b), .int (cs[k] % 2305843009213693951 + 7919 * (k : Int) + 55), .int 0], ?_, ⟨_, _, _, rfl, Int.mul_nonneg hA0 hb0.1, by omega, by omega, by omega, by omega⟩⟩
  unfold m_box g_box
  simp only [defM, startE, seqS_a, setS_a, bindS_ok, bindS_er, then_nx, then_rt, then_er, ifS_a, ifK_t, ifK_f, retS_a, dropS_a, asgS_a, asK_a, goG_ok, subT_a, nopS_a, getV_0, getV_s, cst_a, op2_a, o2a_ok, o2b_ok, opT_a, oTa_ok, oTb_ok, consA_a, cAa_ok, cAb_ok, nilA_a, callF_a, cFa_ok, callE_a, cEa_ok, newE_a, nwa_ok, datE_a, dta_ok, dispE_a, tupE_a, tpa_ok, asDs_a, datas, bind_ok, pur_ok, bool_b, leave_d, leave_nx, leave_er, ifE_a, ifa_t, ifa_f, notT_a, nta_ok, andT_a, ana_t, ana_f, orT_a, ora_t, ora_f, tstE_a, tsa_b, andE_a, aEa_t, aEa_f, orE_a, oEa_t, oEa_f, notE_a, nEa_ok, add_ii, sub_ii, gt_ii, lt_ii, ge_ii, le_ii, setT_a, consT_a, cTa_ok, nilT_a, tupT_a, seqT_t, seqT_l, forS_a, List.map_cons, List.map_nil, List.length_cons, List.length_nil, Nat.reduceAdd, Nat.reduceSub, Nat.zero_add, Nat.add_zero, List.replicate, List.cons_append, List.nil_append, List.append_nil, List.getElem?_cons_zero, List.getElem?_cons_succ, List.set_cons_zero, List.set_cons_succ, List.getElem?_nil, Option.map_some, Option.map_none, Option.bind_some, if_true, if_false, ite_true, ite_false, eq_self_iff_true, and_self, and_true, true_and, decide_true, decide_false, Bool.false_eq_true, Bool.not_true, Bool.not_false, sizeLine, Nat.reducePow, Nat.reduceLeDiff, Nat.zero_le, pow_7, pow_18, pow_40, len_l, hlt, hix, abs_i, int_b, hA, hb, mul_ii (i := A) (j := b) (.inr (by omega)), mod_ii (show (0 : Int) < 2305843009213693951 by decide), mul_ii (i := 7919) (j := (k : Int)) (.inl (by decide))]
  rw [leave_h (by omega), take_all (by simp)]
end C
end DL
namespace DL
open PySem PySem.Spec L2
theorem tup_l {xs : List PyData} {M : Mem} : tupleV [.d (.list xs)] M = .ok (.d (.tuple xs)) M := Eq.trans rfl rfl
abbrev nD (n : Nat) : PyData := .int (n : Int)
/-- a state: who sits where, and the purses -/
abbrev stD (ss : List Nat) (ps : List Int) : PyData := .tuple [.tuple (ss.map nD), .tuple (ps.map PyData.int)]
structure StOk (n : Nat) (top : Int) (ss : List Nat) (ps : List Int) : Prop where
  perm : ss.Perm (List.range n)
  len : ps.length = n
  top : ∀ p ∈ ps, 0 ≤ p ∧ p ≤ top
namespace C
end C
end DL
namespace DL
open PySem PySem.Spec L2
theorem sum_t {ps : List Int} {M : Mem} : sumTV [.d (.tuple (ps.map PyData.int))] M = .ok (.d (.int ps.sum)) M := by
  simp [sumTV, seqOf, tupOf, rdOf, lstOf, intsOf_map]
theorem sum_l {ps : List Int} {M : Mem} : sumTV [.d (.list (ps.map PyData.int))] M = .ok (.d (.int ps.sum)) M := by
  simp [sumTV, sumV, rdOf, lstOf, intsOf_map]
theorem rep_a {f : Ev} {e : Env} {M M1 : Mem} {n : Nat} (h : f e M = .ok (.d (.int (n : Nat))) M1) (hn : n ≤ 2 ^ 20) : repE (datE (dispE (consA (cst (.d (.int 0))) nilA))) f e M = .ok (List.replicate n (.int 0)) M1 := by
  have h1 : datE (dispE (consA (cst (.d (.int 0))) nilA)) e M = .ok (.d (.list [.int 0])) M := by simp only [defM, startE, seqS_a, setS_a, bindS_ok, bindS_er, then_nx, then_rt, then_er, ifS_a, ifK_t, ifK_f, retS_a, dropS_a, asgS_a, asK_a, goG_ok, subT_a, nopS_a, getV_0, getV_s, cst_a, op2_a, o2a_ok, o2b_ok, opT_a, oTa_ok, oTb_ok, consA_a, cAa_ok, cAb_ok, nilA_a, callF_a, cFa_ok, callE_a, cEa_ok, newE_a, nwa_ok, datE_a, dta_ok, dispE_a, tupE_a, tpa_ok, asDs_a, datas, bind_ok, pur_ok, bool_b, leave_d, leave_nx, leave_er, ifE_a, ifa_t, ifa_f, notT_a, nta_ok, andT_a, ana_t, ana_f, orT_a, ora_t, ora_f, tstE_a, tsa_b, andE_a, aEa_t, aEa_f, orE_a, oEa_t, oEa_f, notE_a, nEa_ok, add_ii, sub_ii, gt_ii, lt_ii, ge_ii, le_ii, setT_a, consT_a, cTa_ok, nilT_a, tupT_a, seqT_t, seqT_l, forS_a, List.map_cons, List.map_nil, List.length_cons, List.length_nil, Nat.reduceAdd, Nat.reduceSub, Nat.zero_add, Nat.add_zero, List.replicate, List.cons_append, List.nil_append, List.append_nil, List.getElem?_cons_zero, List.getElem?_cons_succ, List.set_cons_zero, List.set_cons_succ, List.getElem?_nil, Option.map_some, Option.map_none, Option.bind_some, if_true, if_false, ite_true, ite_false, eq_self_iff_true, and_self, and_true, true_and, decide_true, decide_false, Bool.false_eq_true, Bool.not_true, Bool.not_false, sizeLine, Nat.reducePow, Nat.reduceLeDiff, Nat.zero_le, pow_7, pow_18, pow_40]
  unfold repE
  rw [h1, bind_ok, h, bind_ok]
  have hs : sizeLine = 2 ^ 24 := rfl
  refine (if_pos ⟨by omega, by omega, by rw [hs]; simp; omega⟩).trans ?_
  simp
/-- ls tells where each of ss is -/
structure Inv2 (ss ls : List Nat) : Prop where
  len : ls.length = ss.length
  at_ : ∀ (k x : Nat), ss[k]? = some x → ls[x]? = some k
/-- places: each below the number, no two alike -/
structure PN (ss : List Nat) : Prop where
  lt : ∀ (k x : Nat), ss[k]? = some x → x < ss.length
  inj : ∀ (j k x : Nat), ss[j]? = some x → ss[k]? = some x → j = k
theorem PN.of_perm {ss : List Nat} {n : Nat} (h : ss.Perm (List.range n)) : PN ss := by
  have hl : ss.length = n := by rw [h.length_eq, List.length_range]
  refine ⟨fun k x e => ?_, fun j k x e1 e2 => ?_⟩
  · have := List.mem_range.mp (h.mem_iff.mp (List.mem_of_getElem? e))
    omega
  · have nd : ss.Nodup := h.nodup_iff.mpr List.nodup_range
    have h1 := lt_of_getL e1
    have h2 := lt_of_getL e2
    exact (List.getElem?_inj h1 nd).mp (e1.trans e2.symm)
theorem onto_of_perm {ss : List Nat} {n : Nat} (h : ss.Perm (List.range n))  : ∀ x : Nat, x < ss.length → ∃ k : Nat, ss[k]? = some x := fun x hx => by
  have hl : ss.length = n := by rw [h.length_eq, List.length_range]
  exact List.getElem?_of_mem (h.mem_iff.mpr (List.mem_range.mpr (by omega)))
theorem Inv2.back {ss ls : List Nat} (hs : ∀ x : Nat, x < ss.length → ∃ k : Nat, ss[k]? = some x) (h : Inv2 ss ls) : Inv2 ls ss := by
  refine ⟨h.len.symm, fun x k e => ?_⟩
  have hx := lt_of_getL e
  rw [h.len] at hx
  obtain ⟨j, hj⟩ := hs x hx
  have := h.at_ j x hj
  rw [e] at this
  cases this
  exact hj
theorem Inv2.onto {ss ls : List Nat} (hp : PN ss) (h : Inv2 ss ls) : ∀ x : Nat, x < ls.length → ∃ k : Nat, ls[k]? = some x := fun x hx => by
  rw [h.len] at hx
  exact ⟨ss[x], h.at_ x _ (List.getElem?_eq_getElem hx)⟩
/-- the list while it is being written -/
structure Part (ss ls : List Nat) (j : Nat) : Prop where
  len : ls.length = ss.length
  at_ : ∀ (k x : Nat), k < j → ss[k]? = some x → ls[x]? = some k
theorem Part.zero (ss : List Nat) : Part ss (List.replicate ss.length 0) 0 := ⟨by simp, fun k x h _ => by omega⟩
theorem Part.step {ss ls : List Nat} {j x : Nat} (hp : PN ss) (h : Part ss ls j) (hx : ss[j]? = some x) : Part ss (ls.set x j) (j + 1) := by
  refine ⟨by rw [List.length_set]; exact h.len, fun k y hk hy => ?_⟩
  by_cases hkj : k = j
  · subst hkj
    rw [hx] at hy
    cases hy
    have : x < ls.length := by rw [h.len]; exact hp.lt _ _ hx
    simp [this]
  · have hne : x ≠ y := fun e => hkj (hp.inj k j y hy (e ▸ hx))
    rw [List.getElem?_set_ne hne]
    exact h.at_ k y (by omega) hy
theorem Part.done {ss ls : List Nat} (h : Part ss ls ss.length) : Inv2 ss ls := ⟨h.len, fun k x e => h.at_ k x (lt_of_getL e) e⟩
theorem set_nD {ls : List Nat} {x j : Nat} : (ls.map nD).set x (nD j) = (ls.set x j).map nD := (List.map_set ..).symm
end DL
namespace DL
open PySem PySem.Spec L2
/-- the state as lists -/
abbrev softD (ss : List Nat) (ps : List Int) : PyData := .list [.list (ss.map nD), .list (ps.map PyData.int)]
theorem Tr.int {k : Nat} {i : Int} : Tr k (.int i) (.int i) := by
  cases k with
  | zero => exact ⟨i, rfl, rfl⟩
  | succ k => exact .inl ⟨i, rfl, rfl⟩
end DL
namespace DL
open PySem PySem.Spec L2
section
variable {X : Cx} {W : WX} {pos : Pos}
def augSubS (op : Int → Int → Int) (fo fi fe : Ev) : Sv := fun e M => match fo e M with
  | .ok (.h p) M1 => match fi e M1 with
    | .ok (.d (.int k)) M2 => match M2[p]? with
      | some (.lst xs) => match atI xs k with
        | some (.int a) => if 0 ≤ k then match fe e M2 with
          | .ok (.d (.int b)) M3 => match M3[p]? with
            | some (.lst ys) => match ixN ys.length k with
              | some n => .go .nx e (M3.set p (.lst (ys.set n (.int (op a b)))))
              | none => .st
            | _ => .st
          | _ => .st
          else .st
        | _ => .st
      | _ => .st
    | _ => .st
  | _ => .st
end
end DL
namespace DL
open PySem PySem.Spec L2
/-- the first place -/
def firstAt (ns : List Int) (z : Int) : Option Nat := ns.findIdx? (· == z)
end DL
namespace DL
open PySem PySem.Spec L2
end DL
namespace DL
open PySem PySem.Spec L2
structure Stt (n : Nat) (ss : List Nat) (ps : List Int) : Prop where
  perm : ss.Perm (List.range n)
  len : ps.length = n
  nn : ∀ p ∈ ps, 0 ≤ p
theorem Stt.slen {n : Nat} {ss : List Nat} {ps : List Int} (h : Stt n ss ps) : ss.length = n := by rw [h.perm.length_eq, List.length_range]
theorem StOk.stt {n : Nat} {top : Int} {ss : List Nat} {ps : List Int} (h : StOk n top ss ps) : Stt n ss ps := ⟨h.perm, h.len, fun p hp => (h.top p hp).1⟩
theorem Stt.lt {n : Nat} {ss : List Nat} {ps : List Int} (h : Stt n ss ps) {j c : Nat} (e : ss[j]? = some c) : c < n := List.mem_range.mp (h.perm.mem_iff.mp (List.mem_of_getElem? e))
theorem Stt.inj {n : Nat} {ss : List Nat} {ps : List Int} (h : Stt n ss ps) {j k c : Nat} (e : ss[j]? = some c) (e2 : ss[k]? = some c) : j = k := (PN.of_perm h.perm).inj j k c e e2
theorem Stt.onto {n : Nat} {ss : List Nat} {ps : List Int} (h : Stt n ss ps) {c : Nat} (hc : c < n) : ∃ j : Nat, ss[j]? = some c := onto_of_perm h.perm c (by rw [h.slen]; exact hc)
theorem Stt.purse {n : Nat} {ss : List Nat} {ps : List Int} (h : Stt n ss ps) {j c : Nat} (e : ss[j]? = some c) : ∃ p, ps[j]? = some p ∧ 0 ≤ p := by
  have hj := lt_of_getL e
  rw [h.slen, ← h.len] at hj
  exact ⟨ps[j], List.getElem?_eq_getElem hj, h.nn _ (List.getElem_mem hj)⟩
theorem sum_set : ∀ (l : List Int) (i : Nat) (v x : Int), l[i]? = some x → (l.set i v).sum = l.sum - x + v
  | [], i, v, x, h => by simp at h
  | a :: l, 0, v, x, h => by
    simp at h
    subst h
    rw [List.set_cons_zero, List.sum_cons, List.sum_cons]
    omega
  | a :: l, i + 1, v, x, h => by
    rw [List.set_cons_succ, List.sum_cons, List.sum_cons, sum_set l i v x (by simpa using h)]
    omega
theorem sum_nn : ∀ (l : List Int), (∀ p ∈ l, 0 ≤ p) → 0 ≤ l.sum ∧ ∀ p ∈ l, p ≤ l.sum
  | [], _ => ⟨by simp, fun p hp => by cases hp⟩
  | a :: l, h => by
    obtain ⟨h1, h2⟩ := sum_nn l fun p hp => h p (List.mem_cons_of_mem _ hp)
    have ha := h a List.mem_cons_self
    rw [List.sum_cons]
    refine ⟨by omega, fun p hp => ?_⟩
    rcases List.mem_cons.mp hp with rfl | hp
    · omega
    · have := h2 p hp; omega
/-- everybody's residue -/
def resI (ss : List Nat) (ps : List Int) : List Int := List.zipWith (fun (s : Nat) (p : Int) => ((s : Int) + p) % (ss.length : Nat)) ss ps
theorem resI_get {ss : List Nat} {ps : List Int} {k s : Nat} {p : Int} (h1 : ss[k]? = some s) (h2 : ps[k]? = some p) : (resI ss ps)[k]? = some (((s : Int) + p) % (ss.length : Nat)) := by
  unfold resI
  rw [List.getElem?_zipWith, h1, h2]
theorem resI_len {ss : List Nat} {ps : List Int} : (resI ss ps).length = min ss.length ps.length := by unfold resI; simp
/-- one lot: alike residues, alike totals -/
structure Lot (ss : List Nat) (ps : List Int) (ss' : List Nat) (ps' : List Int) : Prop where
  res : resI ss ps = resI ss' ps'
  sum : ps.sum = ps'.sum
theorem Lot.rfl' {ss : List Nat} {ps : List Int} : Lot ss ps ss ps := ⟨rfl, rfl⟩
theorem Lot.trans {a c e : List Nat} {b d f : List Int} (h : Lot a b c d) (k : Lot c d e f) : Lot a b e f := ⟨h.res.trans k.res, h.sum.trans k.sum⟩
theorem Lot.symm {a c : List Nat} {b d : List Int} (h : Lot a b c d) : Lot c d a b := ⟨h.res.symm, h.sum.symm⟩
/-- an exchange at seat c -/
structure Ex (n : Nat) (ss : List Nat) (ps : List Int) (c : Nat) (ss' : List Nat) (ps' : List Int) : Prop where
  ex : ∃ (j k : Nat) (p q : Int), ss[j]? = some c ∧ ss[k]? = some ((c + 1) % n) ∧ ps[j]? = some p ∧ 0 < p ∧ ps[k]? = some q ∧
    ss' = (ss.set j ((c + 1) % n)).set k c ∧ ps' = (ps.set j (p - 1)).set k (q + 1)
theorem next_ne {n c : Nat} (h2 : 2 ≤ n) (hc : c < n) : (c + 1) % n ≠ c ∧ (c + 1) % n < n := by
  refine ⟨fun e => ?_, Nat.mod_lt _ (by omega)⟩
  by_cases h : c + 1 < n
  · rw [Nat.mod_eq_of_lt h] at e; omega
  · have : c + 1 = n := by omega
    rw [this, Nat.mod_self] at e
    omega
theorem ext_of {α : Type} {l l' : List α} (h : ∀ k : Nat, l[k]? = l'[k]?) : l = l' := List.ext_getElem? h
theorem Ex.ok {n c : Nat} {ss ss' : List Nat} {ps ps' : List Int} (h : Stt n ss ps) (h2 : 2 ≤ n) (x : Ex n ss ps c ss' ps') : Stt n ss' ps' ∧ Lot ss ps ss' ps' := by
  obtain ⟨j, k, p, q, hj, hk, hp, hp0, hq, rfl, rfl⟩ := x.ex
  have hc := h.lt hj
  obtain ⟨hne, hlt⟩ := next_ne h2 hc
  have hjk : j ≠ k := fun e => hne (by rw [e, hk] at hj; exact Option.some.inj hj)
  have lj := lt_of_getL hj
  have lk := lt_of_getL hk
  have lpj := lt_of_getL hp
  have lpk := lt_of_getL hq
  have ej : ss[j] = c := by rw [List.getElem?_eq_getElem lj] at hj; exact Option.some.inj hj
  have ek : ss[k] = (c + 1) % n := by rw [List.getElem?_eq_getElem lk] at hk; exact Option.some.inj hk
  have hperm : ((ss.set j ((c + 1) % n)).set k c).Perm ss := by
    have := List.set_set_perm (as := ss) lj lk
    rw [ej, ek] at this
    exact this
  have hl : ss.length = n := h.slen
  have hq0 : 0 ≤ q := h.nn q (List.mem_of_getElem? hq)
  refine ⟨⟨hperm.trans h.perm, by simp [h.len], fun y hy => ?_⟩, ?_, ?_⟩
  · rcases List.mem_or_eq_of_mem_set hy with hy | rfl
    · rcases List.mem_or_eq_of_mem_set hy with hy | rfl
      · exact h.nn y hy
      · omega
    · omega
  · apply ext_of
    intro m
    have hmod : (((c + 1) % n : Nat) : Int) = ((c : Int) + 1) % (n : Nat) := by simp
    by_cases hmj : m = j
    · subst hmj
      have e1 : ((ss.set m ((c + 1) % n)).set k c)[m]? = some ((c + 1) % n) := by
        rw [List.getElem?_set_ne (Ne.symm hjk), List.getElem?_set_self lj]
      have e2 : ((ps.set m (p - 1)).set k (q + 1))[m]? = some (p - 1) := by
        rw [List.getElem?_set_ne (Ne.symm hjk), List.getElem?_set_self lpj]
      rw [resI_get hj hp, resI_get e1 e2]
      simp only [List.length_set, hl]
      rw [hmod, Int.emod_add_emod]
      congr 2
      omega
    · by_cases hmk : m = k
      · subst hmk
        have e1 : ((ss.set j ((c + 1) % n)).set m c)[m]? = some c := by rw [List.getElem?_set_self (by simpa using lk)]
        have e2 : ((ps.set j (p - 1)).set m (q + 1))[m]? = some (q + 1) := by rw [List.getElem?_set_self (by simpa using lpk)]
        rw [resI_get hk hq, resI_get e1 e2]
        simp only [List.length_set, hl]
        rw [hmod, Int.emod_add_emod]
        congr 2
        omega
      · unfold resI
        rw [List.getElem?_zipWith, List.getElem?_zipWith]
        simp only [List.length_set]
        rw [List.getElem?_set_ne (Ne.symm hmk), List.getElem?_set_ne (Ne.symm hmj), List.getElem?_set_ne (Ne.symm hmk), List.getElem?_set_ne (Ne.symm hmj)]
  · have e2 : (ps.set j (p - 1))[k]? = some q := by rw [List.getElem?_set_ne hjk]; exact hq
    rw [sum_set _ k _ q e2, sum_set _ j _ p hp]
    omega
/-- a row of exchanges -/
inductive Run (n : Nat) (ss : List Nat) (ps : List Int) : List Nat → List Nat → List Int → Prop
  | nil : Run n ss ps [] ss ps
  | snoc {cs : List Nat} {c : Nat} {s1 s2 : List Nat} {p1 p2 : List Int} : Run n ss ps cs s1 p1 → Ex n s1 p1 c s2 p2 → Run n ss ps (cs ++ [c]) s2 p2
theorem Run.ok {n : Nat} {cs ss ss' : List Nat} {ps ps' : List Int} (h : Stt n ss ps) (h2 : 2 ≤ n) (x : Run n ss ps cs ss' ps') : Stt n ss' ps' ∧ Lot ss ps ss' ps' := by
  induction x with
  | nil => exact ⟨h, .rfl'⟩
  | snoc _ e ih => exact ⟨(e.ok ih.1 h2).1, ih.2.trans (e.ok ih.1 h2).2⟩
theorem lcL_filter {γ : Tg} {t : Env → Mem → Res Bool} {h : Ev} {ew : Env} {M : Mem} (B : PyData → Bool) (F : PyData → PyData) : ∀ (xs acc : List PyData), acc.length + xs.length ≤ sizeLine → (∀ x ∈ xs, ∃ e1, γ (.d x) ew M = .ok e1 M ∧ t e1 M = .ok (B x) M ∧ (B x = true → h e1 M = .ok (.d (F x)) M)) →
    lcL γ t h ew xs acc M = .ok (acc ++ (xs.filter B).map F) M
  | [], acc, _, _ => by rw [List.filter_nil, List.map_nil, List.append_nil]; rfl
  | x :: xs, acc, hl, hs => by
    obtain ⟨e1, h1, h2, h3⟩ := hs x List.mem_cons_self
    rw [List.length_cons] at hl
    unfold lcL
    rw [h1]
    simp only [h2]
    cases hb : B x with
    | true =>
      simp only [h3 hb]
      rw [if_pos (by omega), lcL_filter B F xs (acc ++ [F x]) (by rw [List.length_append, List.length_singleton]; omega) fun y hy => hs y (List.mem_cons_of_mem _ hy), List.append_assoc, List.filter_cons_of_pos hb]
      rfl
    | false =>
      simp only []
      rw [lcL_filter B F xs acc (by omega) fun y hy => hs y (List.mem_cons_of_mem _ hy), List.filter_cons_of_neg (by simp [hb])]
theorem firstAt_of {ss : List Nat} {c j : Nat} (h : ss[j]? = some c) (hinj : ∀ k, ss[k]? = some c → k = j) : firstAt (ss.map fun s : Nat => (s : Int)) (c : Int) = some j := by
  unfold firstAt
  rw [List.findIdx?_eq_some_iff_getElem]
  have hj := lt_of_getL h
  refine ⟨by simpa using hj, ?_, fun m hm => ?_⟩
  · rw [List.getElem?_eq_getElem hj] at h
    simp [Option.some.inj h]
  · have hml : m < ss.length := by omega
    simp only [List.getElem_map, beq_iff_eq, Bool.not_eq_true]
    intro e
    have e2 : ((ss[m] : Nat) : Int) = (c : Int) := by simpa using e
    have := hinj m (by rw [List.getElem?_eq_getElem hml, Int.ofNat.inj e2])
    omega
end DL
namespace DL
open PySem PySem.Spec L2
namespace C
def g_residues : Sv := (seqS (asgS (getV 0) (seqT 2 (consT (setT 1) (consT (setT 2) nilT)))) (seqS (setS 3 (callE lenV (consA (getV 1) nilA))) (retS (callE tupleV (consA (datE (lcE [4, 5] (zipI (getV 1) (getV 2)) (tupT 2 (consT (setT 4) (consT (setT 5) nilT))) (fun _ M => .ok true M) (op2 modV (op2 addV (getV 4) (getV 5)) (getV 3)))) nilA)))))
def m_residues : Fn := defM 6 0 g_residues
def g_inverse : Sv := (seqS (setS 1 (newE (repE (datE (dispE (consA (cst (.d (.int 0))) nilA))) (callE lenV (consA (getV 0) nilA))))) (seqS (forS (enumI (getV 0)) (tupT 2 (consT (setT 2) (consT (setT 3) nilT))) (asgS (getV 2) (subT (getV 1) (getV 3)))) (seqS (freeze 1) (retS (callE tupleV (consA (getV 1) nilA))))))
def m_inverse : Fn := defM 4 0 g_inverse
end C
end DL
namespace DL
open PySem PySem.Spec L2
/-- the same with lists: seats and purses may be lists, and the pair too -/
def SeqV (x : Vl) (xs : List PyData) : Prop := x = .d (.list xs) ∨ x = .d (.tuple xs)
theorem SeqV.walk {x : Vl} {xs : List PyData} (h : SeqV x xs) : walkOf x = some xs := by rcases h with rfl | rfl <;> rfl
theorem SeqV.len {x : Vl} {xs : List PyData} {M : Mem} (h : SeqV x xs) : lenV [x] M = .ok (.d (.int (xs.length : Nat))) M := by rcases h with rfl | rfl <;> exact len_at rfl
/-- a state as it is given: all tuples, or all lists -/
def StV (x : Vl) (ss : List Nat) (ps : List Int) : Prop := x = .d (stD ss ps) ∨ x = .d (softD ss ps)
theorem StV.two {x : Vl} {ss : List Nat} {ps : List Int} (h : StV x ss ps) : ∃ a b : PyData, (∀ (δ : Tgs) (e : Env) (N : Mem), seqT 2 δ x e N = δ [a, b] e N) ∧ SeqV (.d a) (ss.map nD) ∧ SeqV (.d b) (ps.map PyData.int) ∧ zipOf (.d a) (.d b) = some (ss.map nD, ps.map PyData.int) := by
  rcases h with rfl | rfl
  · exact ⟨.tuple (ss.map nD), .tuple (ps.map PyData.int), fun δ e N => seqT_t rfl, .inr rfl, .inr rfl, rfl⟩
  · exact ⟨.list (ss.map nD), .list (ps.map PyData.int), fun δ e N => seqT_l rfl, .inl rfl, .inl rfl, rfl⟩
abbrev intsD (xs : List Int) : List PyData := xs.map PyData.int
theorem zip_in {ss : List Nat} {ps : List Int} {x : PyData} (h : x ∈ zipD (ss.map nD) (ps.map PyData.int)) : ∃ (a : Nat) (b : Int), x = .tuple [.int (a : Nat), .int b] ∧ 0 < ss.length := by
  unfold zipD at h
  obtain ⟨p, hp, rfl⟩ := List.mem_map.mp h
  have h1 := (List.of_mem_zip (show (p.1, p.2) ∈ _ from hp)).1
  have h2 := (List.of_mem_zip (show (p.1, p.2) ∈ _ from hp)).2
  obtain ⟨a, ha, e1⟩ := List.mem_map.mp h1
  obtain ⟨b, _, e2⟩ := List.mem_map.mp h2
  exact ⟨a, b, by rw [← e1, ← e2], List.length_pos_of_mem ha⟩
/-- what a pair comes to -/
def onPair (f : Int → Int → Int) : PyData → PyData
  | .tuple [.int a, .int b] => .int (f a b)
  | _ => .none
theorem zip_map (f : Int → Int → Int) : ∀ (xs ys : List Int), (zipD (intsD xs) (intsD ys)).map (onPair f) = intsD (List.zipWith f xs ys)
  | [], _ => rfl
  | _ :: _, [] => rfl
  | x :: xs, y :: ys => by
    have := zip_map f xs ys
    unfold zipD at this ⊢
    simp only [List.map_cons, List.zip_cons_cons, List.zipWith_cons_cons]
    exact congrArg (List.cons _) this
theorem nats_ints (ss : List Nat) : ss.map nD = intsD (ss.map fun s : Nat => (s : Int)) := by simp
theorem resI_map {ss : List Nat} {ps : List Int} : (zipD (ss.map nD) (ps.map PyData.int)).map (onPair fun a b => (a + b) % (ss.length : Nat)) = intsD (resI ss ps) := by
  rw [nats_ints, zip_map]
  unfold resI
  rw [List.zipWith_map_left]
namespace C
theorem residues_ok {x : Vl} {ss : List Nat} {ps : List Int} {M : Mem} (hx : StV x ss ps) (hl : ss.length ≤ 1000) : m_residues [x] M = .ok (.d (.tuple (intsD (resI ss ps)))) M := by
  have hsz : sizeLine = 2 ^ 24 := rfl
  obtain ⟨a, b, h0, h1, h2, h3⟩ := hx.two
  have core : ∀ (v1 v4 v5 : Option Vl) , lcE [4, 5] (zipI (getV 1) (getV 2)) (tupT 2 (consT (setT 4) (consT (setT 5) nilT))) (fun _ M => .ok true M) (op2 modV (op2 addV (getV 4) (getV 5)) (getV 3)) [v1, some (.d a), some (.d b), some (.d (.int (ss.length : Nat))), v4, v5] M = .ok (intsD (resI ss ps)) M := by
    intro v1 v4 v5
    rw [lcE_at (zipI_a (x := .d a) (y := .d b) (M1 := M) (M2 := M) (by simp only [defM, startE, seqS_a, setS_a, bindS_ok, bindS_er, then_nx, then_rt, then_er, ifS_a, ifK_t, ifK_f, retS_a, dropS_a, asgS_a, asK_a, goG_ok, subT_a, nopS_a, getV_0, getV_s, cst_a, op2_a, o2a_ok, o2b_ok, opT_a, oTa_ok, oTb_ok, consA_a, cAa_ok, cAb_ok, nilA_a, callF_a, cFa_ok, callE_a, cEa_ok, newE_a, nwa_ok, datE_a, dta_ok, dispE_a, tupE_a, tpa_ok, asDs_a, datas, bind_ok, pur_ok, bool_b, leave_d, leave_nx, leave_er, ifE_a, ifa_t, ifa_f, notT_a, nta_ok, andT_a, ana_t, ana_f, orT_a, ora_t, ora_f, tstE_a, tsa_b, andE_a, aEa_t, aEa_f, orE_a, oEa_t, oEa_f, notE_a, nEa_ok, add_ii, sub_ii, gt_ii, lt_ii, ge_ii, le_ii, setT_a, consT_a, cTa_ok, nilT_a, tupT_a, seqT_t, seqT_l, forS_a, List.map_cons, List.map_nil, List.length_cons, List.length_nil, Nat.reduceAdd, Nat.reduceSub, Nat.zero_add, Nat.add_zero, List.replicate, List.cons_append, List.nil_append, List.append_nil, List.getElem?_cons_zero, List.getElem?_cons_succ, List.set_cons_zero, List.set_cons_succ, List.getElem?_nil, Option.map_some, Option.map_none, Option.bind_some, if_true, if_false, ite_true, ite_false, eq_self_iff_true, and_self, and_true, true_and, decide_true, decide_false, Bool.false_eq_true, Bool.not_true, Bool.not_false, sizeLine, Nat.reducePow, Nat.reduceLeDiff, Nat.zero_le, pow_7, pow_18, pow_40]) (by simp only [defM, startE, seqS_a, setS_a, bindS_ok, bindS_er, then_nx, then_rt, then_er, ifS_a, ifK_t, ifK_f, retS_a, dropS_a, asgS_a, asK_a, goG_ok, subT_a, nopS_a, getV_0, getV_s, cst_a, op2_a, o2a_ok, o2b_ok, opT_a, oTa_ok, oTb_ok, consA_a, cAa_ok, cAb_ok, nilA_a, callF_a, cFa_ok, callE_a, cEa_ok, newE_a, nwa_ok, datE_a, dta_ok, dispE_a, tupE_a, tpa_ok, asDs_a, datas, bind_ok, pur_ok, bool_b, leave_d, leave_nx, leave_er, ifE_a, ifa_t, ifa_f, notT_a, nta_ok, andT_a, ana_t, ana_f, orT_a, ora_t, ora_f, tstE_a, tsa_b, andE_a, aEa_t, aEa_f, orE_a, oEa_t, oEa_f, notE_a, nEa_ok, add_ii, sub_ii, gt_ii, lt_ii, ge_ii, le_ii, setT_a, consT_a, cTa_ok, nilT_a, tupT_a, seqT_t, seqT_l, forS_a, List.map_cons, List.map_nil, List.length_cons, List.length_nil, Nat.reduceAdd, Nat.reduceSub, Nat.zero_add, Nat.add_zero, List.replicate, List.cons_append, List.nil_append, List.append_nil, List.getElem?_cons_zero, List.getElem?_cons_succ, List.set_cons_zero, List.set_cons_succ, List.getElem?_nil, Option.map_some, Option.map_none, Option.bind_some, if_true, if_false, ite_true, ite_false, eq_self_iff_true, and_self, and_true, true_and, decide_true, decide_false, Bool.false_eq_true, Bool.not_true, Bool.not_false, sizeLine, Nat.reducePow, Nat.reduceLeDiff, Nat.zero_le, pow_7, pow_18, pow_40]) h3)]
    rw [← resI_map]
    refine lcL_map _ _ [] (by rw [hsz, zipD_len]; simp; omega) fun z hz => ?_
    obtain ⟨p, q, rfl, hp⟩ := zip_in hz
    refine ⟨[v1, some (.d a), some (.d b), some (.d (.int (ss.length : Nat))), some (.d (.int p)), some (.d (.int q))], ?_, rfl, ?_⟩
    · show tupT 2 _ _ [v1, some (.d a), some (.d b), some (.d (.int (ss.length : Nat))), none, none] M = _
      simp only [defM, startE, seqS_a, setS_a, bindS_ok, bindS_er, then_nx, then_rt, then_er, ifS_a, ifK_t, ifK_f, retS_a, dropS_a, asgS_a, asK_a, goG_ok, subT_a, nopS_a, getV_0, getV_s, cst_a, op2_a, o2a_ok, o2b_ok, opT_a, oTa_ok, oTb_ok, consA_a, cAa_ok, cAb_ok, nilA_a, callF_a, cFa_ok, callE_a, cEa_ok, newE_a, nwa_ok, datE_a, dta_ok, dispE_a, tupE_a, tpa_ok, asDs_a, datas, bind_ok, pur_ok, bool_b, leave_d, leave_nx, leave_er, ifE_a, ifa_t, ifa_f, notT_a, nta_ok, andT_a, ana_t, ana_f, orT_a, ora_t, ora_f, tstE_a, tsa_b, andE_a, aEa_t, aEa_f, orE_a, oEa_t, oEa_f, notE_a, nEa_ok, add_ii, sub_ii, gt_ii, lt_ii, ge_ii, le_ii, setT_a, consT_a, cTa_ok, nilT_a, tupT_a, seqT_t, seqT_l, forS_a, List.map_cons, List.map_nil, List.length_cons, List.length_nil, Nat.reduceAdd, Nat.reduceSub, Nat.zero_add, Nat.add_zero, List.replicate, List.cons_append, List.nil_append, List.append_nil, List.getElem?_cons_zero, List.getElem?_cons_succ, List.set_cons_zero, List.set_cons_succ, List.getElem?_nil, Option.map_some, Option.map_none, Option.bind_some, if_true, if_false, ite_true, ite_false, eq_self_iff_true, and_self, and_true, true_and, decide_true, decide_false, Bool.false_eq_true, Bool.not_true, Bool.not_false, sizeLine, Nat.reducePow, Nat.reduceLeDiff, Nat.zero_le, pow_7, pow_18, pow_40]
    · simp only [defM, startE, seqS_a, setS_a, bindS_ok, bindS_er, then_nx, then_rt, then_er, ifS_a, ifK_t, ifK_f, retS_a, dropS_a, asgS_a, asK_a, goG_ok, subT_a, nopS_a, getV_0, getV_s, cst_a, op2_a, o2a_ok, o2b_ok, opT_a, oTa_ok, oTb_ok, consA_a, cAa_ok, cAb_ok, nilA_a, callF_a, cFa_ok, callE_a, cEa_ok, newE_a, nwa_ok, datE_a, dta_ok, dispE_a, tupE_a, tpa_ok, asDs_a, datas, bind_ok, pur_ok, bool_b, leave_d, leave_nx, leave_er, ifE_a, ifa_t, ifa_f, notT_a, nta_ok, andT_a, ana_t, ana_f, orT_a, ora_t, ora_f, tstE_a, tsa_b, andE_a, aEa_t, aEa_f, orE_a, oEa_t, oEa_f, notE_a, nEa_ok, add_ii, sub_ii, gt_ii, lt_ii, ge_ii, le_ii, setT_a, consT_a, cTa_ok, nilT_a, tupT_a, seqT_t, seqT_l, forS_a, List.map_cons, List.map_nil, List.length_cons, List.length_nil, Nat.reduceAdd, Nat.reduceSub, Nat.zero_add, Nat.add_zero, List.replicate, List.cons_append, List.nil_append, List.append_nil, List.getElem?_cons_zero, List.getElem?_cons_succ, List.set_cons_zero, List.set_cons_succ, List.getElem?_nil, Option.map_some, Option.map_none, Option.bind_some, if_true, if_false, ite_true, ite_false, eq_self_iff_true, and_self, and_true, true_and, decide_true, decide_false, Bool.false_eq_true, Bool.not_true, Bool.not_false, sizeLine, Nat.reducePow, Nat.reduceLeDiff, Nat.zero_le, pow_7, pow_18, pow_40, mod_ii (show (0 : Int) < ((ss.length : Nat) : Int) by omega), onPair]
  unfold m_residues g_residues
  have hlen : lenV [.d a] M = _ := h1.len
  rw [List.length_map] at hlen
  simp only [defM, startE, seqS_a, setS_a, bindS_ok, bindS_er, then_nx, then_rt, then_er, ifS_a, ifK_t, ifK_f, retS_a, dropS_a, asgS_a, asK_a, goG_ok, subT_a, nopS_a, getV_0, getV_s, cst_a, op2_a, o2a_ok, o2b_ok, opT_a, oTa_ok, oTb_ok, consA_a, cAa_ok, cAb_ok, nilA_a, callF_a, cFa_ok, callE_a, cEa_ok, newE_a, nwa_ok, datE_a, dta_ok, dispE_a, tupE_a, tpa_ok, asDs_a, datas, bind_ok, pur_ok, bool_b, leave_d, leave_nx, leave_er, ifE_a, ifa_t, ifa_f, notT_a, nta_ok, andT_a, ana_t, ana_f, orT_a, ora_t, ora_f, tstE_a, tsa_b, andE_a, aEa_t, aEa_f, orE_a, oEa_t, oEa_f, notE_a, nEa_ok, add_ii, sub_ii, gt_ii, lt_ii, ge_ii, le_ii, setT_a, consT_a, cTa_ok, nilT_a, tupT_a, seqT_t, seqT_l, forS_a, List.map_cons, List.map_nil, List.length_cons, List.length_nil, Nat.reduceAdd, Nat.reduceSub, Nat.zero_add, Nat.add_zero, List.replicate, List.cons_append, List.nil_append, List.append_nil, List.getElem?_cons_zero, List.getElem?_cons_succ, List.set_cons_zero, List.set_cons_succ, List.getElem?_nil, Option.map_some, Option.map_none, Option.bind_some, if_true, if_false, ite_true, ite_false, eq_self_iff_true, and_self, and_true, true_and, decide_true, decide_false, Bool.false_eq_true, Bool.not_true, Bool.not_false, sizeLine, Nat.reducePow, Nat.reduceLeDiff, Nat.zero_le, pow_7, pow_18, pow_40, h0, hlen, core, tup_l]
  rw [take_all (by simp)]
def noneB : PyData → Bool
  | .none => true
  | _ => false
end C
end DL
namespace DL
open PySem PySem.Spec L2
theorem atI_some {α : Type} {xs : List α} {k : Nat} {x : α} (h : xs[k]? = some x) : atI xs (k : Int) = some x := by
  have hk := lt_of_getL h
  rw [atI_nat hk]
  rw [List.getElem?_eq_getElem hk] at h
  exact h
section
variable {M J : Mem} {L k j : Nat} {A : List PyData} {x y : PyData} {e : Env}
theorem j_get (hL : L = M.length + k) (hJ : J[k]? = some (.lst A)) : (M ++ J)[L]? = some (.lst A) := by
  subst hL
  rw [List.getElem?_append_right (by omega)]
  simpa using hJ
theorem j_set {o : MO} (hL : L = M.length + k) : (M ++ J).set L o = M ++ J.set k o := by
  subst hL
  rw [List.set_append_right _ _ (by omega)]
  simp
theorem jx (hL : L = M.length + k) (hJ : J[k]? = some (.lst A)) (hx : A[j]? = some x) : ixV (.h L) (.d (.int (j : Nat))) (M ++ J) = .ok (.d x) (M ++ J) := ixV_h (j_get hL hJ) (atI_some hx)
theorem jput (hL : L = M.length + k) (hJ : J[k]? = some (.lst A)) (hj : j < A.length) : putV (.h L) (.d (.int (j : Nat))) (.d y) e (M ++ J) = .ok e (M ++ J.set k (.lst (A.set j y))) := by
  rw [putV_h (j_get hL hJ) (ixN_nat hj), j_set hL]
theorem jfz {i : Nat} (he : e[i]? = some (some (.h L))) (hL : L = M.length + k) (hJ : J[k]? = some (.lst A)) : freeze i e (M ++ J) = .go .nx (e.set i (some (.d (.list A)))) (M ++ J.set k .gone) := by
  rw [freeze_at he (j_get hL hJ), j_set hL]
end
theorem Stt.first {n : Nat} {ss : List Nat} {ps : List Int} (h : Stt n ss ps) {j c : Nat} (e : ss[j]? = some c) : firstAt (ss.map fun s : Nat => (s : Int)) (c : Int) = some j :=
  firstAt_of e fun k hk => h.inj hk e
theorem getN {ss : List Nat} {j c : Nat} (h : ss[j]? = some c) : (ss.map nD)[j]? = some (nD c) := by rw [List.getElem?_map, h]; rfl
theorem getI {ss : List Int} {j : Nat} {c : Int} (h : ss[j]? = some c) : (intsD ss)[j]? = some (.int c) := by rw [List.getElem?_map, h]; rfl
theorem setI {ls : List Int} {x : Nat} {c : Int} : (intsD ls).set x (.int c) = intsD (ls.set x c) := (List.map_set ..).symm
namespace C
end C
end DL
namespace DL
open PySem PySem.Spec L2
section
variable {X : Cx} {W : WX} {a b c : Expr} {f1 f2 f3 : Ev} {pos : Pos}
def sortI (ns : List Int) : List Int := ns.mergeSort (fun a b => decide (a ≤ b))
theorem sortI_perm (ns : List Int) : (sortI ns).Perm ns := List.mergeSort_perm ..
theorem sortI_asc (ns : List Int) : (sortI ns).Pairwise (· ≤ ·) := by
  have := List.pairwise_mergeSort (le := fun a b : Int => decide (a ≤ b)) (fun a b c h1 h2 => by simp at *; omega) (fun a b => by simp; omega) ns
  exact this.imp fun h => by simpa using h
theorem asc_unique : ∀ {l1 l2 : List Int}, l1.Perm l2 → l1.Pairwise (· ≤ ·) → l2.Pairwise (· ≤ ·) → l1 = l2
  | [], l2, p, _, _ => (List.nil_perm.mp p).symm
  | x :: l1, [], p, _, _ => absurd p.symm.nil_eq (by simp)
  | x :: l1, y :: l2, p, h1, h2 => by
    have hx := List.pairwise_cons.mp h1
    have hy := List.pairwise_cons.mp h2
    have e : x = y := by
      have m1 : x ∈ y :: l2 := p.mem_iff.mp List.mem_cons_self
      have m2 : y ∈ x :: l1 := p.mem_iff.mpr List.mem_cons_self
      rcases List.mem_cons.mp m1 with e | m1
      · exact e
      · rcases List.mem_cons.mp m2 with e | m2
        · exact e.symm
        · have a1 := hy.1 x m1
          have a2 := hx.1 y m2
          omega
    subst e
    rw [asc_unique ((List.perm_cons x).mp p) hx.2 hy.2]
end
section
open PyProof.Rows
variable {prog : Program} {w : World} {A : Around} {E : Value → Shared → Prop} {s : Shared}
theorem gather_tup {l : Addr} {vs : List Value} {Q : List Value → Shared → Prop} (hl : IsTup s.heap l vs.toArray) (hsz : vs.length ≤ sizeLine)
    (h : Q vs { s with heap := (s.heap.push (seqObj "list" #[] 0)).update s.heap.objs.size (Obj.mapSeq (· ++ vs.toArray)) }) : wpAny (model prog w) A (collect (.ref l)) Q E s := by
  obtain ⟨ob, hob, hcl, m, hda⟩ := hl
  have hob' : (s.heap.push (seqObj "list" #[] 0)).get? l = some ob := Heap.get?_push_of_some _ hob
  have made : (s.heap.push (seqObj "list" #[] 0)).get? s.heap.objs.size = some (seqObj "list" #[] 0) := Heap.get?_push_size _ rfl
  unfold collect
  refine wpAny_bind (wpAny_runValue (codeAny_builtin entry_proto_collect' (wpAny_bind (wpAny_newList (wpAny_pure ⟨Code.quiet_builtin _ (by decide +kernel), codeAny_builtin entry_list_iadd' ?_⟩)))))
  show wpAny _ _ (Builtin.List.listExtendWith (.ref s.heap.objs.size) (.ref l) (.ref s.heap.objs.size)) _ _ { s with heap := s.heap.push (seqObj "list" #[] 0) }
  unfold Builtin.List.listExtendWith
  refine wpAny_bind (wpAny_typeOf (T := "tuple") ⟨ob, hob', hcl⟩ ?_)
  rw [if_pos (by simp)]
  refine wpAny_bind (listItems_at hob' hda (wpAny_bind (listItems_at (xs := #[]) (n := 0) made rfl ?_)))
  rw [if_neg (by simp)]
  refine wpAny_bind (listUpdate_at (xs := #[]) (n := 0) made rfl (wpAny_pure ?_) (Nat.zero_le _) ?_)
  · show wpAny (model prog w) A (load s.heap.objs.size >>= _) Q E { s with heap := (s.heap.push (seqObj "list" #[] 0)).update s.heap.objs.size (Obj.mapSeq (· ++ vs.toArray)) }
    refine wpAny_bind (wpAny_load (get?_update_seq made _) (wpAny_pure ?_))
    simpa using h
  · simp only [Array.size_append, List.size_toArray, List.size_toArray, List.length_nil, Nat.zero_add]
    omega
open SrtO Srt in
theorem sorted_tup {l : Addr} {vs : List Value} {ns : List Int} {Q : Value → Shared → Prop} (hl : IsTup s.heap l vs.toArray) (hz : vs.length ≤ sizeLine) (hi : IntsAre vs ns)
    (h : ∀ out : List Value, Srtd ltIv out → Stb ltIv out vs → Q (.ref (s.heap.objs.size + 1)) { s with heap := sortedAll s.heap vs out.toArray }) :
    wpAny (model prog w) A (call (.builtin "sorted") [.ref l]) Q E s := by
  have h1 : ((s.heap.push (seqObj "list" #[] 0)).update s.heap.objs.size (Obj.mapSeq (· ++ vs.toArray))).objs.size = s.heap.objs.size + 1 := by rw [Heap.size_update, size_push']
  have h2 : (((s.heap.push (seqObj "list" #[] 0)).update s.heap.objs.size (Obj.mapSeq (· ++ vs.toArray))).push (seqObj "list" vs.toArray 0)).get? (s.heap.objs.size + 1) = some (seqObj "list" vs.toArray 0) := by rw [← h1]; exact Heap.get?_push_size _ rfl
  refine Calls.call_function_entry kind_sorted plain_sorted entry_sorted (args_sorted1 _) ?_
  unfold Builtin.«sorted»
  refine wpAny_bind (m := checkCount "sorted" 1 1 _) (wpAny_pure (wpAny_bind (gather_tup hl hz (wpAny_bind (wpAny_newList ?_ hz)))))
  show wpAny _ _ _ _ _ { s with heap := ((s.heap.push (seqObj "list" #[] 0)).update s.heap.objs.size (Obj.mapSeq (· ++ vs.toArray))).push (seqObj "list" vs.toArray 0) }
  rw [h1]
  exact wpAny_bind (wpAny_holding (wpAny_call_entry slot_list_sort ⟨_, h2, rfl⟩ entry_list_sort (list_sort_ord swo_int h2 hz (fun k2 => ints_sortable hi k2) fun out hs hb => ⟨_, rfl, wpAny_pure ⟨_, rfl, h out hs hb⟩⟩) (args_list_sort _)))
end
section
variable {X : Cx} {W : WX}
/-- sorted(list or tuple of whole numbers) -/
def rSrt (K : Frag) : List V → Hp → VK → Prop := fun vs H Q => ∃ (a : Addr) (ns : List Int), vs = [V.ref a] ∧ (SqL K H a (ns.map V.int) ∨ SqT K H a (ns.map V.int)) ∧ ∀ p : Addr, H p = none → Q (.ref p) (upd H p (.lst ((sortI ns).map V.int)))
theorem cr_srt : CallR X (.builtin "sorted") (rSrt X.K) := by
  intro pins s σ H vs us Q I r ⟨a, ns, e, hs, q⟩
  rcases hs with hs | hs
  · exact cr_sortedI pins s σ H vs us Q I r ⟨a, ns, e, hs, fun ns' p h1 h2 h3 => by rw [asc_unique (h1.trans (sortI_perm ns).symm) h2 (sortI_asc ns)]; exact q p h3⟩
  · subst e
    obtain ⟨its, rv, hl, hz⟩ := I.tuple hs
    rw [Vals.ref1 r]
    have hi := rv.ints
    refine sorted_tup hl (by rw [← rv.length]; exact hz) hi fun out h1 h2 => ?_
    obtain ⟨k1, k2, k3⟩ := SrtO.ints_out hi h1 h2
    obtain ⟨ep, he'⟩ := PyProof.Rows.sortedAll_at s.heap its out.toArray
    have e2 : out.map SrtO.iv = sortI ns := asc_unique (k2.trans (sortI_perm ns).symm) k3 (sortI_asc ns)
    rw [e2] at k1 k2
    have hlen : ((sortI ns).map V.int).length ≤ sizeLine := by
      rw [List.length_map, (sortI_perm ns).length_eq, ← List.length_map (f := V.int)]
      exact hz
    exact ⟨.ref _, upd H (s.heap.objs.size + 1) (.lst ((sortI ns).map V.int)), I.laid (t' := s.toks) (fun _ _ => PyProof.Rows.sortedAll_old) (Nat.le_succ _) ⟨hlen, out, ep, vals_of_ints k1, he'⟩, rfl, q _ (I.hok.fresh (Nat.le_succ _))⟩
def sortE (f : Ev) : Env → Mem → Res (List PyData) := fun e M => (f e M).bind fun x M1 => match (seqOf M1 x).bind intsOf with
  | some ns => .ok ((sortI ns).map PyData.int) M1
  | none => .st
theorem df_sorted {e : Expr} {f : Ev} {p pos : Pos} (hg : Gl X "sorted") (hm : X.mg "sorted" = none) (ha : DE X W e f) (he : starEach [e] X.env = (false, eval e X.env) :: starEach [] X.env := by rfl)
    (hpl : (backTo pos (starEach [] X.env)).any (·.1) = false := by rfl) (hv : bootBuiltins "sorted" = some (.builtin "sorted") := by decide +kernel) : DF X W (.Call (.Name "sorted" p) [e] [] pos) (sortE f) :=
  PEweak (pe_callB cr_srt hg hm hv (pa_cons ha pa_nil he) (by decide) (by decide) he hpl) fun σ H Q ⟨w, e, M, r, re, p⟩ =>
    ⟨w, e, M, r, re, p.bind fun x M1 w1 v H1 l1 r1 rv p1 => by
      split at p1
      · rename_i ns hq
        obtain ⟨xs, hx, hn⟩ := Option.bind_eq_some_iff.mp hq
        obtain ⟨q, ws, rfl, hs, d⟩ := seq_at r1 rv hx
        rw [ints_at d hn] at hs
        exact ⟨q, ns, rfl, hs, p1.at r1 (DpAll.ints _)⟩
      · exact p1.elim⟩
end
end DL
namespace DL
open PySem PySem.Spec L2
end DL
namespace DL
open PySem PySem.Spec L2
def cta (f2 : Ev) (e : Env) (r : Res Vl) : Res (List PyData) := r.bind fun x M1 => (f2 e M1).bind fun y M2 => match lstOf M2 x, lstOf M2 y with
  | some xs, some ys => if xs.length + ys.length ≤ sizeLine then .ok (xs ++ ys) M2 else .st
  | _, _ => .st
theorem catE_a {f1 f2 : Ev} {e : Env} {M : Mem} : catE f1 f2 e M = cta f2 e (f1 e M) := by unfold catE cta; rfl
def ctb (xs : List PyData) (r : Res Vl) : Res (List PyData) := r.bind fun y M2 => match lstOf M2 (.d (.list xs)), lstOf M2 y with
  | some xs, some ys => if xs.length + ys.length ≤ sizeLine then .ok (xs ++ ys) M2 else .st
  | _, _ => .st
theorem cta_l {f2 : Ev} {e : Env} {M1 : Mem} {xs : List PyData} : cta f2 e (.ok (.d (.list xs)) M1) = ctb xs (f2 e M1) := Eq.trans rfl rfl
theorem ctb_l {M1 : Mem} {xs ys : List PyData} : ctb xs (.ok (.d (.list ys)) M1) = if xs.length + ys.length ≤ sizeLine then .ok (xs ++ ys) M1 else .st := Eq.trans rfl rfl
theorem isnt_n {x : PyData} {M : Mem} : isntV (.d x) (.d .none) M = .ok (.d (.bool (!C.noneB x))) M := by cases x <;> rfl
theorem ixN_last {n : Nat} (h : 0 < n) : ixN n (-1) = some (n - 1) := by
  unfold ixN
  rw [if_neg (by omega), if_pos (by omega)]
  congr 1
  omega
theorem atI_last {α : Type} {xs : List α} {x : α} : atI (xs ++ [x]) (-1) = some x := by
  unfold atI
  rw [ixN_last (by simp)]
  simp
namespace C
end C
end DL
namespace DL
open PySem PySem.Spec L2
theorem zw_sum_add : ∀ (xs ys : List Int), xs.length = ys.length → (List.zipWith (fun a b => a + b) xs ys).sum = xs.sum + ys.sum
  | [], [], _ => rfl
  | x :: xs, y :: ys, h => by
    rw [List.zipWith_cons_cons, List.sum_cons, List.sum_cons, List.sum_cons, zw_sum_add xs ys (by simpa using h)]
    omega
theorem zw_sum_sub : ∀ (xs ys : List Int), xs.length = ys.length → (List.zipWith (fun a b => a - b) xs ys).sum = xs.sum - ys.sum
  | [], [], _ => rfl
  | x :: xs, y :: ys, h => by
    rw [List.zipWith_cons_cons, List.sum_cons, List.sum_cons, List.sum_cons, zw_sum_sub xs ys (by simpa using h)]
    omega
theorem mod_sum (n : Int) : ∀ l : List Int, ∃ q, l.sum = (l.map (· % n)).sum + n * q
  | [] => ⟨0, by simp⟩
  | x :: l => by
    obtain ⟨q, h⟩ := mod_sum n l
    refine ⟨x / n + q, ?_⟩
    rw [List.map_cons, List.sum_cons, List.sum_cons, h, Int.mul_add]
    have := Int.emod_add_mul_ediv x n
    omega
theorem perm_sum {l l' : List Int} (h : l.Perm l') : l.sum = l'.sum := by
  induction h with
  | nil => rfl
  | cons x _ ih => rw [List.sum_cons, List.sum_cons, ih]
  | swap x y l => rw [List.sum_cons, List.sum_cons, List.sum_cons, List.sum_cons]; omega
  | trans _ _ h1 h2 => exact h1.trans h2
theorem get_some {α : Type} {l : List α} {k : Nat} (h : k < l.length) : ∃ x, l[k]? = some x := ⟨l[k], List.getElem?_eq_getElem h⟩
abbrev castI (ss : List Nat) : List Int := ss.map fun s : Nat => (s : Int)
/-- the least purses of other seats, with these residues -/
def leastI (n : Nat) (rs : List Int) (tt : List Nat) : List Int := List.zipWith (fun r t => (r - t) % (n : Int)) rs (castI tt)
theorem resI_add {ss : List Nat} {ps : List Int} : resI ss ps = (List.zipWith (fun a b => a + b) (castI ss) ps).map (· % (ss.length : Int)) := by
  unfold resI castI
  rw [List.zipWith_map_left, List.map_zipWith]
theorem least_sum {n : Nat} {ss tt : List Nat} {ps : List Int} (h : Stt n ss ps) (ht : tt.Perm (List.range n)) : ∃ q, ps.sum = (leastI n (resI ss ps) tt).sum + n * q := by
  have hl := h.slen
  have htl : tt.length = n := by rw [ht.length_eq, List.length_range]
  have e1 := zw_sum_add (castI ss) ps (by simp [hl, h.len])
  obtain ⟨q1, h1⟩ := mod_sum (n : Int) (List.zipWith (fun a b => a + b) (castI ss) ps)
  have hr : resI ss ps = (List.zipWith (fun a b => a + b) (castI ss) ps).map (· % (n : Int)) := by rw [resI_add, hl]
  rw [← hr] at h1
  have hrl : (resI ss ps).length = n := by rw [resI_len, hl, h.len]; simp
  have e2 := zw_sum_sub (resI ss ps) (castI tt) (by simp [hrl, htl])
  obtain ⟨q2, h2⟩ := mod_sum (n : Int) (List.zipWith (fun a b => a - b) (resI ss ps) (castI tt))
  have hle : leastI n (resI ss ps) tt = (List.zipWith (fun a b => a - b) (resI ss ps) (castI tt)).map (· % (n : Int)) := by
    unfold leastI
    rw [List.map_zipWith]
  rw [← hle] at h2
  have e3 : (castI ss).sum = (castI tt).sum := perm_sum ((h.perm.trans ht.symm).map _)
  refine ⟨q1 + q2, ?_⟩
  rw [Int.mul_add]
  omega
theorem resI_lt {n : Nat} {ss : List Nat} {ps : List Int} (hl : ss.length = n) (h0 : 0 < n) {k : Nat} {r : Int} (h : (resI ss ps)[k]? = some r) : 0 ≤ r ∧ r < n ∧ r % n = r := by
  unfold resI at h
  rw [List.getElem?_zipWith] at h
  split at h
  · rename_i a b _ _
    cases h
    rw [hl]
    have h1 := Int.emod_nonneg ((a : Int) + b) (show (n : Int) ≠ 0 by omega)
    have h2 := Int.emod_lt_of_pos ((a : Int) + b) (show (0 : Int) < n by omega)
    exact ⟨h1, h2, Int.emod_emod ..⟩
  · cases h
/-- purses while the rest is being given out -/
structure LkI (n : Nat) (tt : List Nat) (rs : List Int) (S : Int) (b : List Int) (r : Int) : Prop where
  len : b.length = n
  nn : ∀ p ∈ b, 0 ≤ p
  res : resI tt b = rs
  sum : b.sum + n * r = S
  r0 : 0 ≤ r
theorem LkI.start {n : Nat} {ss tt : List Nat} {ps : List Int} (h : Stt n ss ps) (h0 : 0 < n) (ht : tt.Perm (List.range n)) (hr : 0 ≤ (ps.sum - (leastI n (resI ss ps) tt).sum) / n) :
    LkI n tt (resI ss ps) ps.sum (leastI n (resI ss ps) tt) ((ps.sum - (leastI n (resI ss ps) tt).sum) / n) := by
  have hl := h.slen
  have htl : tt.length = n := by rw [ht.length_eq, List.length_range]
  have hrl : (resI ss ps).length = n := by rw [resI_len, hl, h.len]; simp
  obtain ⟨q, hq⟩ := least_sum h ht
  have e : (ps.sum - (leastI n (resI ss ps) tt).sum) / n = q := by
    rw [hq, show (leastI n (resI ss ps) tt).sum + n * q - (leastI n (resI ss ps) tt).sum = n * q by omega]
    exact Int.mul_ediv_cancel_left _ (by omega)
  have hg : ∀ k : Nat, (leastI n (resI ss ps) tt)[k]? = match (resI ss ps)[k]?, tt[k]? with
      | some r, some t => some ((r - (t : Int)) % n)
      | _, _ => none := fun k => by
    unfold leastI castI
    rw [List.getElem?_zipWith, List.getElem?_map]
    cases (resI ss ps)[k]? <;> cases tt[k]? <;> rfl
  refine ⟨by unfold leastI; simp [hrl, htl], fun p hp => ?_, ?_, by rw [e]; omega, hr⟩
  · obtain ⟨k, hk⟩ := List.getElem?_of_mem hp
    rw [hg] at hk
    split at hk
    · cases hk
      exact Int.emod_nonneg _ (by omega)
    · cases hk
  · apply ext_of
    intro k
    by_cases hk : k < n
    · have h1 : (resI ss ps)[k]? = some (resI ss ps)[k] := List.getElem?_eq_getElem (by omega)
      have h2 : tt[k]? = some tt[k] := List.getElem?_eq_getElem (by omega)
      generalize (resI ss ps)[k] = r at h1
      generalize tt[k] = t at h2
      have h3 : (leastI n (resI ss ps) tt)[k]? = some ((r - (t : Int)) % n) := by rw [hg, h1, h2]
      rw [resI_get h2 h3, h1, htl, Int.add_emod_emod, show (t : Int) + (r - t) = r by omega, (resI_lt hl h0 h1).2.2]
    · rw [List.getElem?_eq_none (by rw [resI_len, htl]; omega), List.getElem?_eq_none (by omega)]
theorem LkI.step {n : Nat} {tt : List Nat} {rs : List Int} {S r x m : Int} {b : List Int} {w : Nat} (h : LkI n tt rs S b r) (htl : tt.length = n) (hx : b[w]? = some x) (h0 : 0 ≤ m) (hm : m ≤ r) : LkI n tt rs S (b.set w (x + n * m)) (r - m) := by
  have hw := lt_of_getL hx
  refine ⟨by simp [h.len], fun p hp => ?_, ?_, ?_, by omega⟩
  · rcases List.mem_or_eq_of_mem_set hp with hp | rfl
    · exact h.nn p hp
    · have := h.nn x (List.mem_of_getElem? hx)
      have := Int.mul_nonneg (show (0 : Int) ≤ n by omega) h0
      omega
  · rw [← h.res]
    apply ext_of
    intro k
    by_cases hk : k = w
    · subst hk
      have hk2 : k < tt.length := by rw [htl, ← h.len]; exact hw
      have h2 : tt[k]? = some tt[k] := List.getElem?_eq_getElem hk2
      have h3 : (b.set k (x + n * m))[k]? = some (x + n * m) := by rw [List.getElem?_set_self hw]
      rw [resI_get h2 h3, resI_get h2 hx, htl, ← Int.add_assoc, Int.add_mul_emod_self_left]
    · unfold resI
      rw [List.getElem?_zipWith, List.getElem?_zipWith, List.getElem?_set_ne (Ne.symm hk)]
  · rw [sum_set _ _ _ _ hx, Int.mul_sub]
    have := h.sum
    omega
namespace C
end C
end DL
namespace DL
open PySem PySem.Spec L2
end DL
namespace DL
open PySem PySem.Spec L2
namespace C
end C
end DL
namespace DL
open PySem PySem.Spec L2
/-- pairs x, y below n, x below y -/
def pairs (n : Nat) : List (Nat × Nat) := (List.range n).flatMap fun x => (List.range' (x + 1) (n - (x + 1))).map fun y => (x, y)
abbrev absI (i : Int) : Int := if i < 0 then -i else i
/-- everybody's place on the line; seats are places modulo n -/
structure Pl (n : Nat) (s q : Nat → Int) : Prop where
  pos : 0 < n
  lt : ∀ x, x < n → 0 ≤ s x ∧ s x < n
  inj : ∀ x y, x < n → y < n → s x = s y → x = y
  onto : ∀ c : Nat, c < n → ∃ x, x < n ∧ s x = c
  mod : ∀ x, x < n → q x % n = s x
/-- who sits behind x on the line, one place ahead -/
theorem Pl.next {n : Nat} {s q : Nat → Int} (h : Pl n s q) {x : Nat} (hx : x < n) : ∃ y t, y < n ∧ q y + n * t = q x + 1 := by
  have h0 := h.pos
  have hs := h.lt x hx
  have hm := h.mod x hx
  have h2 := Int.emod_nonneg (q x + 1) (show (n : Int) ≠ 0 by omega)
  have h3 := Int.emod_lt_of_pos (q x + 1) (show (0 : Int) < n by omega)
  obtain ⟨c, hc⟩ := Int.eq_ofNat_of_zero_le h2
  obtain ⟨y, hy, hys⟩ := h.onto c (by omega)
  have hmy := h.mod y hy
  refine ⟨y, (q x + 1) / n - q y / n, hy, ?_⟩
  have e1 := Int.emod_add_mul_ediv (q y) n
  have e2 := Int.emod_add_mul_ediv (q x + 1) n
  rw [Int.mul_sub]
  omega
/-- one exchange: j goes one place on, k one back, k one place ahead of j -/
structure ExQ (n : Nat) (q q' : Nat → Int) (j k : Nat) (t : Int) : Prop where
  jn : j < n
  kn : k < n
  ne : j ≠ k
  near : q k + n * t = q j + 1
  qj : q' j = q j + 1
  qk : q' k = q k - 1
  oth : ∀ x, x < n → x ≠ j → x ≠ k → q' x = q x
theorem ExQ.pl {n : Nat} {s s' q q' : Nat → Int} (h' : Pl n s' q') : Pl n s' q' := h'
end DL
namespace DL
open PySem PySem.Spec L2
def sF (ss : List Nat) (x : Nat) : Int := ((ss.getD x 0 : Nat) : Int)
def pF (ps : List Int) (x : Nat) : Int := ps.getD x 0
/-- the place on the line -/
def qF (ss : List Nat) (ps : List Int) (x : Nat) : Int := pF (resI ss ps) x - pF ps x
theorem sF_at {ss : List Nat} {x c : Nat} (h : ss[x]? = some c) : sF ss x = c := by
  unfold sF
  rw [List.getD_eq_getElem?_getD, h]
  rfl
theorem pF_at {ps : List Int} {x : Nat} {c : Int} (h : ps[x]? = some c) : pF ps x = c := by
  unfold pF
  rw [List.getD_eq_getElem?_getD, h]
  rfl
theorem Stt.pl {n : Nat} {ss : List Nat} {ps : List Int} (h : Stt n ss ps) (h0 : 0 < n) : Pl n (sF ss) (qF ss ps) := by
  have hl := h.slen
  have at_ : ∀ x, x < n → ∃ c p, ss[x]? = some c ∧ ps[x]? = some p ∧ c < n := fun x hx => by
    obtain ⟨c, hc⟩ := get_some (show x < ss.length by omega)
    obtain ⟨p, hp⟩ := get_some (show x < ps.length by rw [h.len]; exact hx)
    exact ⟨c, p, hc, hp, h.lt hc⟩
  refine ⟨h0, fun x hx => ?_, fun x y hx hy e => ?_, fun c hc => ?_, fun x hx => ?_⟩
  · obtain ⟨c, p, hc, _, hl⟩ := at_ x hx
    rw [sF_at hc]
    omega
  · obtain ⟨c, p, hc, _, _⟩ := at_ x hx
    obtain ⟨d, p', hd, _, _⟩ := at_ y hy
    rw [sF_at hc, sF_at hd] at e
    have : c = d := by omega
    subst this
    exact h.inj hc hd
  · obtain ⟨j, hj⟩ := h.onto hc
    exact ⟨j, by have := lt_of_getL hj; omega, sF_at hj⟩
  · obtain ⟨c, p, hc, hp, hcn⟩ := at_ x hx
    unfold qF
    rw [pF_at (resI_get hc hp), pF_at hp, sF_at hc, hl, Int.emod_sub_emod, show (c : Int) + p - p = c by omega]
    exact Int.emod_eq_of_lt (by omega) (by omega)
/-- the number that the program computes for x and y -/
def crossI (n : Nat) (ss : List Nat) (ps qs : List Int) (x y : Nat) : Int := absI (((sF ss y + (pF ps y - pF qs y)) - (sF ss x + (pF ps x - pF qs x))) / n - (sF ss y - sF ss x) / n)
def distI (n : Nat) (ss : List Nat) (ps qs : List Int) : Int := ((pairs n).map fun z => crossI n ss ps qs z.1 z.2).sum
namespace C
theorem inverse_ok {x : Vl} {ss : List Nat} {M : Mem} (hx : SeqV x (ss.map nD)) (hp : PN ss) (hl : ss.length ≤ 1000) :
    ∃ ls : List Nat, m_inverse [x] M = .ok (.d (.tuple (ls.map nD))) M ∧ Inv2 ss ls := by
  have hlen : lenV [x] M = _ := hx.len
  rw [List.length_map] at hlen
  obtain ⟨e', M', el, ls, v2, v3, rfl, rfl, hP⟩ := forL_all (γ := tupT 2 (consT (setT 2) (consT (setT 3) nilT))) (g := asgS (getV 2) (subT (getV 1) (getV 3)))
    (fun j e M2 => ∃ (ls : List Nat) (v2 v3 : Option Vl), e = [some x, some (.h M.length), v2, v3] ∧ M2 = M ++ [.lst (ls.map nD)] ∧ Part ss ls j)
    (xs := numD (ss.map nD)) (e := [some x, some (.h M.length), none, none]) (M := M ++ [.lst ((List.replicate ss.length 0).map nD)])
    (by
      rintro j z e M2 hz ⟨ls, v2, v3, rfl, rfl, hP⟩
      obtain ⟨y, hy, rfl⟩ := C.numD_get hz
      rw [List.getElem?_map] at hy
      obtain ⟨p, hp1, rfl⟩ := Option.map_eq_some_iff.mp hy
      have hpl : p < (ls.map nD).length := by rw [List.length_map, hP.len]; exact hp.lt _ _ hp1
      have hput := putV_h (e := [some x, some (.h M.length), some (.d (nD j)), some (.d (nD p))]) (M := M ++ [.lst (ls.map nD)]) (y := nD j) (m1_a rfl) (ixN_nat hpl)
      rw [m1_sa rfl, set_nD] at hput
      refine ⟨[some x, some (.h M.length), some (.d (nD j)), some (.d (nD p))], M ++ [.lst (ls.map nD)], [some x, some (.h M.length), some (.d (nD j)), some (.d (nD p))], M ++ [.lst ((ls.set p j).map nD)], ?_, ?_, ls.set p j, _, _, rfl, rfl, hP.step hp hp1⟩
      · simp only [defM, startE, seqS_a, setS_a, bindS_ok, bindS_er, then_nx, then_rt, then_er, ifS_a, ifK_t, ifK_f, retS_a, dropS_a, asgS_a, asK_a, goG_ok, subT_a, nopS_a, getV_0, getV_s, cst_a, op2_a, o2a_ok, o2b_ok, opT_a, oTa_ok, oTb_ok, consA_a, cAa_ok, cAb_ok, nilA_a, callF_a, cFa_ok, callE_a, cEa_ok, newE_a, nwa_ok, datE_a, dta_ok, dispE_a, tupE_a, tpa_ok, asDs_a, datas, bind_ok, pur_ok, bool_b, leave_d, leave_nx, leave_er, ifE_a, ifa_t, ifa_f, notT_a, nta_ok, andT_a, ana_t, ana_f, orT_a, ora_t, ora_f, tstE_a, tsa_b, andE_a, aEa_t, aEa_f, orE_a, oEa_t, oEa_f, notE_a, nEa_ok, add_ii, sub_ii, gt_ii, lt_ii, ge_ii, le_ii, setT_a, consT_a, cTa_ok, nilT_a, tupT_a, seqT_t, seqT_l, forS_a, List.map_cons, List.map_nil, List.length_cons, List.length_nil, Nat.reduceAdd, Nat.reduceSub, Nat.zero_add, Nat.add_zero, List.replicate, List.cons_append, List.nil_append, List.append_nil, List.getElem?_cons_zero, List.getElem?_cons_succ, List.set_cons_zero, List.set_cons_succ, List.getElem?_nil, Option.map_some, Option.map_none, Option.bind_some, if_true, if_false, ite_true, ite_false, eq_self_iff_true, and_self, and_true, true_and, decide_true, decide_false, Bool.false_eq_true, Bool.not_true, Bool.not_false, sizeLine, Nat.reducePow, Nat.reduceLeDiff, Nat.zero_le, pow_7, pow_18, pow_40]
      · simp only [defM, startE, seqS_a, setS_a, bindS_ok, bindS_er, then_nx, then_rt, then_er, ifS_a, ifK_t, ifK_f, retS_a, dropS_a, asgS_a, asK_a, goG_ok, subT_a, nopS_a, getV_0, getV_s, cst_a, op2_a, o2a_ok, o2b_ok, opT_a, oTa_ok, oTb_ok, consA_a, cAa_ok, cAb_ok, nilA_a, callF_a, cFa_ok, callE_a, cEa_ok, newE_a, nwa_ok, datE_a, dta_ok, dispE_a, tupE_a, tpa_ok, asDs_a, datas, bind_ok, pur_ok, bool_b, leave_d, leave_nx, leave_er, ifE_a, ifa_t, ifa_f, notT_a, nta_ok, andT_a, ana_t, ana_f, orT_a, ora_t, ora_f, tstE_a, tsa_b, andE_a, aEa_t, aEa_f, orE_a, oEa_t, oEa_f, notE_a, nEa_ok, add_ii, sub_ii, gt_ii, lt_ii, ge_ii, le_ii, setT_a, consT_a, cTa_ok, nilT_a, tupT_a, seqT_t, seqT_l, forS_a, List.map_cons, List.map_nil, List.length_cons, List.length_nil, Nat.reduceAdd, Nat.reduceSub, Nat.zero_add, Nat.add_zero, List.replicate, List.cons_append, List.nil_append, List.append_nil, List.getElem?_cons_zero, List.getElem?_cons_succ, List.set_cons_zero, List.set_cons_succ, List.getElem?_nil, Option.map_some, Option.map_none, Option.bind_some, if_true, if_false, ite_true, ite_false, eq_self_iff_true, and_self, and_true, true_and, decide_true, decide_false, Bool.false_eq_true, Bool.not_true, Bool.not_false, sizeLine, Nat.reducePow, Nat.reduceLeDiff, Nat.zero_le, pow_7, pow_18, pow_40, hput])
    ⟨_, none, none, rfl, rfl, Part.zero ss⟩
  have hnl : (numD (ss.map nD)).length = ss.length := by unfold numD; simp
  rw [hnl] at hP
  have e0 : (List.replicate ss.length 0).map nD = List.replicate ss.length (PyData.int 0) := by rw [List.map_replicate]; rfl
  rw [e0] at el
  have fz := freeze_at (i := 1) (e := [some x, some (.h M.length), v2, v3]) (M := M ++ [.lst (ls.map nD)]) rfl (m1_a rfl)
  rw [m1_sa rfl] at fz
  refine ⟨ls, ?_, hP.done⟩
  have hr : repE (datE (dispE (consA (cst (.d (.int 0))) nilA))) (callE lenV (consA (getV 0) nilA)) [some x, none, none, none] M = .ok (List.replicate ss.length (.int 0)) M := rep_a (by simp only [defM, startE, seqS_a, setS_a, bindS_ok, bindS_er, then_nx, then_rt, then_er, ifS_a, ifK_t, ifK_f, retS_a, dropS_a, asgS_a, asK_a, goG_ok, subT_a, nopS_a, getV_0, getV_s, cst_a, op2_a, o2a_ok, o2b_ok, opT_a, oTa_ok, oTb_ok, consA_a, cAa_ok, cAb_ok, nilA_a, callF_a, cFa_ok, callE_a, cEa_ok, newE_a, nwa_ok, datE_a, dta_ok, dispE_a, tupE_a, tpa_ok, asDs_a, datas, bind_ok, pur_ok, bool_b, leave_d, leave_nx, leave_er, ifE_a, ifa_t, ifa_f, notT_a, nta_ok, andT_a, ana_t, ana_f, orT_a, ora_t, ora_f, tstE_a, tsa_b, andE_a, aEa_t, aEa_f, orE_a, oEa_t, oEa_f, notE_a, nEa_ok, add_ii, sub_ii, gt_ii, lt_ii, ge_ii, le_ii, setT_a, consT_a, cTa_ok, nilT_a, tupT_a, seqT_t, seqT_l, forS_a, List.map_cons, List.map_nil, List.length_cons, List.length_nil, Nat.reduceAdd, Nat.reduceSub, Nat.zero_add, Nat.add_zero, List.replicate, List.cons_append, List.nil_append, List.append_nil, List.getElem?_cons_zero, List.getElem?_cons_succ, List.set_cons_zero, List.set_cons_succ, List.getElem?_nil, Option.map_some, Option.map_none, Option.bind_some, if_true, if_false, ite_true, ite_false, eq_self_iff_true, and_self, and_true, true_and, decide_true, decide_false, Bool.false_eq_true, Bool.not_true, Bool.not_false, sizeLine, Nat.reducePow, Nat.reduceLeDiff, Nat.zero_le, pow_7, pow_18, pow_40, hlen]) (by omega)
  have hen : enumI (getV 0) [some x, some (.h M.length), none, none] (M ++ [.lst (List.replicate ss.length (.int 0))]) = .ok (numD (ss.map nD)) (M ++ [.lst (List.replicate ss.length (.int 0))]) := C.enumI_a (x := x) (by simp only [defM, startE, seqS_a, setS_a, bindS_ok, bindS_er, then_nx, then_rt, then_er, ifS_a, ifK_t, ifK_f, retS_a, dropS_a, asgS_a, asK_a, goG_ok, subT_a, nopS_a, getV_0, getV_s, cst_a, op2_a, o2a_ok, o2b_ok, opT_a, oTa_ok, oTb_ok, consA_a, cAa_ok, cAb_ok, nilA_a, callF_a, cFa_ok, callE_a, cEa_ok, newE_a, nwa_ok, datE_a, dta_ok, dispE_a, tupE_a, tpa_ok, asDs_a, datas, bind_ok, pur_ok, bool_b, leave_d, leave_nx, leave_er, ifE_a, ifa_t, ifa_f, notT_a, nta_ok, andT_a, ana_t, ana_f, orT_a, ora_t, ora_f, tstE_a, tsa_b, andE_a, aEa_t, aEa_f, orE_a, oEa_t, oEa_f, notE_a, nEa_ok, add_ii, sub_ii, gt_ii, lt_ii, ge_ii, le_ii, setT_a, consT_a, cTa_ok, nilT_a, tupT_a, seqT_t, seqT_l, forS_a, List.map_cons, List.map_nil, List.length_cons, List.length_nil, Nat.reduceAdd, Nat.reduceSub, Nat.zero_add, Nat.add_zero, List.replicate, List.cons_append, List.nil_append, List.append_nil, List.getElem?_cons_zero, List.getElem?_cons_succ, List.set_cons_zero, List.set_cons_succ, List.getElem?_nil, Option.map_some, Option.map_none, Option.bind_some, if_true, if_false, ite_true, ite_false, eq_self_iff_true, and_self, and_true, true_and, decide_true, decide_false, Bool.false_eq_true, Bool.not_true, Bool.not_false, sizeLine, Nat.reducePow, Nat.reduceLeDiff, Nat.zero_le, pow_7, pow_18, pow_40]) hx.walk (by simp; omega)
  unfold m_inverse g_inverse
  simp only [defM, startE, seqS_a, setS_a, bindS_ok, bindS_er, then_nx, then_rt, then_er, ifS_a, ifK_t, ifK_f, retS_a, dropS_a, asgS_a, asK_a, goG_ok, subT_a, nopS_a, getV_0, getV_s, cst_a, op2_a, o2a_ok, o2b_ok, opT_a, oTa_ok, oTb_ok, consA_a, cAa_ok, cAb_ok, nilA_a, callF_a, cFa_ok, callE_a, cEa_ok, newE_a, nwa_ok, datE_a, dta_ok, dispE_a, tupE_a, tpa_ok, asDs_a, datas, bind_ok, pur_ok, bool_b, leave_d, leave_nx, leave_er, ifE_a, ifa_t, ifa_f, notT_a, nta_ok, andT_a, ana_t, ana_f, orT_a, ora_t, ora_f, tstE_a, tsa_b, andE_a, aEa_t, aEa_f, orE_a, oEa_t, oEa_f, notE_a, nEa_ok, add_ii, sub_ii, gt_ii, lt_ii, ge_ii, le_ii, setT_a, consT_a, cTa_ok, nilT_a, tupT_a, seqT_t, seqT_l, forS_a, List.map_cons, List.map_nil, List.length_cons, List.length_nil, Nat.reduceAdd, Nat.reduceSub, Nat.zero_add, Nat.add_zero, List.replicate, List.cons_append, List.nil_append, List.append_nil, List.getElem?_cons_zero, List.getElem?_cons_succ, List.set_cons_zero, List.set_cons_succ, List.getElem?_nil, Option.map_some, Option.map_none, Option.bind_some, if_true, if_false, ite_true, ite_false, eq_self_iff_true, and_self, and_true, true_and, decide_true, decide_false, Bool.false_eq_true, Bool.not_true, Bool.not_false, sizeLine, Nat.reducePow, Nat.reduceLeDiff, Nat.zero_le, pow_7, pow_18, pow_40, hr, hen, el, fz, tup_l]
  rw [List.take_append_of_le_length (by simp), take_all (by simp)]
/-- the people on the seats -/
def backL (ss : List Nat) : List Nat := (List.range ss.length).map fun c => ss.idxOf c
theorem inv2_back {n : Nat} {ss : List Nat} {ps : List Int} (h : Stt n ss ps) {ls : List Nat} (hi : Inv2 ss ls) : ls = backL ss := by
  apply ext_of
  intro c
  have hl := h.slen
  by_cases hc : c < n
  · obtain ⟨j, hj⟩ := h.onto hc
    rw [hi.at_ j c hj]
    unfold backL
    rw [List.getElem?_map, hl, List.getElem?_range hc]
    have hm : c ∈ ss := List.mem_of_getElem? hj
    have hlt : ss.idxOf c < ss.length := List.idxOf_lt_length_iff.mpr hm
    have hg : ss[ss.idxOf c]? = some c := by rw [List.getElem?_eq_getElem hlt, List.getElem_idxOf hlt]
    rw [h.inj hj hg]
    rfl
  · rw [List.getElem?_eq_none (by rw [hi.len]; omega), List.getElem?_eq_none (by unfold backL; simp; omega)]
theorem back_at {n : Nat} {ss : List Nat} {ps : List Int} (h : Stt n ss ps) {j c : Nat} (hj : ss[j]? = some c) : (backL ss)[c]? = some j := by
  have hl := h.slen
  have hc := h.lt hj
  unfold backL
  rw [List.getElem?_map, hl, List.getElem?_range hc]
  have hm : c ∈ ss := List.mem_of_getElem? hj
  have hlt : ss.idxOf c < ss.length := List.idxOf_lt_length_iff.mpr hm
  have hg : ss[ss.idxOf c]? = some c := by rw [List.getElem?_eq_getElem hlt, List.getElem_idxOf hlt]
  rw [h.inj hj hg]
  rfl
theorem backL_len {ss : List Nat} : (backL ss).length = ss.length := by unfold backL; simp
end C
end DL
namespace DL
open PySem PySem.Spec L2
theorem augSub_a {op : Int → Int → Int} {fo fi fe : Ev} {e : Env} {M : Mem} {p k : Nat} {xs : List PyData} {a b : Int} (h1 : fo e M = .ok (.h p) M) (h2 : fi e M = .ok (.d (.int (k : Nat))) M) (h3 : M[p]? = some (.lst xs)) (h4 : xs[k]? = some (.int a)) (h5 : fe e M = .ok (.d (.int b)) M) :
    augSubS op fo fi fe e M = .go .nx e (M.set p (.lst (xs.set k (.int (op a b))))) := by
  unfold augSubS
  simp only [h1, h2, h3, atI_some h4, h5]
  rw [if_pos (by omega)]
  simp only [ixN_nat (lt_of_getL h4)]
namespace C
end C
/-- an exchange, on the line -/
theorem Ex.q {n c : Nat} {ss ss' : List Nat} {ps ps' : List Int} (h : Stt n ss ps) (h2 : 2 ≤ n) (x : Ex n ss ps c ss' ps') : ∃ j k t, ss[j]? = some c ∧ ss[k]? = some ((c + 1) % n) ∧ ExQ n (qF ss ps) (qF ss' ps') j k t := by
  obtain ⟨h', L⟩ := x.ok h h2
  obtain ⟨j, k, p, q, hj, hk, hp, hp0, hq, rfl, rfl⟩ := x.ex
  have hc := h.lt hj
  have hl := h.slen
  obtain ⟨hne, hlt⟩ := next_ne h2 hc
  have hjk : j ≠ k := fun e => hne (by rw [e, hk] at hj; exact Option.some.inj hj)
  have P := h.pl (by omega)
  have jn : j < n := by have := lt_of_getL hj; omega
  have kn : k < n := by have := lt_of_getL hk; omega
  have lpj := lt_of_getL hp
  have lpk := lt_of_getL hq
  have mj := P.mod j jn
  have mk := P.mod k kn
  rw [sF_at hj] at mj
  rw [sF_at hk] at mk
  have e1 := Int.emod_add_mul_ediv (qF ss ps j) n
  have e2 := Int.emod_add_mul_ediv (qF ss ps k) n
  have hd : ∃ u : Int, (((c + 1) % n : Nat) : Int) + n * u = (c : Int) + 1 := by
    refine ⟨((c + 1) / n : Nat), ?_⟩
    have := Nat.mod_add_div (c + 1) n
    exact_mod_cast this
  obtain ⟨u, hu⟩ := hd
  refine ⟨j, k, qF ss ps j / n - qF ss ps k / n + u, hj, hk, jn, kn, hjk, ?_, ?_, ?_, ?_⟩
  · rw [Int.mul_add, Int.mul_sub]
    omega
  · show pF (resI _ _) j - pF _ j = pF (resI ss ps) j - pF ps j + 1
    rw [← L.res, pF_at hp, pF_at (show ((ps.set j (p - 1)).set k (q + 1))[j]? = some (p - 1) by rw [List.getElem?_set_ne (Ne.symm hjk), List.getElem?_set_self lpj])]
    omega
  · show pF (resI _ _) k - pF _ k = pF (resI ss ps) k - pF ps k - 1
    rw [← L.res, pF_at hq, pF_at (show ((ps.set j (p - 1)).set k (q + 1))[k]? = some (q + 1) by rw [List.getElem?_set_self (by simpa using lpk)])]
    omega
  · intro y hy hyj hyk
    show pF (resI _ _) y - pF _ y = pF (resI ss ps) y - pF ps y
    rw [← L.res]
    unfold pF
    rw [List.getD_eq_getElem?_getD (l := (ps.set j (p - 1)).set k (q + 1)), List.getElem?_set_ne (Ne.symm hyk), List.getElem?_set_ne (Ne.symm hyj), ← List.getD_eq_getElem?_getD]
end DL
namespace DL
open PySem PySem.Spec L2
end DL
namespace DL
open PySem PySem.Spec L2
namespace C
def g_rounds_of : Sv := (seqS (setS 2 (callE lenV (consA (getV 0) nilA))) (seqS (setS 3 (op2 addV (op2 subV (getV 1) (callE sumTV (consA (getV 0) nilA))) (op2 fdivV (op2 mulV (getV 2) (op2 subV (getV 2) (cst (.d (.int 1))))) (cst (.d (.int 2)))))) (seqS (ifS (orT (opT ltV (getV 3) (cst (.d (.int 0)))) (opT neV (op2 modV (getV 3) (getV 2)) (cst (.d (.int 0))))) (retS (cst (.d .none))) nopS) (retS (op2 fdivV (getV 3) (getV 2))))))
def m_rounds_of : Fn := defM 4 0 g_rounds_of
def g_up_to_rounds : Sv := (seqS (setS 2 (cst (.d (.int 1)))) (seqS (forS (enumI (datE (sortE (getV 0)))) (tupT 2 (consT (setT 3) (consT (setT 4) nilT))) (setS 2 (op2 mulV (getV 2) (op2 subV (op2 addV (op2 addV (getV 1) (cst (.d (.int 1)))) (getV 4)) (getV 3))))) (retS (getV 2))))
def m_up_to_rounds : Fn := defM 5 0 g_up_to_rounds
def g_many_with : Sv := (seqS (setS 2 (callF 2 C.m_rounds_of (consA (getV 0) (consA (getV 1) nilA)))) (seqS (ifS (opT isV (getV 2) (cst (.d .none))) (retS (cst (.d (.int 0)))) nopS) (retS (op2 subV (callF 2 C.m_up_to_rounds (consA (getV 0) (consA (getV 2) nilA))) (callF 2 C.m_up_to_rounds (consA (getV 0) (consA (op2 subV (getV 2) (cst (.d (.int 1)))) nilA)))))))
def m_many_with : Fn := defM 3 0 g_many_with
end C
/-- the product, from the index i on -/
def prodA (z : Int) : Int → List Int → Int
  | _, [] => 1
  | i, k :: ks => (z + 1 + k - i) * prodA z (i + 1) ks
def upI (rs : List Int) (z : Int) : Int := prodA z 0 (sortI rs)
theorem prodA_app (z : Int) : ∀ (as bs : List Int) (i : Int), prodA z i (as ++ bs) = prodA z i as * prodA z (i + as.length) bs
  | [], bs, i => by simp [prodA]
  | a :: as, bs, i => by
    rw [List.cons_append, prodA, prodA, prodA_app z as bs (i + 1), Int.mul_assoc, List.length_cons]
    congr 3
    push_cast
    omega
/-- a bound of the product -/
theorem prodA_le {B : Nat} (z : Int) : ∀ (as : List Int) (i : Int), (∀ (j : Nat) (a : Int), as[j]? = some a → (z + 1 + a - (i + j)).natAbs ≤ B) → (prodA z i as).natAbs ≤ B ^ as.length
  | [], _, _ => by simp [prodA]
  | a :: as, i, h => by
    rw [prodA, Int.natAbs_mul, List.length_cons, Nat.pow_succ, Nat.mul_comm (B ^ as.length)]
    refine Nat.mul_le_mul (by simpa using h 0 a rfl) (prodA_le z as (i + 1) fun j x hx => ?_)
    have := h (j + 1) x (by simpa using hx)
    push_cast at this
    rw [show i + 1 + (j : Int) = i + (j + 1) by omega]
    exact this
theorem sortI_len (rs : List Int) : (sortI rs).length = rs.length := (sortI_perm rs).length_eq
theorem sortE_a {f : Ev} {e : Env} {M M1 : Mem} {x : Vl} {ns : List Int} (h : f e M = .ok x M1) (hx : seqOf M1 x = some (intsD ns)) : sortE f e M = .ok (intsD (sortI ns)) M1 := by
  unfold sortE
  rw [h, bind_ok]
  simp only [hx, Option.bind_some, intsOf_map]
theorem mul_big {i j : Int} {M : Mem} (h1 : i.natAbs < 2 ^ 400000) (h2 : j.natAbs < 2 ^ 400000) : mulV (.d (.int i)) (.d (.int j)) M = .ok (.d (.int (i * j))) M := by
  have hl : ∀ z : Int, z.natAbs < 2 ^ 400000 → z.natAbs.log2 < 400000 := fun z hz => by
    by_cases h0 : z.natAbs = 0
    · rw [h0]; decide
    · exact (Nat.log2_lt h0).mpr hz
  have a := hl i h1
  have b := hl j h2
  exact if_pos (.inr (.inr (by omega)))
namespace C
theorem up_ok {x : Vl} {rs : List Int} {z : Int} {M : Mem} (hx : SeqV x (intsD rs)) (hl : rs.length ≤ 1000) (hr : ∀ r ∈ rs, 0 ≤ r ∧ r < 1000) (hz : z.natAbs ≤ 2 ^ 250) : m_up_to_rounds [x, .d (.int z)] M = .ok (.d (.int (upI rs z))) M := by
  have hsz : sizeLine = 2 ^ 24 := rfl
  have hs : seqOf M x = some (intsD rs) := by rcases hx with rfl | rfl <;> rfl
  have hso : ∀ v2 v3 v4 : Option Vl, sortE (getV 0) [some x, some (.d (.int z)), v2, v3, v4] M = .ok (intsD (sortI rs)) M := fun v2 v3 v4 => sortE_a (x := x) (by simp only [defM, startE, seqS_a, setS_a, bindS_ok, bindS_er, then_nx, then_rt, then_er, ifS_a, ifK_t, ifK_f, retS_a, dropS_a, asgS_a, asK_a, goG_ok, subT_a, nopS_a, getV_0, getV_s, cst_a, op2_a, o2a_ok, o2b_ok, opT_a, oTa_ok, oTb_ok, consA_a, cAa_ok, cAb_ok, nilA_a, callF_a, cFa_ok, callE_a, cEa_ok, newE_a, nwa_ok, datE_a, dta_ok, dispE_a, tupE_a, tpa_ok, asDs_a, datas, bind_ok, pur_ok, bool_b, leave_d, leave_nx, leave_er, ifE_a, ifa_t, ifa_f, notT_a, nta_ok, andT_a, ana_t, ana_f, orT_a, ora_t, ora_f, tstE_a, tsa_b, andE_a, aEa_t, aEa_f, orE_a, oEa_t, oEa_f, notE_a, nEa_ok, add_ii, sub_ii, gt_ii, lt_ii, ge_ii, le_ii, setT_a, consT_a, cTa_ok, nilT_a, tupT_a, seqT_t, seqT_l, forS_a, List.map_cons, List.map_nil, List.length_cons, List.length_nil, Nat.reduceAdd, Nat.reduceSub, Nat.zero_add, Nat.add_zero, List.replicate, List.cons_append, List.nil_append, List.append_nil, List.getElem?_cons_zero, List.getElem?_cons_succ, List.set_cons_zero, List.set_cons_succ, List.getElem?_nil, Option.map_some, Option.map_none, Option.bind_some, if_true, if_false, ite_true, ite_false, eq_self_iff_true, and_self, and_true, true_and, decide_true, decide_false, Bool.false_eq_true, Bool.not_true, Bool.not_false, sizeLine, Nat.reducePow, Nat.reduceLeDiff, Nat.zero_le, pow_7, pow_18, pow_40]) hs
  have hen : enumI (datE (sortE (getV 0))) [some x, some (.d (.int z)), some (.d (.int 1)), none, none] M = .ok (numD (intsD (sortI rs))) M := C.enumI_a (x := .d (.list (intsD (sortI rs)))) (M1 := M) (by simp only [defM, startE, seqS_a, setS_a, bindS_ok, bindS_er, then_nx, then_rt, then_er, ifS_a, ifK_t, ifK_f, retS_a, dropS_a, asgS_a, asK_a, goG_ok, subT_a, nopS_a, getV_0, getV_s, cst_a, op2_a, o2a_ok, o2b_ok, opT_a, oTa_ok, oTb_ok, consA_a, cAa_ok, cAb_ok, nilA_a, callF_a, cFa_ok, callE_a, cEa_ok, newE_a, nwa_ok, datE_a, dta_ok, dispE_a, tupE_a, tpa_ok, asDs_a, datas, bind_ok, pur_ok, bool_b, leave_d, leave_nx, leave_er, ifE_a, ifa_t, ifa_f, notT_a, nta_ok, andT_a, ana_t, ana_f, orT_a, ora_t, ora_f, tstE_a, tsa_b, andE_a, aEa_t, aEa_f, orE_a, oEa_t, oEa_f, notE_a, nEa_ok, add_ii, sub_ii, gt_ii, lt_ii, ge_ii, le_ii, setT_a, consT_a, cTa_ok, nilT_a, tupT_a, seqT_t, seqT_l, forS_a, List.map_cons, List.map_nil, List.length_cons, List.length_nil, Nat.reduceAdd, Nat.reduceSub, Nat.zero_add, Nat.add_zero, List.replicate, List.cons_append, List.nil_append, List.append_nil, List.getElem?_cons_zero, List.getElem?_cons_succ, List.set_cons_zero, List.set_cons_succ, List.getElem?_nil, Option.map_some, Option.map_none, Option.bind_some, if_true, if_false, ite_true, ite_false, eq_self_iff_true, and_self, and_true, true_and, decide_true, decide_false, Bool.false_eq_true, Bool.not_true, Bool.not_false, sizeLine, Nat.reducePow, Nat.reduceLeDiff, Nat.zero_le, pow_7, pow_18, pow_40, hso]) rfl (by simp [sortI_len]; omega)
  have hmem : ∀ (j : Nat) (a : Int), (sortI rs)[j]? = some a → 0 ≤ a ∧ a < 1000 := fun j a ha => hr a ((sortI_perm rs).mem_iff.mp (List.mem_of_getElem? ha))
  have hB : ∀ (j : Nat) (a : Int), (sortI rs)[j]? = some a → (z + 1 + a - (0 + (j : Int))).natAbs ≤ 2 ^ 251 := fun j a ha => by
    have := hmem j a ha
    have hj := lt_of_getL ha
    rw [sortI_len] at hj
    omega
  have hpre : ∀ j : Nat, (prodA z 0 ((sortI rs).take j)).natAbs < 2 ^ 400000 := fun j => by
    have h1 := prodA_le (B := 2 ^ 251) z ((sortI rs).take j) 0 fun i a ha => hB i a (by
      rw [List.getElem?_take] at ha
      split at ha
      · exact ha
      · cases ha)
    have h2 : ((sortI rs).take j).length ≤ 1000 := by
      rw [List.length_take, sortI_len]
      omega
    refine Nat.lt_of_le_of_lt h1 ?_
    rw [← Nat.pow_mul]
    exact Nat.pow_lt_pow_right (by decide) (by omega)
  obtain ⟨e', M', el, v3, v4, rfl, rfl⟩ := forL_all (γ := tupT 2 (consT (setT 3) (consT (setT 4) nilT))) (g := setS 2 (op2 mulV (getV 2) (op2 subV (op2 addV (op2 addV (getV 1) (cst (.d (.int 1)))) (getV 4)) (getV 3))))
    (fun j e N => ∃ v3 v4 : Option Vl, e = [some x, some (.d (.int z)), some (.d (.int (prodA z 0 ((sortI rs).take j)))), v3, v4] ∧ N = M)
    (xs := numD (intsD (sortI rs))) (e := [some x, some (.d (.int z)), some (.d (.int 1)), none, none]) (M := M)
    (by
      rintro j y e N hy ⟨v3, v4, rfl, rfl⟩
      obtain ⟨d, hd, rfl⟩ := C.numD_get hy
      rw [List.getElem?_map] at hd
      obtain ⟨a, ha, rfl⟩ := Option.map_eq_some_iff.mp hd
      have hm := hmem j a ha
      have hj := lt_of_getL ha
      have hj2 := hj
      rw [sortI_len] at hj2
      have ht : prodA z 0 ((sortI rs).take (j + 1)) = prodA z 0 ((sortI rs).take j) * (z + 1 + a - (j : Nat)) := by
        rw [List.take_succ, ha, Option.toList_some, prodA_app]
        simp [prodA, List.length_take]
        rw [Nat.min_eq_left (by omega)]
      refine ⟨[some x, some (.d (.int z)), some (.d (.int (prodA z 0 ((sortI rs).take j)))), some (.d (nD j)), some (.d (.int a))], N, [some x, some (.d (.int z)), some (.d (.int (prodA z 0 ((sortI rs).take (j + 1))))), some (.d (nD j)), some (.d (.int a))], N, ?_, ?_, _, _, rfl, rfl⟩
      · simp only [defM, startE, seqS_a, setS_a, bindS_ok, bindS_er, then_nx, then_rt, then_er, ifS_a, ifK_t, ifK_f, retS_a, dropS_a, asgS_a, asK_a, goG_ok, subT_a, nopS_a, getV_0, getV_s, cst_a, op2_a, o2a_ok, o2b_ok, opT_a, oTa_ok, oTb_ok, consA_a, cAa_ok, cAb_ok, nilA_a, callF_a, cFa_ok, callE_a, cEa_ok, newE_a, nwa_ok, datE_a, dta_ok, dispE_a, tupE_a, tpa_ok, asDs_a, datas, bind_ok, pur_ok, bool_b, leave_d, leave_nx, leave_er, ifE_a, ifa_t, ifa_f, notT_a, nta_ok, andT_a, ana_t, ana_f, orT_a, ora_t, ora_f, tstE_a, tsa_b, andE_a, aEa_t, aEa_f, orE_a, oEa_t, oEa_f, notE_a, nEa_ok, add_ii, sub_ii, gt_ii, lt_ii, ge_ii, le_ii, setT_a, consT_a, cTa_ok, nilT_a, tupT_a, seqT_t, seqT_l, forS_a, List.map_cons, List.map_nil, List.length_cons, List.length_nil, Nat.reduceAdd, Nat.reduceSub, Nat.zero_add, Nat.add_zero, List.replicate, List.cons_append, List.nil_append, List.append_nil, List.getElem?_cons_zero, List.getElem?_cons_succ, List.set_cons_zero, List.set_cons_succ, List.getElem?_nil, Option.map_some, Option.map_none, Option.bind_some, if_true, if_false, ite_true, ite_false, eq_self_iff_true, and_self, and_true, true_and, decide_true, decide_false, Bool.false_eq_true, Bool.not_true, Bool.not_false, sizeLine, Nat.reducePow, Nat.reduceLeDiff, Nat.zero_le, pow_7, pow_18, pow_40]
      · have : (z + 1 + a - (j : Int)).natAbs < 2 ^ 400000 := Nat.lt_of_le_of_lt (show (z + 1 + a - (j : Int)).natAbs ≤ 2 ^ 251 by omega) (Nat.pow_lt_pow_right (by decide) (by decide))
        simp only [defM, startE, seqS_a, setS_a, bindS_ok, bindS_er, then_nx, then_rt, then_er, ifS_a, ifK_t, ifK_f, retS_a, dropS_a, asgS_a, asK_a, goG_ok, subT_a, nopS_a, getV_0, getV_s, cst_a, op2_a, o2a_ok, o2b_ok, opT_a, oTa_ok, oTb_ok, consA_a, cAa_ok, cAb_ok, nilA_a, callF_a, cFa_ok, callE_a, cEa_ok, newE_a, nwa_ok, datE_a, dta_ok, dispE_a, tupE_a, tpa_ok, asDs_a, datas, bind_ok, pur_ok, bool_b, leave_d, leave_nx, leave_er, ifE_a, ifa_t, ifa_f, notT_a, nta_ok, andT_a, ana_t, ana_f, orT_a, ora_t, ora_f, tstE_a, tsa_b, andE_a, aEa_t, aEa_f, orE_a, oEa_t, oEa_f, notE_a, nEa_ok, add_ii, sub_ii, gt_ii, lt_ii, ge_ii, le_ii, setT_a, consT_a, cTa_ok, nilT_a, tupT_a, seqT_t, seqT_l, forS_a, List.map_cons, List.map_nil, List.length_cons, List.length_nil, Nat.reduceAdd, Nat.reduceSub, Nat.zero_add, Nat.add_zero, List.replicate, List.cons_append, List.nil_append, List.append_nil, List.getElem?_cons_zero, List.getElem?_cons_succ, List.set_cons_zero, List.set_cons_succ, List.getElem?_nil, Option.map_some, Option.map_none, Option.bind_some, if_true, if_false, ite_true, ite_false, eq_self_iff_true, and_self, and_true, true_and, decide_true, decide_false, Bool.false_eq_true, Bool.not_true, Bool.not_false, sizeLine, Nat.reducePow, Nat.reduceLeDiff, Nat.zero_le, pow_7, pow_18, pow_40, mul_big (M := N) (hpre j) this, ht])
    ⟨none, none, rfl, rfl⟩
  rw [numD_len, List.length_map] at el
  rw [List.take_of_length_le (Nat.le_refl _)] at el
  unfold m_up_to_rounds g_up_to_rounds upI
  simp only [defM, startE, seqS_a, setS_a, bindS_ok, bindS_er, then_nx, then_rt, then_er, ifS_a, ifK_t, ifK_f, retS_a, dropS_a, asgS_a, asK_a, goG_ok, subT_a, nopS_a, getV_0, getV_s, cst_a, op2_a, o2a_ok, o2b_ok, opT_a, oTa_ok, oTb_ok, consA_a, cAa_ok, cAb_ok, nilA_a, callF_a, cFa_ok, callE_a, cEa_ok, newE_a, nwa_ok, datE_a, dta_ok, dispE_a, tupE_a, tpa_ok, asDs_a, datas, bind_ok, pur_ok, bool_b, leave_d, leave_nx, leave_er, ifE_a, ifa_t, ifa_f, notT_a, nta_ok, andT_a, ana_t, ana_f, orT_a, ora_t, ora_f, tstE_a, tsa_b, andE_a, aEa_t, aEa_f, orE_a, oEa_t, oEa_f, notE_a, nEa_ok, add_ii, sub_ii, gt_ii, lt_ii, ge_ii, le_ii, setT_a, consT_a, cTa_ok, nilT_a, tupT_a, seqT_t, seqT_l, forS_a, List.map_cons, List.map_nil, List.length_cons, List.length_nil, Nat.reduceAdd, Nat.reduceSub, Nat.zero_add, Nat.add_zero, List.replicate, List.cons_append, List.nil_append, List.append_nil, List.getElem?_cons_zero, List.getElem?_cons_succ, List.set_cons_zero, List.set_cons_succ, List.getElem?_nil, Option.map_some, Option.map_none, Option.bind_some, if_true, if_false, ite_true, ite_false, eq_self_iff_true, and_self, and_true, true_and, decide_true, decide_false, Bool.false_eq_true, Bool.not_true, Bool.not_false, sizeLine, Nat.reducePow, Nat.reduceLeDiff, Nat.zero_le, pow_7, pow_18, pow_40, hen, el]
  rw [take_all (by simp)]
/-- how many states have these residues and this total -/
def manyI (rs : List Int) (K : Int) : Int :=
  if K - rs.sum + (rs.length : Int) * ((rs.length : Int) - 1) / 2 < 0 ∨ (K - rs.sum + (rs.length : Int) * ((rs.length : Int) - 1) / 2) % (rs.length : Int) ≠ 0 then 0
  else upI rs ((K - rs.sum + (rs.length : Int) * ((rs.length : Int) - 1) / 2) / (rs.length : Int)) - upI rs ((K - rs.sum + (rs.length : Int) * ((rs.length : Int) - 1) / 2) / (rs.length : Int) - 1)
theorem many_ok {x : Vl} {rs : List Int} {K : Int} {M : Mem} (hx : SeqV x (intsD rs)) (h0 : 0 < rs.length) (hl : rs.length ≤ 1000) (hr : ∀ r ∈ rs, 0 ≤ r ∧ r < 1000) (hK : K.natAbs ≤ 2 ^ 240) : m_many_with [x, .d (.int K)] M = .ok (.d (.int (manyI rs K))) M := by
  have hlen : lenV [x] M = _ := hx.len
  rw [List.length_map] at hlen
  have hsum : sumTV [x] M = .ok (.d (.int rs.sum)) M := by rcases hx with rfl | rfl; exact sum_l; exact sum_t
  have hs := sum_nn rs fun r h => (hr r h).1
  have hs2 : rs.sum ≤ rs.length * 1000 := by
    have : ∀ l : List Int, (∀ r ∈ l, r ≤ 1000) → l.sum ≤ l.length * 1000 := fun l => by
      induction l with
      | nil => intro _; simp
      | cons a l ih =>
        intro h
        have := ih fun r hr => h r (List.mem_cons_of_mem _ hr)
        have := h a List.mem_cons_self
        rw [List.sum_cons, List.length_cons]
        push_cast
        omega
    exact this rs fun r h => by have := hr r h; omega
  generalize hn : rs.length = n at *
  have hmul : mulV (.d (.int (n : Nat))) (.d (.int ((n : Int) - 1))) M = .ok (.d (.int ((n : Int) * ((n : Int) - 1)))) M := mul_ii (.inl (by omega))
  have hnn : (n : Int) * ((n : Int) - 1) ≤ 1000 * 1000 := Int.mul_le_mul (by omega) (by omega) (by omega) (by omega)
  have hnn0 : 0 ≤ (n : Int) * ((n : Int) - 1) := Int.mul_nonneg (by omega) (by omega)
  have fd2 : ∀ a : Int, fdivV (.d (.int a)) (.d (.int 2)) M = .ok (.d (.int (a / 2))) M := fun a => fdiv_ii (by decide) (by decide)
  have fdn : ∀ a : Int, fdivV (.d (.int a)) (.d (.int (n : Nat))) M = .ok (.d (.int (a / (n : Nat)))) M := fun a => fdiv_ii (by omega) (by omega)
  unfold manyI
  rw [hn]
  generalize hov : K - rs.sum + (n : Int) * ((n : Int) - 1) / 2 = ov
  have hq : (ov / (n : Int)).natAbs ≤ 2 ^ 249 := by
    have h1 : (ov / (n : Int)).natAbs ≤ ov.natAbs := Int.natAbs_ediv_le_natAbs _ _
    omega
  have hr1 : m_rounds_of [x, .d (.int K)] M = .ok (if ov < 0 ∨ ov % (n : Int) ≠ 0 then .d .none else .d (.int (ov / (n : Int)))) M := by
    unfold m_rounds_of g_rounds_of
    by_cases hneg : ov < 0
    · simp only [defM, startE, seqS_a, setS_a, bindS_ok, bindS_er, then_nx, then_rt, then_er, ifS_a, ifK_t, ifK_f, retS_a, dropS_a, asgS_a, asK_a, goG_ok, subT_a, nopS_a, getV_0, getV_s, cst_a, op2_a, o2a_ok, o2b_ok, opT_a, oTa_ok, oTb_ok, consA_a, cAa_ok, cAb_ok, nilA_a, callF_a, cFa_ok, callE_a, cEa_ok, newE_a, nwa_ok, datE_a, dta_ok, dispE_a, tupE_a, tpa_ok, asDs_a, datas, bind_ok, pur_ok, bool_b, leave_d, leave_nx, leave_er, ifE_a, ifa_t, ifa_f, notT_a, nta_ok, andT_a, ana_t, ana_f, orT_a, ora_t, ora_f, tstE_a, tsa_b, andE_a, aEa_t, aEa_f, orE_a, oEa_t, oEa_f, notE_a, nEa_ok, add_ii, sub_ii, gt_ii, lt_ii, ge_ii, le_ii, setT_a, consT_a, cTa_ok, nilT_a, tupT_a, seqT_t, seqT_l, forS_a, List.map_cons, List.map_nil, List.length_cons, List.length_nil, Nat.reduceAdd, Nat.reduceSub, Nat.zero_add, Nat.add_zero, List.replicate, List.cons_append, List.nil_append, List.append_nil, List.getElem?_cons_zero, List.getElem?_cons_succ, List.set_cons_zero, List.set_cons_succ, List.getElem?_nil, Option.map_some, Option.map_none, Option.bind_some, if_true, if_false, ite_true, ite_false, eq_self_iff_true, and_self, and_true, true_and, decide_true, decide_false, Bool.false_eq_true, Bool.not_true, Bool.not_false, sizeLine, Nat.reducePow, Nat.reduceLeDiff, Nat.zero_le, pow_7, pow_18, pow_40, hlen, hsum, hmul, fd2, hov, hneg]
      rw [take_all (by simp), if_pos (.inl trivial)]
    · by_cases hm : ov % (n : Int) = 0
      · have hb : (ov % (n : Int) == 0) = true := by simp [hm]
        simp only [defM, startE, seqS_a, setS_a, bindS_ok, bindS_er, then_nx, then_rt, then_er, ifS_a, ifK_t, ifK_f, retS_a, dropS_a, asgS_a, asK_a, goG_ok, subT_a, nopS_a, getV_0, getV_s, cst_a, op2_a, o2a_ok, o2b_ok, opT_a, oTa_ok, oTb_ok, consA_a, cAa_ok, cAb_ok, nilA_a, callF_a, cFa_ok, callE_a, cEa_ok, newE_a, nwa_ok, datE_a, dta_ok, dispE_a, tupE_a, tpa_ok, asDs_a, datas, bind_ok, pur_ok, bool_b, leave_d, leave_nx, leave_er, ifE_a, ifa_t, ifa_f, notT_a, nta_ok, andT_a, ana_t, ana_f, orT_a, ora_t, ora_f, tstE_a, tsa_b, andE_a, aEa_t, aEa_f, orE_a, oEa_t, oEa_f, notE_a, nEa_ok, add_ii, sub_ii, gt_ii, lt_ii, ge_ii, le_ii, setT_a, consT_a, cTa_ok, nilT_a, tupT_a, seqT_t, seqT_l, forS_a, List.map_cons, List.map_nil, List.length_cons, List.length_nil, Nat.reduceAdd, Nat.reduceSub, Nat.zero_add, Nat.add_zero, List.replicate, List.cons_append, List.nil_append, List.append_nil, List.getElem?_cons_zero, List.getElem?_cons_succ, List.set_cons_zero, List.set_cons_succ, List.getElem?_nil, Option.map_some, Option.map_none, Option.bind_some, if_true, if_false, ite_true, ite_false, eq_self_iff_true, and_self, and_true, true_and, decide_true, decide_false, Bool.false_eq_true, Bool.not_true, Bool.not_false, sizeLine, Nat.reducePow, Nat.reduceLeDiff, Nat.zero_le, pow_7, pow_18, pow_40, hlen, hsum, hmul, fd2, hov, hneg, mod_ii (show (0 : Int) < (n : Nat) by omega), ne_ii, hb, fdn]
        rw [take_all (by simp), if_neg (by simp [hm])]
      · have hb : (ov % (n : Int) == 0) = false := by simp [hm]
        simp only [defM, startE, seqS_a, setS_a, bindS_ok, bindS_er, then_nx, then_rt, then_er, ifS_a, ifK_t, ifK_f, retS_a, dropS_a, asgS_a, asK_a, goG_ok, subT_a, nopS_a, getV_0, getV_s, cst_a, op2_a, o2a_ok, o2b_ok, opT_a, oTa_ok, oTb_ok, consA_a, cAa_ok, cAb_ok, nilA_a, callF_a, cFa_ok, callE_a, cEa_ok, newE_a, nwa_ok, datE_a, dta_ok, dispE_a, tupE_a, tpa_ok, asDs_a, datas, bind_ok, pur_ok, bool_b, leave_d, leave_nx, leave_er, ifE_a, ifa_t, ifa_f, notT_a, nta_ok, andT_a, ana_t, ana_f, orT_a, ora_t, ora_f, tstE_a, tsa_b, andE_a, aEa_t, aEa_f, orE_a, oEa_t, oEa_f, notE_a, nEa_ok, add_ii, sub_ii, gt_ii, lt_ii, ge_ii, le_ii, setT_a, consT_a, cTa_ok, nilT_a, tupT_a, seqT_t, seqT_l, forS_a, List.map_cons, List.map_nil, List.length_cons, List.length_nil, Nat.reduceAdd, Nat.reduceSub, Nat.zero_add, Nat.add_zero, List.replicate, List.cons_append, List.nil_append, List.append_nil, List.getElem?_cons_zero, List.getElem?_cons_succ, List.set_cons_zero, List.set_cons_succ, List.getElem?_nil, Option.map_some, Option.map_none, Option.bind_some, if_true, if_false, ite_true, ite_false, eq_self_iff_true, and_self, and_true, true_and, decide_true, decide_false, Bool.false_eq_true, Bool.not_true, Bool.not_false, sizeLine, Nat.reducePow, Nat.reduceLeDiff, Nat.zero_le, pow_7, pow_18, pow_40, hlen, hsum, hmul, fd2, hov, hneg, mod_ii (show (0 : Int) < (n : Nat) by omega), ne_ii, hb]
        rw [take_all (by simp), if_pos (.inr hm)]
  unfold m_many_with g_many_with
  by_cases hc : ov < 0 ∨ ov % (n : Int) ≠ 0
  · rw [if_pos hc] at hr1 ⊢
    simp only [defM, startE, seqS_a, setS_a, bindS_ok, bindS_er, then_nx, then_rt, then_er, ifS_a, ifK_t, ifK_f, retS_a, dropS_a, asgS_a, asK_a, goG_ok, subT_a, nopS_a, getV_0, getV_s, cst_a, op2_a, o2a_ok, o2b_ok, opT_a, oTa_ok, oTb_ok, consA_a, cAa_ok, cAb_ok, nilA_a, callF_a, cFa_ok, callE_a, cEa_ok, newE_a, nwa_ok, datE_a, dta_ok, dispE_a, tupE_a, tpa_ok, asDs_a, datas, bind_ok, pur_ok, bool_b, leave_d, leave_nx, leave_er, ifE_a, ifa_t, ifa_f, notT_a, nta_ok, andT_a, ana_t, ana_f, orT_a, ora_t, ora_f, tstE_a, tsa_b, andE_a, aEa_t, aEa_f, orE_a, oEa_t, oEa_f, notE_a, nEa_ok, add_ii, sub_ii, gt_ii, lt_ii, ge_ii, le_ii, setT_a, consT_a, cTa_ok, nilT_a, tupT_a, seqT_t, seqT_l, forS_a, List.map_cons, List.map_nil, List.length_cons, List.length_nil, Nat.reduceAdd, Nat.reduceSub, Nat.zero_add, Nat.add_zero, List.replicate, List.cons_append, List.nil_append, List.append_nil, List.getElem?_cons_zero, List.getElem?_cons_succ, List.set_cons_zero, List.set_cons_succ, List.getElem?_nil, Option.map_some, Option.map_none, Option.bind_some, if_true, if_false, ite_true, ite_false, eq_self_iff_true, and_self, and_true, true_and, decide_true, decide_false, Bool.false_eq_true, Bool.not_true, Bool.not_false, sizeLine, Nat.reducePow, Nat.reduceLeDiff, Nat.zero_le, pow_7, pow_18, pow_40, hr1, is_nn]
    rw [take_all (by simp)]
  · rw [if_neg hc] at hr1 ⊢
    have hisn : ∀ i : Int, isV (.d (.int i)) (.d .none) M = .ok (.d (.bool false)) M := fun i => is_n
    simp only [defM, startE, seqS_a, setS_a, bindS_ok, bindS_er, then_nx, then_rt, then_er, ifS_a, ifK_t, ifK_f, retS_a, dropS_a, asgS_a, asK_a, goG_ok, subT_a, nopS_a, getV_0, getV_s, cst_a, op2_a, o2a_ok, o2b_ok, opT_a, oTa_ok, oTb_ok, consA_a, cAa_ok, cAb_ok, nilA_a, callF_a, cFa_ok, callE_a, cEa_ok, newE_a, nwa_ok, datE_a, dta_ok, dispE_a, tupE_a, tpa_ok, asDs_a, datas, bind_ok, pur_ok, bool_b, leave_d, leave_nx, leave_er, ifE_a, ifa_t, ifa_f, notT_a, nta_ok, andT_a, ana_t, ana_f, orT_a, ora_t, ora_f, tstE_a, tsa_b, andE_a, aEa_t, aEa_f, orE_a, oEa_t, oEa_f, notE_a, nEa_ok, add_ii, sub_ii, gt_ii, lt_ii, ge_ii, le_ii, setT_a, consT_a, cTa_ok, nilT_a, tupT_a, seqT_t, seqT_l, forS_a, List.map_cons, List.map_nil, List.length_cons, List.length_nil, Nat.reduceAdd, Nat.reduceSub, Nat.zero_add, Nat.add_zero, List.replicate, List.cons_append, List.nil_append, List.append_nil, List.getElem?_cons_zero, List.getElem?_cons_succ, List.set_cons_zero, List.set_cons_succ, List.getElem?_nil, Option.map_some, Option.map_none, Option.bind_some, if_true, if_false, ite_true, ite_false, eq_self_iff_true, and_self, and_true, true_and, decide_true, decide_false, Bool.false_eq_true, Bool.not_true, Bool.not_false, sizeLine, Nat.reducePow, Nat.reduceLeDiff, Nat.zero_le, pow_7, pow_18, pow_40, hr1, hisn, up_ok (M := M) (z := ov / (n : Int)) hx (by omega) hr (by omega), up_ok (M := M) (z := ov / (n : Int) - 1) hx (by omega) hr (by omega)]
    rw [take_all (by simp)]
end C
end DL
namespace DL
open PySem PySem.Spec L2
theorem sum_range : ∀ n : Nat, (castI (List.range n)).sum = (n : Int) * ((n : Int) - 1) / 2
  | 0 => by simp
  | n + 1 => by
    have ih := sum_range n
    have he : ((n : Int) * ((n : Int) - 1)) % 2 = 0 := by
      rcases Int.emod_two_eq (n : Int) with h | h
      · rw [Int.mul_emod, h]; simp
      · rw [Int.mul_emod, Int.sub_emod, h]; simp
    unfold castI at ih ⊢
    rw [List.range_succ, List.map_append, List.sum_append, ih]
    have e : ((n + 1 : Nat) : Int) * (((n + 1 : Nat) : Int) - 1) = (n : Int) * ((n : Int) - 1) + 2 * n := by
      push_cast
      rw [show (n : Int) + 1 - 1 = n by omega, Int.add_mul, Int.mul_sub]
      omega
    rw [e]
    simp
    omega
theorem many_st {n : Nat} {ss : List Nat} {ps : List Int} (h : Stt n ss ps) (h0 : 0 < n) {Q : Int} (hQ : 0 ≤ Q) (e : ps.sum - (resI ss ps).sum + (n : Int) * ((n : Int) - 1) / 2 = n * Q) : C.manyI (resI ss ps) ps.sum = upI (resI ss ps) Q - upI (resI ss ps) (Q - 1) := by
  have hrl : (resI ss ps).length = n := by rw [resI_len, h.slen, h.len]; simp
  unfold C.manyI
  rw [hrl, e]
  have h1 : ¬ ((n : Int) * Q < 0 ∨ (n : Int) * Q % n ≠ 0) := by
    have := Int.mul_nonneg (show (0 : Int) ≤ n by omega) hQ
    rintro (a | a)
    · omega
    · exact a (Int.mul_emod_right ..)
  rw [if_neg h1, Int.mul_ediv_cancel_left _ (by omega)]
abbrev pu (n : Nat) (r : Int) : Int := (r + 1) % (n : Int)
def pushL (n b : Nat) (ss : List Nat) : List Nat := ss.map fun c => (c + b) % n
theorem pushL_succ {n b : Nat} {ss : List Nat} : pushL n (b + 1) ss = pushL n 1 (pushL n b ss) := by
  unfold pushL
  rw [List.map_map]
  refine List.map_congr_left fun c _ => ?_
  show (c + (b + 1)) % n = ((c + b) % n + 1) % n
  rw [Nat.mod_add_mod]
  rfl
theorem pushL_zero {n : Nat} {ss : List Nat} {ps : List Int} (h : Stt n ss ps) : pushL n 0 ss = ss := by
  unfold pushL
  have : ∀ c ∈ ss, (c + 0) % n = c := fun c hc => Nat.mod_eq_of_lt (List.mem_range.mp (h.perm.mem_iff.mp hc))
  rw [List.map_congr_left this, List.map_id']
theorem push_range (n : Nat) : ((List.range n).map fun c => (c + 1) % n).Perm (List.range n) := by
  cases n with
  | zero => exact List.Perm.refl _
  | succ m =>
    have e : (List.range (m + 1)).map (fun c => (c + 1) % (m + 1)) = (List.range m).map Nat.succ ++ [0] := by
      rw [List.range_succ, List.map_append]
      congr 1
      · refine List.map_congr_left fun c hc => ?_
        have := List.mem_range.mp hc
        exact Nat.mod_eq_of_lt (by omega)
      · show [(m + 1) % (m + 1)] = [0]
        rw [Nat.mod_self]
    rw [e, List.range_succ_eq_map]
    exact List.perm_append_comm
theorem Stt.push1 {n : Nat} {ss : List Nat} {ps : List Int} (h : Stt n ss ps) : Stt n (pushL n 1 ss) ps := ⟨(h.perm.map _).trans (push_range n), h.len, h.nn⟩
theorem Stt.push {n b : Nat} {ss : List Nat} {ps : List Int} (h : Stt n ss ps) : Stt n (pushL n b ss) ps := by
  induction b with
  | zero => rw [pushL_zero h]; exact h
  | succ b ih => rw [pushL_succ]; exact ih.push1
theorem res_push {n b : Nat} {ss : List Nat} {ps : List Int} (h : Stt n ss ps) : resI (pushL n b ss) ps = (resI ss ps).map fun r => (r + b) % (n : Int) := by
  have hl := h.slen
  unfold resI pushL
  rw [List.length_map, hl, List.zipWith_map_left, List.map_zipWith]
  refine congrArg (fun f => List.zipWith f ss ps) ?_
  funext c p
  have : (((c + b) % n : Nat) : Int) = ((c : Int) + b) % n := by simp
  rw [this, Int.emod_add_emod, Int.emod_add_emod]
  congr 1
  omega
theorem Lot.push {n b : Nat} {ss tt : List Nat} {ps qs : List Int} (h : Stt n ss ps) (k : Stt n tt qs) (L : Lot ss ps tt qs) : Lot (pushL n b ss) ps (pushL n b tt) qs := ⟨by rw [res_push h, res_push k, L.res], L.sum⟩
/-- names changed: who is w becomes t[w] -/
structure Named {α : Type} (t : List Nat) (xs ys : List α) : Prop where
  len : ys.length = xs.length
  at_ : ∀ (w x : Nat), t[w]? = some x → ys[x]? = xs[w]?
theorem Named.perm {α : Type} {t : List Nat} {xs ys : List α} {n : Nat} (h : Named t xs ys) (ht : t.Perm (List.range n)) (hl : xs.length = n) : ys.Perm xs := by
  have htl : t.length = n := by rw [ht.length_eq, List.length_range]
  cases n with
  | zero =>
    have : xs = [] := List.eq_nil_of_length_eq_zero hl
    have h2 : ys = [] := List.eq_nil_of_length_eq_zero (by rw [h.len, hl])
    rw [this, h2]
  | succ m =>
    obtain ⟨d, hd⟩ := get_some (show 0 < ys.length by rw [h.len, hl]; omega)
    have e1 : t.map (fun x => ys.getD x d) = xs := by
      apply ext_of
      intro w
      by_cases hw : w < m + 1
      · obtain ⟨x, hx⟩ := get_some (show w < t.length by omega)
        have hy := h.at_ w x hx
        obtain ⟨a, ha⟩ := get_some (show w < xs.length by omega)
        rw [List.getElem?_map, hx, ha]
        show some (ys.getD x d) = _
        rw [List.getD_eq_getElem?_getD, hy, ha]
        rfl
      · rw [List.getElem?_eq_none (by simp; omega), List.getElem?_eq_none (by omega)]
    have e2 : (List.range (m + 1)).map (fun x => ys.getD x d) = ys := by
      apply ext_of
      intro x
      by_cases hx : x < m + 1
      · obtain ⟨a, ha⟩ := get_some (show x < ys.length by rw [h.len, hl]; omega)
        rw [List.getElem?_map, List.getElem?_range hx, ha]
        show some (ys.getD x d) = _
        rw [List.getD_eq_getElem?_getD, ha]
        rfl
      · rw [List.getElem?_eq_none (by simp; omega), List.getElem?_eq_none (by rw [h.len]; omega)]
    rw [← e1]
    conv => lhs; rw [← e2]
    exact (ht.map _).symm
theorem Named.stt {n : Nat} {t ss ss' : List Nat} {ps ps' : List Int} (a : Named t ss ss') (b : Named t ps ps') (ht : t.Perm (List.range n)) (h : Stt n ss ps) : Stt n ss' ps' :=
  ⟨(a.perm ht h.slen).trans h.perm, by rw [b.len]; exact h.len, fun p hp => h.nn p ((b.perm ht h.len).mem_iff.mp hp)⟩
theorem Named.res {n : Nat} {t ss ss' : List Nat} {ps ps' : List Int} (a : Named t ss ss') (b : Named t ps ps') (ht : t.Perm (List.range n)) (h : Stt n ss ps) : Named t (resI ss ps) (resI ss' ps') := by
  have h' := a.stt b ht h
  have htl : t.length = n := by rw [ht.length_eq, List.length_range]
  refine ⟨by rw [resI_len, resI_len, a.len, b.len], fun w x hx => ?_⟩
  have hw := lt_of_getL hx
  obtain ⟨c, hc⟩ := get_some (show w < ss.length by rw [h.slen]; omega)
  obtain ⟨p, hp⟩ := get_some (show w < ps.length by rw [h.len]; omega)
  rw [resI_get hc hp, resI_get ((a.at_ w x hx).trans hc) ((b.at_ w x hx).trans hp), a.len]
theorem Named.uniq {α : Type} {t : List Nat} {xs ys zs : List α} {n : Nat} (h : Named t xs ys) (k : Named t xs zs) (ht : t.Perm (List.range n)) (hl : xs.length = n) : ys = zs := by
  apply ext_of
  intro x
  by_cases hx : x < n
  · obtain ⟨w, hw⟩ := List.getElem?_of_mem (ht.mem_iff.mpr (List.mem_range.mpr hx))
    rw [h.at_ w x hw, k.at_ w x hw]
  · rw [List.getElem?_eq_none (by rw [h.len]; omega), List.getElem?_eq_none (by rw [k.len]; omega)]
theorem Ex.push {n b c : Nat} {ss ss' : List Nat} {ps ps' : List Int} (x : Ex n ss ps c ss' ps') : Ex n (pushL n b ss) ps ((c + b) % n) (pushL n b ss') ps' := by
  obtain ⟨j, k, p, q, hj, hk, hp, hp0, hq, rfl, rfl⟩ := x.ex
  have e : ((c + 1) % n + b) % n = ((c + b) % n + 1) % n := by
    rw [Nat.mod_add_mod, Nat.mod_add_mod]
    congr 1
    omega
  refine ⟨j, k, p, q, ?_, ?_, hp, hp0, hq, ?_, rfl⟩
  · unfold pushL; rw [List.getElem?_map, hj]; rfl
  · unfold pushL; rw [List.getElem?_map, hk, ← e]; rfl
  · unfold pushL
    rw [List.map_set, List.map_set, e]
end DL
namespace DL
open PySem PySem.Spec L2 PyProof.Rows PySem.W
end DL
namespace DL
open PySem PySem.Spec L2
namespace C
end C
theorem Run.last {n : Nat} {ss ss' l : List Nat} {ps ps' : List Int} {c : Nat} (R : Run n ss ps (l ++ [c]) ss' ps') : ∃ s1 p1, Run n ss ps l s1 p1 ∧ Ex n s1 p1 c ss' ps' := by
  generalize h : l ++ [c] = m at R
  cases R with
  | nil => simp at h
  | snoc r x =>
    obtain ⟨h1, h2⟩ := List.append_inj' h rfl
    cases h2
    subst h1
    exact ⟨_, _, r, x⟩
theorem Ex.det {n c : Nat} {ss s1 s2 : List Nat} {ps p1 p2 : List Int} (h : Stt n ss ps) (x : Ex n ss ps c s1 p1) (y : Ex n ss ps c s2 p2) : s1 = s2 ∧ p1 = p2 := by
  obtain ⟨j, k, p, q, a1, a2, a3, a4, a5, rfl, rfl⟩ := x.ex
  obtain ⟨j', k', p', q', b1, b2, b3, b4, b5, rfl, rfl⟩ := y.ex
  have hj := h.inj a1 b1
  have hk := h.inj a2 b2
  subst hj hk
  rw [a3] at b3; cases b3
  rw [a5] at b5; cases b5
  exact ⟨rfl, rfl⟩
theorem Run.det {n : Nat} {ss s1 cs : List Nat} {ps p1 : List Int} (h : Stt n ss ps) (h2 : 2 ≤ n) (R : Run n ss ps cs s1 p1) : ∀ {s2 : List Nat} {p2 : List Int}, Run n ss ps cs s2 p2 → s1 = s2 ∧ p1 = p2 := by
  induction R with
  | nil =>
    intro s2 p2 R'
    generalize hm : ([] : List Nat) = m at R'
    cases R' with
    | nil => exact ⟨rfl, rfl⟩
    | snoc _ _ => simp at hm
  | snoc r x ih =>
    intro s2 p2 R'
    obtain ⟨s3, p3, r', x'⟩ := R'.last
    obtain ⟨e1, e2⟩ := ih r'
    subst e1 e2
    exact x.det (r.ok h h2).1 x'
theorem Run.upto {n : Nat} {ss ss' cs : List Nat} {ps ps' : List Int} (R : Run n ss ps cs ss' ps') (j : Nat) : ∃ s p, Run n ss ps (cs.take j) s p := by
  induction R with
  | nil => exact ⟨ss, ps, by rw [List.take_nil]; exact .nil⟩
  | @snoc cs c s1 s2 p1 p2 r x ih =>
    by_cases hj : j ≤ cs.length
    · rw [List.take_append_of_le_length hj]
      exact ih
    · rw [List.take_of_length_le (by simp; omega)]
      exact ⟨_, _, r.snoc x⟩
namespace C
end C
end DL
namespace DL
open PySem PySem.Spec L2
namespace C
end C
end DL
namespace DL
open PySem PySem.Spec L2 PyProof.Rows
end DL
namespace DL
open PySem PySem.Spec L2
theorem DpAll.perm {K : Frag} {F : Hp} {ys vs : List V} (p : ys.Perm vs) : ∀ {ds : List PyData}, DpAll K F vs ds → ∃ es, DpAll K F ys es ∧ es.Perm ds := by
  induction p with
  | nil => exact fun h => ⟨_, h, .refl _⟩
  | cons x p ih =>
    intro ds h
    cases h with
    | cons h1 h2 =>
      obtain ⟨es, k1, k2⟩ := ih h2
      exact ⟨_, .cons h1 k1, k2.cons _⟩
  | swap x y l =>
    intro ds h
    cases h with
    | cons h1 h2 => cases h2 with
      | cons h3 h4 => exact ⟨_, .cons h3 (.cons h1 h4), .swap ..⟩
  | trans p q ih1 ih2 =>
    intro ds h
    obtain ⟨es, k1, k2⟩ := ih2 h
    obtain ⟨fs, k3, k4⟩ := ih1 k1
    exact ⟨fs, k3, k4.trans k2⟩
end DL
namespace DL
open PySem PySem.Spec L2
end DL
namespace DL
open PySem PySem.Spec L2
def addAV (x y : Vl) (M : Mem) : Res Vl := match x, y with
  | .d (.tuple xs), .d (.tuple ys) => if xs.length + ys.length ≤ sizeLine then .ok (.d (.tuple (xs ++ ys))) M else .st
  | a, b => addV a b M
section
variable {X : Cx} {W : WX} {f : Ev}
theorem opd_addA : OpD X (binaryOp .Add) addAV := by
  rintro pins s σ H x y v u Q I rx ry ⟨w, M, a, b, r, ra, rb, p⟩
  unfold addAV at p
  split at p
  · split at p
    · rename_i hz
      obtain ⟨p1, vs, rfl, s1, d1⟩ := tup_at r ra (show tupOf _ = some _ from rfl)
      obtain ⟨p2, us, rfl, s2, d2⟩ := tup_at r rb (show tupOf _ = some _ from rfl)
      have l1 := d1.len
      have l2 := d2.len
      refine op_addT pins s σ H _ _ v u Q I rx ry ⟨p1, p2, vs, us, ⟨rfl, s1⟩, ⟨rfl, s2⟩, by rw [l1, l2]; exact hz, fun z => ?_, fun _ z => ?_, newT_of r (DpAll.app d1 d2) p⟩
      · subst z
        have e : _ = [] := List.eq_nil_of_length_eq_zero (by simpa using l1.symm)
        subst e
        exact p.at r rb
      · subst z
        have e : _ = [] := List.eq_nil_of_length_eq_zero (by simpa using l2.symm)
        subst e
        rw [List.append_nil] at p
        exact p.at r ra
    · exact p.elim
  · exact opd_add pins s σ H x y v u Q I rx ry ⟨w, M, _, _, r, ra, rb, p⟩
theorem addA_i {i j : Int} {M : Mem} : addAV (.d (.int i)) (.d (.int j)) M = .ok (.d (.int (i + j))) M := Eq.trans rfl rfl
theorem addA_t {xs ys : List PyData} {M : Mem} (h : xs.length + ys.length ≤ sizeLine) : addAV (.d (.tuple xs)) (.d (.tuple ys)) M = .ok (.d (.tuple (xs ++ ys))) M := if_pos h
end
end DL
namespace DL
open PySem PySem.Spec L2
section
variable {X : Cx} {W : WX} {f : Ev} {g : Evs} {h : Sv}
theorem RVs.atI {K : Frag} {w : Wd} {xs : List Vl} {vs : List V} {k : Int} {x : Vl} (h : RVs K w xs vs) (e : L2.atI xs k = some x) : ∃ v, L2.atI vs k = some v ∧ RV K w x v := by
  unfold L2.atI at e ⊢
  rw [← h.len]
  cases q : ixN xs.length k with
  | none => rw [q] at e; cases e
  | some j =>
    rw [q] at e
    exact h.get e
def flatM : MO → Prop
  | .gone => True
  | .lst xs => ∀ x ∈ xs, leafB x = true
  | .nest _ => False
  | .dct _ => False
open Classical in
noncomputable def Wd.free (w : Wd) (S : Addr → Prop) : Wd := ⟨w.as, fun a => if S a then none else w.F a, w.P⟩
/-- the addresses of what is set fast -/
def Fst (w : Wd) (M M' : Mem) (a : Addr) : Prop := ∃ i : Nat, w.as[i]? = some a ∧ M'[i]? ≠ M[i]? ∧ M'[i]? = some MO.gone
noncomputable local instance {w : Wd} {M M' : Mem} {a : Addr} : Decidable (Fst w M M' a) := Classical.propDecidable _
end
end DL
namespace DL
open PySem PySem.Spec L2
namespace C
theorem SeqV.at {x : Vl} {xs : List PyData} (h : SeqV x xs) {k : Nat} {d : PyData} {N : Mem} (e : xs[k]? = some d) : ixV x (.d (nD k)) N = .ok (.d d) N := by
  rcases h with rfl | rfl
  · exact ixV_l (atI_some e)
  · exact ixV_t (atI_some e)
theorem SeqV.zip {x y : Vl} {xs ys : List PyData} (h : SeqV x xs) (k : SeqV y ys) : zipOf x y = some (xs, ys) := by
  rcases h with rfl | rfl <;> rcases k with rfl | rfl <;> rfl
end C
end DL
namespace DL
namespace C
open PySem PySem.Spec L2
theorem bx_flat {n : Nat} {o : MO} (h : Bx n o) : flatM o := by
  obtain ⟨a, b, c, rfl, _⟩ := h
  intro x hx
  rcases List.mem_cons.mp hx with rfl | hx
  · rfl
  · rcases List.mem_cons.mp hx with rfl | hx
    · rfl
    · rcases List.mem_cons.mp hx with rfl | hx
      · rfl
      · cases hx
theorem set_k {N l : Mem} {k : Nat} {o : MO} : (N ++ l).set (N.length + k) o = N ++ l.set k o := by
  rw [List.set_append_right _ _ (Nat.le_add_right _ _), Nat.add_sub_cancel_left]
end C
end DL
namespace DL
open PySem PySem.Spec L2
end DL
namespace DL
open PySem PySem.Spec L2
inductive PickL (X : Cx) (j n : Nat) : List Expr → List Addr → List Fn → Prop
  | nil : PickL X j n [] [] []
  | cons {x : Str} {p : Pos} {es : List Expr} {f : Addr} {fs : List Addr} {m : Fn} {ms : List Fn} {fd : FuncData} {ps : List Str} : Gl X x → X.mg x = some (.ref f) → (x == ("__debug__" : Str)) = false → PySem.W.keepIn X.K (.ref f) = true →
      FnD X.prog X.w X.K X.mg X.base j f fd ps m → ps.length = n → Binds X.K fd ps [] → PickL X j n es fs ms → PickL X j n (.Name x p :: es) (f :: fs) (m :: ms)
section
variable {X : Cx} {W : WX}
theorem PickL.names {j n : Nat} : ∀ {es : List Expr} {fs : List Addr} {ms : List Fn}, PickL X j n es fs ms → ∀ e ∈ es, ∃ x p, e = .Name x p
  | _, _, _, .nil => fun _ h => (List.not_mem_nil h).elim
  | .Name x p :: es, f :: fs, _, .cons _ _ _ _ _ _ _ t => fun e h => by
    rcases List.mem_cons.mp h with q | q
    · exact ⟨x, p, q⟩
    · exact t.names e q
theorem PickL.len {j n : Nat} : ∀ {es : List Expr} {fs : List Addr} {ms : List Fn}, PickL X j n es fs ms → fs.length = ms.length
  | _, _, _, .nil => rfl
  | _, _, _, .cons _ _ _ _ _ _ _ t => by simp [t.len]
theorem PickL.get {j n : Nat} : ∀ {es : List Expr} {fs : List Addr} {ms : List Fn} {i : Nat} {m : Fn}, PickL X j n es fs ms → ms[i]? = some m →
    ∃ f fd ps, fs[i]? = some f ∧ PySem.W.keepIn X.K (.ref f) = true ∧ FnD X.prog X.w X.K X.mg X.base j f fd ps m ∧ ps.length = n ∧ Binds X.K fd ps []
  | _, _, _, _, _, .nil, e => by simp at e
  | _, _, _, 0, _, .cons _ _ _ kp F en b _, e => by simp at e; subst e; exact ⟨_, _, _, rfl, kp, F, en, b⟩
  | _, _, _, i + 1, m, .cons _ _ _ _ _ _ _ t, e => by
    obtain ⟨f, fd, ps, h1, h2⟩ := PickL.get (i := i) (m := m) t (by simpa using e)
    exact ⟨f, fd, ps, by simpa using h1, h2⟩
theorem PickL.at {j n : Nat} {es : List Expr} {fs : List Addr} {ms : List Fn} {i : Int} {m : Fn} (h : PickL X j n es fs ms) (e : atI ms i = some m) :
    ∃ f fd ps, atI (fs.map V.ref) i = some (.ref f) ∧ PySem.W.keepIn X.K (.ref f) = true ∧ FnD X.prog X.w X.K X.mg X.base j f fd ps m ∧ ps.length = n ∧ Binds X.K fd ps [] := by
  unfold L2.atI at e ⊢
  rw [List.length_map, h.len]
  cases q : ixN ms.length i with
  | none => rw [q] at e; cases e
  | some k =>
    rw [q] at e
    obtain ⟨f, fd, ps, h1, h2⟩ := h.get e
    refine ⟨f, fd, ps, ?_, h2⟩
    show (fs.map V.ref)[k]? = _
    rw [List.getElem?_map, h1]
    rfl
end
end DL
namespace DL
open PySem PySem.Spec L2
namespace C
end C
end DL
namespace DL
open PySem PySem.Spec L2
def augS (f : Int → Int → Int) (i : Nat) (fe : Ev) : Sv := fun e M => match e[i]? with
  | some (some (.d (.int a))) => lift fe (fun y e M => match y with
    | .d (.int b) => .go .nx (e.set i (some (.d (.int (f a b))))) M
    | _ => .st) e M
  | _ => .st
end DL
namespace DL
open PySem PySem.Spec L2
def minI (n : Int) (ns : List Int) : Int := ns.foldl (fun a b => if b < a then b else a) n
theorem minI_le : ∀ (ns : List Int) (n : Int), minI n ns ≤ n ∧ ∀ x ∈ ns, minI n ns ≤ x
  | [], n => ⟨Int.le_refl _, fun x hx => by cases hx⟩
  | a :: ns, n => by
    obtain ⟨h1, h2⟩ := minI_le ns (if a < n then a else n)
    have e : minI n (a :: ns) = minI (if a < n then a else n) ns := rfl
    rw [e]
    have h3 : (if a < n then a else n) ≤ n ∧ (if a < n then a else n) ≤ a := by split <;> constructor <;> omega
    refine ⟨by omega, fun x hx => ?_⟩
    rcases List.mem_cons.mp hx with rfl | hx
    · omega
    · exact h2 x hx
theorem minI_mem : ∀ (ns : List Int) (n : Int), minI n ns = n ∨ minI n ns ∈ ns
  | [], n => .inl rfl
  | a :: ns, n => by
    have e : minI n (a :: ns) = minI (if a < n then a else n) ns := rfl
    rw [e]
    rcases minI_mem ns (if a < n then a else n) with h | h
    · rw [h]
      split
      · exact .inr List.mem_cons_self
      · exact .inl rfl
    · exact .inr (List.mem_cons_of_mem _ h)
def minDV (x : Vl) (M : Mem) : Res Vl := match (rdOf M x).bind intsOf with
  | some [] => .ok (.d .none) M
  | some (n :: r) => .ok (.d (.int (minI n r))) M
  | none => .st
def minDE (f : Ev) : Ev := fun e M => (f e M).bind fun x M1 => minDV x M1
end DL
namespace DL
open PySem PySem.Spec PySem.Calls PyProof.Rows L2
/-- what is written of such a class, at C -/
structure ErrC (K : PySem.W.Frag) (C : Addr) (nw : String) (bB : List Value) : Prop where
  cls : ∃ nm q N bs bm sn sub ab col dd k0 k1 k2 k3 k5, K.lookup C = some (excClassObj nm q C N bs bm true sn sub ab col dd k0 k1 k2 k3 k5 nw) ∧ PySem.W.excTail bB bm = true
  sa : PySem.W.findIn K (.ref C) "__setattr__" = some (some (.builtin "object.__setattr__"))
  bE : PySem.W.subIn K (.ref C) (.type "BaseException") = some true
  tC : PySem.W.typeIn K (.ref C) = some (.type "type")
  kC : PySem.W.keepIn K (.ref C) = true
end DL
namespace DL
open PySem PySem.Spec PySem.Calls PyProof.Rows L2
end DL
namespace DL
open PySem PySem.Spec PySem.Calls PyProof.Rows L2
end DL
namespace DL
open PySem PySem.Spec PySem.Calls PyProof.Rows L2
end DL
namespace DL
open PySem PySem.Spec PySem.Calls PyProof.Rows L2
end DL
namespace DL
open PySem PySem.Spec L2
section
variable {X : Cx} {W : WX}
theorem PostS.any {K : Frag} {W W' : WX} {w : Wd} {f : Fl} {e : Env} {M : Mem} {D : Ends} (p : PostS K W w (.go f e M) D) : PostS K W' w (.go f e M) D := by
  cases f with
  | nx => exact p
  | bk => exact p
  | ct => exact p
  | rt x => exact p
end
end DL
namespace DL
open PySem PySem.Spec L2
def errIn (K : PySem.W.Frag) (C : Addr) (bB : List Value) (nw : String) : Bool := match K.lookup C with
  | some ⟨.type "type", _, .cls cd, sl⟩ => (match cd.mro, sl.toList with
    | .ref D :: bm, [_, _, _, _, some (.builtin n), _] => decide (D = C) && (decide (n = nw) && ((!cd.hasDel) && (cd.hasDict && PySem.W.excTail bB bm)))
    | _, _ => false)
  | _ => false
theorem errIn_ok {K : PySem.W.Frag} {C : Addr} {bB : List Value} {nw : String} (h : errIn K C bB nw = true) : ∃ nm q N bs bm sn sub ab col dd k0 k1 k2 k3 k5, K.lookup C = some (excClassObj nm q C N bs bm true sn sub ab col dd k0 k1 k2 k3 k5 nw) ∧ PySem.W.excTail bB bm = true := by
  unfold errIn at h
  split at h
  · rename_i dd cd sl ho
    split at h
    · rename_i D bm k0 k1 k2 k3 n k5 hm hs
      obtain ⟨h1, h⟩ := He.ba h
      obtain ⟨h2, h⟩ := He.ba h
      obtain ⟨h3, h⟩ := He.ba h
      obtain ⟨h4, h5⟩ := He.ba h
      have h1 := of_decide_eq_true h1
      have h2 := of_decide_eq_true h2
      subst h1 h2
      obtain ⟨nm, bs, mro, ns, qn, hd, sn, sub, ab, col, del⟩ := cd
      dsimp only at hm h3 h4
      subst hm h4
      have h3 : del = false := by simpa using h3
      subst h3
      have hsl : sl = #[k0, k1, k2, k3, some (.builtin n), k5] := by
        obtain ⟨l⟩ := sl
        exact congrArg Array.mk hs
      subst hsl
      exact ⟨nm, qn, ns, bs, bm, sn, sub, ab, col, dd, k0, k1, k2, k3, k5, ho, h5⟩
    · cases h
  · cases h
def clsV (o : Option PySem.W.CFound) (i : String) : Bool := match o with
  | some (.val (.builtin j)) => decide (j = i)
  | _ => false
theorem clsV_ok {o : Option PySem.W.CFound} {i : String} (h : clsV o i = true) : o = some (.val (.builtin i)) := by
  unfold clsV at h
  split at h
  · have := of_decide_eq_true h
    subst this
    rfl
  · cases h
/-- an error class of the program: its name, its field, the built-in class it stands under -/
structure Xf where
  x : Str
  f : Str
  B : String
  nw : String
  ini : String
  bB : List Value
def Xf.ok (K : PySem.W.Frag) (c : Xf) : Bool :=
  He.eqO (PySem.W.nsIn K mainGlobals c.x) (some (some (.ref (He.ga K c.x)))) && (errIn K (He.ga K c.x) c.bB c.nw && (He.eqO (PySem.W.findIn K (.ref (He.ga K c.x)) "__setattr__") (some (some (.builtin "object.__setattr__"))) &&
  (decide (PySem.W.subIn K (.ref (He.ga K c.x)) (.type "BaseException") = some true) && (decide (PySem.W.typeIn K (.ref (He.ga K c.x)) = some (.type "type")) && (PySem.W.keepIn K (.ref (He.ga K c.x)) &&
  (He.eqO (PySem.W.findIn K (.ref (He.ga K c.x)) c.f) (some none) && (He.eqO (PySem.W.findIn K (.ref (He.ga K c.x)) "__init__") (some (some (.ref (He.ma K (He.ga K c.x) "__init__")))) &&
  (decide (PySem.W.typeIn K (.ref (He.ma K (He.ga K c.x) "__init__")) = some (.type "function")) && (He.eqO (PySem.W.nsIn K mainGlobals (Str.ofString c.B)) (some none) && clsV (PySem.W.findCls K (.type c.B) (.type "type") "__init__") c.ini)))))))))
structure XfOk (K : PySem.W.Frag) (c : Xf) : Prop where
  glo : PySem.W.nsIn K mainGlobals c.x = some (some (.ref (He.ga K c.x)))
  cls : ErrC K (He.ga K c.x) c.nw c.bB
  fld : PySem.W.findIn K (.ref (He.ga K c.x)) c.f = some none
  iC : PySem.W.findIn K (.ref (He.ga K c.x)) "__init__" = some (some (.ref (He.ma K (He.ga K c.x) "__init__")))
  tI : PySem.W.typeIn K (.ref (He.ma K (He.ga K c.x) "__init__")) = some (.type "function")
  fr : PySem.W.nsIn K mainGlobals (Str.ofString c.B) = some none
  vV : PySem.W.findCls K (.type c.B) (.type "type") "__init__" = some (.val (.builtin c.ini))
theorem Xf.of {K : PySem.W.Frag} {c : Xf} (h : c.ok K = true) : XfOk K c := by
  unfold Xf.ok at h
  obtain ⟨h1, h⟩ := He.ba h
  obtain ⟨h2, h⟩ := He.ba h
  obtain ⟨h3, h⟩ := He.ba h
  obtain ⟨h4, h⟩ := He.ba h
  obtain ⟨h5, h⟩ := He.ba h
  obtain ⟨h6, h⟩ := He.ba h
  obtain ⟨h7, h⟩ := He.ba h
  obtain ⟨h8, h⟩ := He.ba h
  obtain ⟨h9, h⟩ := He.ba h
  obtain ⟨h10, h11⟩ := He.ba h
  exact ⟨He.eqO_ok h1, ⟨errIn_ok h2, He.eqO_ok h3, of_decide_eq_true h4, of_decide_eq_true h5, h6⟩, He.eqO_ok h7, He.eqO_ok h8, of_decide_eq_true h9, He.eqO_ok h10, clsV_ok h11⟩
abbrev AlX : Type := He.AlD × Bool
def obsX (fa : List He.Fa) (fn : List He.DefD) (xs : List Xf) (K : PySem.W.Frag) : AlX := (He.obsD fa fn K, xs.all fun c => c.ok K)
def valX (fn : List He.DefD) : AlX := (He.valD fn, true)
def SaysX (fa : List He.Fa) (fn : List He.DefD) (xs : List Xf) (K : PySem.W.Frag) : Prop := obsX fa fn xs K = valX fn
theorem SaysX.d {fa : List He.Fa} {fn : List He.DefD} {xs : List Xf} {K : PySem.W.Frag} (c : SaysX fa fn xs K) : He.SaysD fa fn K := congrArg (fun z : AlX => z.1) c
end DL
namespace DL
open PySem PySem.Spec L2
end DL
namespace DL
open PySem PySem.Spec PyProof.Rows L2
/-- what is written of the class of a kept error -/
structure KepC (K : Frag) (C : Addr) : Prop where
  cl : (PySem.W.clsIn K C).isSome = true
  ga : PySem.W.findIn K (.ref C) "__getattribute__" = some (some (.builtin "BaseException.__getattribute__"))
  gg : PySem.W.findIn K (.ref C) "__getattr__" = some none
  exC : PySem.W.subIn K (.ref C) (.type "BaseException") = some true
  hd : PySem.W.hasDictIn K C = true
  ha : PySem.W.findIn K (.ref C) "__class__" = some (some (.builtin "object.__class__"))
  hn : PySem.W.specialIn K (.builtin "object.__class__") "__get__" = some (some (.builtin "getset_descriptor.__get__"))
  ht : PySem.W.takesIn K (.builtin "object.__class__") = some true
  hm : PySem.W.mroIn K C (.type "object") = some true
def kepB (K : Frag) (C : Addr) : Bool := (PySem.W.clsIn K C).isSome && (He.eqO (PySem.W.findIn K (.ref C) "__getattribute__") (some (some (.builtin "BaseException.__getattribute__"))) && (He.eqO (PySem.W.findIn K (.ref C) "__getattr__") (some none) &&
  (decide (PySem.W.subIn K (.ref C) (.type "BaseException") = some true) && (PySem.W.hasDictIn K C && (He.eqO (PySem.W.findIn K (.ref C) "__class__") (some (some (.builtin "object.__class__"))) &&
  (He.eqO (PySem.W.specialIn K (.builtin "object.__class__") "__get__") (some (some (.builtin "getset_descriptor.__get__"))) && (decide (PySem.W.takesIn K (.builtin "object.__class__") = some true) && decide (PySem.W.mroIn K C (.type "object") = some true))))))))
end DL
namespace DL
open PySem PySem.Spec PySem.Calls PyProof.Rows L2
end DL
namespace DL
open PySem PySem.Spec PyProof.Rows L2
/-- a class of errors that are kept: name, built-in base, fields -/
structure Ke where
  x : Str
  B : String
  fs : List Str
structure Kt (K : Frag) (ks : List Ke) (ts : List String) : Prop where
  kep : ∀ p ∈ ks, KepC K (He.ga K p.x)
  fld : ∀ p ∈ ks, ∀ f ∈ p.fs, PySem.W.findIn K (.ref (He.ga K p.x)) f = some none
  ty : ∀ p ∈ ks, ∀ T ∈ ts, PySem.W.kitOne K (.ref (He.ga K p.x)) (.type T) = kitB p.B T
  ow : ∀ p ∈ ks, ∀ q ∈ ks, PySem.W.kitOne K (.ref (He.ga K p.x)) (.ref (He.ga K q.x)) = some (decide (p.x = q.x))
  ex : ∀ p ∈ ks, ∀ q ∈ ks, PySem.W.exmOne K (.ref (He.ga K p.x)) (.ref (He.ga K q.x)) = some (decide (p.x = q.x))
  ns : ∀ p ∈ ks, PySem.W.nsIn K mainGlobals p.x = some (some (.ref (He.ga K p.x)))
  nn : ∀ p ∈ ks, PySem.W.kitOne K (.type "NoneType") (.ref (He.ga K p.x)) = some false
def ktB (K : Frag) (ks : List Ke) (ts : List String) : Bool := ks.all fun p => kepB K (He.ga K p.x) && ((p.fs.all fun f => He.eqO (PySem.W.findIn K (.ref (He.ga K p.x)) f) (some none)) && ((ts.all fun T => decide (PySem.W.kitOne K (.ref (He.ga K p.x)) (.type T) = kitB p.B T)) &&
  ((ks.all fun q => decide (PySem.W.kitOne K (.ref (He.ga K p.x)) (.ref (He.ga K q.x)) = some (decide (p.x = q.x)))) && ((ks.all fun q => decide (PySem.W.exmOne K (.ref (He.ga K p.x)) (.ref (He.ga K q.x)) = some (decide (p.x = q.x)))) && (He.eqO (PySem.W.nsIn K mainGlobals p.x) (some (some (.ref (He.ga K p.x)))) && decide (PySem.W.kitOne K (.type "NoneType") (.ref (He.ga K p.x)) = some false))))))
theorem Kt.glo {K : Frag} {ks : List Ke} {ts : List String} (kt : Kt K ks ts) {h : Heap} {mg : Str → Option Value} (X : K.In h) (G : h.Ns mainGlobals mg) : ∀ p ∈ ks, mg p.x = some (.ref (He.ga K p.x)) := fun p hp => PySem.W.mg_of X G (kt.ns p hp)
section
variable {X : Cx} {W : WX} {ks : List Ke} {ts : List String}
theorem Rel.fzX {K : Frag} {w : Wd} {M : Mem} {H : Hp} (r : Rel K w M H) {q : Addr} {o : HO} (h : H q = some o) (h1 : w.F q = none) (h2 : q ∉ w.as) (h3 : w.P q = none) : Rel K (w.fz q o) M H := by
  refine ⟨fun a u e => ?_, r.len, r.nd, fun a u e => ?_, fun i a m e1 e2 => ?_⟩
  · have e : upd w.F q o a = some u := e
    by_cases ha : a = q
    · subst ha; rw [upd_same] at e; cases e; exact h
    · rw [upd_ne ha] at e; exact r.sub a u e
  · obtain ⟨q1, q2, q3⟩ := r.pin a u e
    have ha : a ≠ q := fun z => by
      have e : w.P a = some u := e
      rw [z, h3] at e
      cases e
    exact ⟨q1, by show upd w.F q o a = none; rw [upd_ne ha]; exact q2, q3⟩
  · have ha : a ≠ q := fun z => h2 (z ▸ List.mem_of_getElem? e1)
    exact (r.ob i a m e1 e2).up (Wd.le_fz h1) (.inr (by show _ = upd w.F q o a; rw [upd_ne ha]))
theorem Rel.keep {K : Frag} {w : Wd} {M : Mem} {H : Hp} (r : Rel K w M H) {a : Addr} (na : H a = none) {d : Option Addr} {fs : List (Str × PyData)} (xd : XD K w H d fs) (n : Str) :
    ∃ w2, w.le w2 ∧ Rel K w2 M (upd H a (errO a (.ref (He.ga K n)) d)) ∧ RV K w2 (.x n fs) (.ref a) := by
  by_cases e : fs = []
  · exact ⟨_, Wd.le_fz (r.new na).2, r.alloc na _, a, d, rfl, upd_same, fun _ => xd.1 e, fun z => absurd e z⟩
  · obtain ⟨q, vs, hd, hq, e3, e4, e5, e6, e7⟩ := xd.2 e
    have r1 := r.fzX hq e5 e6 e7
    have hne : q ≠ a := ne_of_none hq na
    have l1 : w.le (w.fz q (.xd vs)) := Wd.le_fz e5
    have l2 := Wd.le_fz (w := w.fz q (.xd vs)) (o := errO a (.ref (He.ga K n)) d) (r1.new na).2
    exact ⟨_, l1.trans l2, r1.alloc na _, a, d, rfl, upd_same, fun z => absurd z e, fun _ => ⟨q, vs, hd, (upd_ne hne).trans upd_same, e3, DpAll.up (l1.trans l2).2 _ _ e4⟩⟩
end
end DL
namespace DL
open PySem PySem.Spec PyProof.Rows L2
end DL
namespace DL
open PySem PySem.Spec L2
abbrev AlY : Type := AlX × Bool
def obsY (fa : List He.Fa) (fn : List He.DefD) (xs : List Xf) (ks : List Ke) (ts : List String) (K : PySem.W.Frag) : AlY := (obsX fa fn xs K, ktB K ks ts)
def valY (fn : List He.DefD) : AlY := (valX fn, true)
def SaysY (fa : List He.Fa) (fn : List He.DefD) (xs : List Xf) (ks : List Ke) (ts : List String) (K : PySem.W.Frag) : Prop := obsY fa fn xs ks ts K = valY fn
theorem SaysY.x {fa : List He.Fa} {fn : List He.DefD} {xs : List Xf} {ks : List Ke} {ts : List String} {K : PySem.W.Frag} (c : SaysY fa fn xs ks ts K) : SaysX fa fn xs K := congrArg (fun z : AlY => z.1) c
end DL
namespace DL
open PySem PySem.Spec L2
abbrev AlZ : Type := AlY × Bool
def impB (bs : List (Str × String)) (K : PySem.W.Frag) : Bool := bs.all fun p => He.eqO (PySem.W.nsIn K mainGlobals p.1) (some (some (.builtin p.2)))
def obsZ (fa : List He.Fa) (fn : List He.DefD) (xs : List Xf) (ks : List Ke) (ts : List String) (bs : List (Str × String)) (K : PySem.W.Frag) : AlZ := (obsY fa fn xs ks ts K, impB bs K)
def valZ (fn : List He.DefD) : AlZ := (valY fn, true)
def SaysZ (fa : List He.Fa) (fn : List He.DefD) (xs : List Xf) (ks : List Ke) (ts : List String) (bs : List (Str × String)) (K : PySem.W.Frag) : Prop := obsZ fa fn xs ks ts bs K = valZ fn
def obsZG (n : Nat) (fa : List He.Fa) (fn : List He.DefD) (xs : List Xf) (ks : List Ke) (ts : List String) (bs : List (Str × String)) (g : Addr → Option Obj) : AlZ := obsZ fa fn xs ks ts bs (He.frG g (He.asD g n))
def hookZ (n : Nat) (fa : List He.Fa) (fn : List He.DefD) (xs : List Xf) (ks : List Ke) (ts : List String) (bs : List (Str × String)) : PySem.W.Hook where
  α := AlZ
  obs := fun s => obsZG n fa fn xs ks ts bs s.heap.get?
  val := fun _ => valZ fn
  says := fun _ h => ∃ K : PySem.W.Frag, K.In h ∧ SaysZ fa fn xs ks ts bs K
  of := fun _ _ e => ⟨_, He.frG_in, e⟩
  keeps := fun _ _ _ ⟨K, hK, c⟩ k => ⟨K, PySem.W.Frag.In.keeps hK k, c⟩
theorem obsZG_eq {n : Nat} {fa : List He.Fa} {fn : List He.DefD} {xs : List Xf} {ks : List Ke} {ts : List String} {bs : List (Str × String)} {g : Addr → Option Obj} {s : Shared} (h : ∀ a, g a = s.heap.get? a) : obsZG n fa fn xs ks ts bs g = (hookZ n fa fn xs ks ts bs).obs s := by
  have e : g = s.heap.get? := funext h
  subst e
  rfl
section
variable {fa : List He.Fa} {fn : List He.DefD} {xs : List Xf} {ks : List Ke} {ts : List String} {bs : List (Str × String)} {K : PySem.W.Frag}
theorem SaysZ.y (c : SaysZ fa fn xs ks ts bs K) : SaysY fa fn xs ks ts K := congrArg (fun z : AlZ => z.1) c
theorem SaysZ.ib (c : SaysZ fa fn xs ks ts bs K) (i : Nat) {p : Str × String} (h : bs[i]? = some p := by rfl) : PySem.W.nsIn K mainGlobals p.1 = some (some (.builtin p.2)) :=
  He.eqO_ok (List.all_eq_true.mp (show impB bs K = true from congrArg (fun z : AlZ => z.2) c) p (List.mem_of_getElem? h))
theorem imp_ok {h : Heap} {mg : Str → Option Value} (X : K.In h) (G : h.Ns mainGlobals mg) {x : Str} {id : String} (c : PySem.W.nsIn K mainGlobals x = some (some (.builtin id))) : mg x = some (.builtin id) := PySem.W.mg_of X G c
end
end DL
namespace DL.K26
open PySem PySem.Spec L2 DL
def top (i : Nat) : Stmt := PySem.Challenge.pw_tollround_k26_whole_counts_of_all_lots.main.body.getD i (.Pass ⟨0, 0, 0, 0⟩)
abbrev s_spreads_many : Stmt := top 2
abbrev s_rounds_of : Stmt := top 4
abbrev s_up_to_rounds : Stmt := top 7
abbrev s_many_with : Stmt := top 6
abbrev s_states_many : Stmt := top 8
abbrev s_with_next_seat : Stmt := top 11
abbrev s_rows_many : Stmt := top 10
abbrev s_lots_many : Stmt := top 9
abbrev s_box : Stmt := top 13
abbrev s_take : Stmt := top 14
abbrev s_cells : Stmt := top 15
abbrev s_of : Stmt := top 16
abbrev s_strewn : Stmt := top 17
abbrev s_l_residues : Stmt := top 18
abbrev s_right : Stmt := top 19
abbrev s_law : Stmt := top 20
def fn : List He.DefD := [⟨("spreads_many", none), "spreads_many", "spreads_many", defArgs s_spreads_many, defBody s_spreads_many, defScope s_spreads_many, [], []⟩, ⟨("rounds_of", none), "rounds_of", "rounds_of", defArgs s_rounds_of, defBody s_rounds_of, defScope s_rounds_of, [], []⟩, ⟨("up_to_rounds", none), "up_to_rounds", "up_to_rounds", defArgs s_up_to_rounds, defBody s_up_to_rounds, defScope s_up_to_rounds, [], []⟩, ⟨("many_with", none), "many_with", "many_with", defArgs s_many_with, defBody s_many_with, defScope s_many_with, [], []⟩, ⟨("states_many", none), "states_many", "states_many", defArgs s_states_many, defBody s_states_many, defScope s_states_many, [], []⟩, ⟨("with_next_seat", none), "with_next_seat", "with_next_seat", defArgs s_with_next_seat, defBody s_with_next_seat, defScope s_with_next_seat, [], []⟩, ⟨("rows_many", none), "rows_many", "rows_many", defArgs s_rows_many, defBody s_rows_many, defScope s_rows_many, [], []⟩, ⟨("lots_many", none), "lots_many", "lots_many", defArgs s_lots_many, defBody s_lots_many, defScope s_lots_many, [], []⟩, ⟨("_law_box", none), "_law_box", "_law_box", defArgs s_box, defBody s_box, defScope s_box, [], []⟩, ⟨("_law_take", none), "_law_take", "_law_take", defArgs s_take, defBody s_take, defScope s_take, [], []⟩, ⟨("_law_cells", none), "_law_cells", "_law_cells", defArgs s_cells, defBody s_cells, defScope s_cells, [], []⟩, ⟨("_law_of", none), "_law_of", "_law_of", defArgs s_of, defBody s_of, defScope s_of, [], []⟩, ⟨("_law_strewn", none), "_law_strewn", "_law_strewn", defArgs s_strewn, defBody s_strewn, defScope s_strewn, [], []⟩, ⟨("_law_residues", none), "_law_residues", "_law_residues", defArgs s_l_residues, defBody s_l_residues, defScope s_l_residues, [], []⟩, ⟨("_law_right", none), "_law_right", "_law_right", defArgs s_right, defBody s_right, defScope s_right, [], []⟩, ⟨("law", none), "law", "law", defArgs s_law, defBody s_law, defScope s_law, [], []⟩]
def IB : List (Str × String) := [("comb", "math.comb"), ("factorial", "math.factorial")]
def xf : List Xf := []
def KS : List Ke := []
def TS : List String := []
def fa : List He.Fa := [.glo "spreads_many", .glo "rounds_of", .glo "up_to_rounds", .glo "many_with", .glo "states_many", .glo "with_next_seat", .glo "rows_many", .glo "lots_many", .glo "_law_box", .glo "_law_take", .glo "_law_cells", .glo "_law_of", .glo "_law_strewn", .glo "_law_residues", .glo "_law_right", .glo "law", .free "len", .free "sum", .free "sorted", .free "enumerate", .free "range", .free "abs", .free "int", .free "list", .free "tuple"]
abbrev R : PySem.W.OpenRow := PySem.W.OpenLaw.row PySem.Challenge.rw_tollround_k26_whole_counts_of_all_lots
abbrev hk : PySem.W.Hook := hookZ 5 fa fn xf KS TS IB
def ob (s : PySem.W.SharedT) : AlZ := obsZG 5 fa fn xf KS TS IB (HandSHeadRun.getT s)
theorem ob_eq (s : PySem.W.SharedT) : ob s = hk.obs s.abs := obsZG_eq (HandSHeadRun.getT_eq s)
def loose : List Str := (["spreads_many", "rounds_of", "many_with", "up_to_rounds", "states_many", "lots_many", "rows_many", "with_next_seat", "_law_box", "_law_take", "_law_cells", "_law_of", "_law_strewn", "_law_residues", "_law_right", "__name__"] : List Str)
theorem map3 {α β γ δ : Type} {o : Option α} {f : α → β} {g : α → γ} {h : α → δ} {a : β} {b : γ} {c : δ} (e1 : o.map f = some a) (e2 : o.map g = some b) (e3 : o.map h = some c) : o.map (fun x => (f x, g x, h x)) = some (a, b, c) := by
  cases o with
  | none => cases e1
  | some x =>
    have q1 : f x = a := Option.some.inj e1
    have q2 : g x = b := Option.some.inj e2
    have q3 : h x = c := Option.some.inj e3
    show some (f x, g x, h x) = _
    rw [q1, q2, q3]
theorem run1 (w : World) : (HandSHeadRun.wholeF (fun p => HandSHeadRun.stepQ (HandSHeadRun.denQ HandSHeadRun.tabQ) p w) HandSHeadRun.fenceQ 20000 R.prog).map (fun x => HandSHeadRun.looksF R.prog x.1.heap x.2.abs) = some true := by
  kernel_rfl
theorem run2 (w : World) : (HandSHeadRun.wholeF (fun p => HandSHeadRun.stepQ (HandSHeadRun.denQ HandSHeadRun.tabQ) p w) HandSHeadRun.fenceQ 20000 R.prog).map (fun x => HandSHeadRun.seenQ (PySem.W.view R.prog [0, 20]) loose (importedModules R.prog.main.body) (fun s => PySem.W.xlAt (PySem.W.view R.prog [0, 20]) [] s && PySem.W.recOk R.toRowW.records s) x.2.abs) = some (PySem.W.openGood (PySem.W.view R.prog [0, 20]) loose) := by
  kernel_rfl
theorem run3 (w : World) : (HandSHeadRun.wholeF (fun p => HandSHeadRun.stepQ (HandSHeadRun.denQ HandSHeadRun.tabQ) p w) HandSHeadRun.fenceQ 20000 R.prog).map (fun x => ob x.2) = some (hk.val w) := by
  kernel_rfl
theorem run (w : World) : HandSHeadRun.RunEqI R (PySem.W.view R.prog [0, 20]) hk ob 20000 loose w := by
  unfold HandSHeadRun.RunEqI
  exact map3 (run1 w) (run2 w) (run3 w)
end DL.K26
namespace DL
open PySem PySem.Spec L2
section
variable {X : Cx} {W : WX} {e : Expr} {es : List Expr} {p pos : Pos} {x : Str} {id : String} {g : List Vl → Mem → Res Vl} {f : Evs}
/-- as de_callB, the name bound in the module -/
theorem de_callFun (hc : CallD X (.builtin id) g) (hg : Gl X x) (hm : X.mg x = some (.builtin id)) (ha : DA X W (e :: es) f) (hdb : (x == ("__debug__" : Str)) = false := by decide)
    (he : starEach (e :: es) X.env = (false, eval e X.env) :: starEach es X.env := by rfl) (hpl : (backTo pos (starEach es X.env)).any (·.1) = false := by rfl) : DE X W (.Call (.Name x p) (e :: es) [] pos) (callE g f) :=
  PEweak (pe_callBfun hc hg hm ha hdb he hpl) fun σ H Q ⟨w, e, M, r, re, q⟩ =>
    ⟨w, e, M, r, re, q.bind fun xs M1 w1 vs H1 l1 r1 rv p1 => ⟨w1, M1, xs, r1, rv, p1.pur⟩⟩
end
end DL
namespace PySem.W
open PySem PySem.Calls
section
variable {prog : Program} {w : World} {A : Around} {E : Value → Shared → Prop} {s : Shared} {Q : Value → Shared → Prop} {a b : Int} {t u : Tok}
theorem mg_comb0 (h0 : ¬a < 0) (h1 : ¬b < 0) (h2 : b > a) (h : Q (.int 0 s.toks) { s with toks := s.toks + 1 }) : wpAny (model prog w) A (call (.builtin "math.comb") [.int a t, .int b u]) Q E s :=
  call_function_meets MGF.kind_comb MGF.plain_comb MGF.entry_comb (MGF.args_comb _ _) (mc_run_comb0 a t b u h0 h1 h2).meets h
theorem mg_comb (h0 : ¬a < 0) (h1 : ¬b < 0) (h2 : ¬b > a) (h3 : ¬min b (a - b) > Builtin.Math.maxSsize) (h4 : ¬min b (a - b) > Builtin.Math.manyFactors) (h5 : ¬min b (a - b) > 9000)
    (hsz : (Builtin.Math.fallingProduct a (min b (a - b)).toNat / Builtin.Math.fallingProduct (min b (a - b)) (min b (a - b)).toNat).natAbs.log2 < bitsLine)
    (h : Q (.int (Builtin.Math.fallingProduct a (min b (a - b)).toNat / Builtin.Math.fallingProduct (min b (a - b)) (min b (a - b)).toNat) s.toks) { s with toks := s.toks + 1 }) : wpAny (model prog w) A (call (.builtin "math.comb") [.int a t, .int b u]) Q E s :=
  call_function_meets MGF.kind_comb MGF.plain_comb MGF.entry_comb (MGF.args_comb _ _) (mc_run_comb a t b u h0 h1 h2 h3 h4 h5 hsz).meets h
end
end PySem.W
namespace DL
open PySem PySem.Spec L2
/-- how many ways to choose b of a, as the model counts them -/
def combI (a b : Int) : Int := if b > a then 0 else Builtin.Math.fallingProduct a (min b (a - b)).toNat / Builtin.Math.fallingProduct (min b (a - b)) (min b (a - b)).toNat
def combV : List Vl → Mem → Res Vl
  | [.d (.int a), .d (.int b)], M => if ¬a < 0 ∧ ¬b < 0 ∧ (b > a ∨ (¬min b (a - b) > Builtin.Math.maxSsize ∧ ¬min b (a - b) > Builtin.Math.manyFactors ∧ ¬min b (a - b) > 9000 ∧ (combI a b).natAbs.log2 < PySem.bitsLine)) then .ok (.d (.int (combI a b))) M else .st
  | _, _ => .st
theorem cd_comb {X : Cx} : CallD X (.builtin "math.comb") combV := by
  rintro pins s σ H vs us Q I rv ⟨w, M, xs, r, rx, p⟩
  unfold combV at p
  split at p
  · rename_i i j
    obtain ⟨a, b, rfl, ha, hb⟩ : ∃ a b, vs = [a, b] ∧ RV X.K w (.d (.int i)) a ∧ RV X.K w (.d (.int j)) b := by
      cases rx with
      | cons h1 t => cases t with
        | cons h2 t => cases t; exact ⟨_, _, rfl, h1, h2⟩
    cases ha; cases hb
    obtain ⟨t, u, rfl⟩ := Vals.int2 rv
    split at p
    · rename_i hc
      obtain ⟨h0, h1, h2⟩ := hc
      by_cases hb : j > i
      · unfold combI at p
        rw [if_pos hb] at p
        exact PySem.W.mg_comb0 h0 h1 hb ⟨.int _, H, I.tok _, ⟨_, rfl⟩, p.at r (.int _)⟩
      · obtain ⟨h3, h4, h5, hz⟩ := h2.resolve_left hb
        unfold combI at p hz
        rw [if_neg hb] at p hz
        exact PySem.W.mg_comb h0 h1 hb h3 h4 h5 hz ⟨.int _, H, I.tok _, ⟨_, rfl⟩, p.at r (.int _)⟩
    · exact p.elim
  · exact p.elim
def factV : List Vl → Mem → Res Vl
  | [.d (.int a)], M => if ¬a > Builtin.Math.maxSsize ∧ ¬a < 0 ∧ ¬a > Builtin.Math.manyFactors ∧ (((Builtin.Math.factorialNat a.toNat : Nat) : Int)).natAbs.log2 < PySem.bitsLine then .ok (.d (.int ((Builtin.Math.factorialNat a.toNat : Nat) : Int))) M else .st
  | _, _ => .st
theorem cd_fact {X : Cx} : CallD X (.builtin "math.factorial") factV := by
  rintro pins s σ H vs us Q I rv ⟨w, M, xs, r, rx, p⟩
  unfold factV at p
  split at p
  · rename_i i
    obtain ⟨a, rfl, ha⟩ : ∃ a, vs = [a] ∧ RV X.K w (.d (.int i)) a := by
      cases rx with
      | cons h1 t => cases t; exact ⟨_, rfl, h1⟩
    cases ha
    obtain ⟨u, rfl, ⟨t, rfl⟩⟩ := vals1 rv
    split at p
    · rename_i hc
      obtain ⟨h0, h1, h2, hz⟩ := hc
      exact PySem.W.mg_factorial h0 h1 h2 hz ⟨.int _, H, I.tok _, ⟨_, rfl⟩, p.at r (.int _)⟩
    · exact p.elim
  · exact p.elim
end DL
namespace DL
open PySem PySem.Spec L2
noncomputable local instance {w : Wd} {M M' : Mem} {a : Addr} : Decidable (Fst w M M' a) := Classical.propDecidable _
end DL
namespace DL
open PySem PySem.Spec L2
end DL
namespace DL
open PySem PySem.Spec L2
end DL
namespace DL
open PySem PySem.Spec L2
theorem get_set_eq {α : Type} {l : List α} {i : Nat} {x y : α} (h : (l.set i x)[i]? = some y) : y = x := by
  have := lt_of_getL h
  rw [List.length_set] at this
  rw [List.getElem?_set_self this] at h
  exact (Option.some.inj h).symm
theorem get_set_ne {α : Type} {l : List α} {i j : Nat} {x : α} (h : i ≠ j) : (l.set i x)[j]? = l[j]? := List.getElem?_set_ne h
/-- after some exchanges: who began at seat a is where P tells, with so many coins more -/
structure Trk (P : List Nat) (G : List Int) (ss : List Nat) (ps : List Int) (s1 : List Nat) (p1 : List Int) : Prop where
  seat : ∀ (x a c : Nat), ss[x]? = some a → s1[x]? = some c → P[c]? = some a
  coin : ∀ (x a : Nat) (p q g : Int), ss[x]? = some a → ps[x]? = some p → p1[x]? = some q → G[a]? = some g → q = p + g
def Enough (N : List Int) (ss : List Nat) (ps : List Int) : Prop := ∀ (x a : Nat) (p m : Int), ss[x]? = some a → ps[x]? = some p → N[a]? = some m → m ≤ p
structure OneP (n : Nat) (cs : List Nat) (P : List Nat) (G N : List Int) : Prop where
  perm : P.Perm (List.range n)
  gl : G.length = n
  nl : N.length = n
  n0 : ∀ (a : Nat) (m : Int), N[a]? = some m → 0 ≤ m
  go : ∀ (ss : List Nat) (ps : List Int), Stt n ss ps → Enough N ss ps → ∃ s1 p1, Run n ss ps cs s1 p1 ∧ Trk P G ss ps s1 p1
  back : ∀ (ss : List Nat) (ps : List Int) (s1 : List Nat) (p1 : List Int), Stt n ss ps → Run n ss ps cs s1 p1 → Enough N ss ps
theorem OneP.zero {n : Nat} : OneP n [] (List.range n) (List.replicate n 0) (List.replicate n 0) where
  perm := List.Perm.refl _
  gl := by simp
  nl := by simp
  n0 := fun a m h => by
    have := List.eq_of_mem_replicate (List.mem_of_getElem? h)
    omega
  go := fun ss ps h _ => ⟨ss, ps, .nil, ⟨fun x a c h1 h2 => by
    have e : a = c := by rw [h1] at h2; exact Option.some.inj h2
    subst e
    rw [List.getElem?_range (h.lt h1)], fun x a p q g _ h1 h2 h3 => by
    have := List.eq_of_mem_replicate (List.mem_of_getElem? h3)
    rw [h1] at h2
    cases h2
    omega⟩⟩
  back := fun ss ps s1 p1 h _ x a p m _ hp hm => by
    have := List.eq_of_mem_replicate (List.mem_of_getElem? hm)
    have := h.nn p (List.mem_of_getElem? hp)
    omega
theorem OneP.step {n c a t : Nat} {cs P : List Nat} {G N : List Int} {ga gt ma : Int} (O : OneP n cs P G N) (h2 : 2 ≤ n) (hc : c < n) (ha : P[c]? = some a) (ht : P[(c + 1) % n]? = some t) (hga : G[a]? = some ga) (hgt : G[t]? = some gt) (hma : N[a]? = some ma) :
    a ≠ t ∧ OneP n (cs ++ [c]) ((P.set c t).set ((c + 1) % n) a) ((G.set a (ga - 1)).set t (gt + 1)) (N.set a (max ma (1 - ga))) := by
  obtain ⟨hne, hlt⟩ := next_ne h2 hc
  have PP := PN.of_perm O.perm
  have hpl : P.length = n := by rw [O.perm.length_eq, List.length_range]
  have hat : a ≠ t := fun e => hne (PP.inj _ _ _ (e ▸ ht) ha)
  generalize hb : (c + 1) % n = b at *
  have la := lt_of_getL hga
  have lt := lt_of_getL hgt
  have lm := lt_of_getL hma
  have lc : c < P.length := by omega
  have lb : b < P.length := by omega
  have main : ∀ (ss : List Nat) (ps : List Int), Stt n ss ps → ∀ s1 p1, Run n ss ps cs s1 p1 → Trk P G ss ps s1 p1 → ∃ (x y : Nat) (px qy : Int), s1[x]? = some c ∧ s1[y]? = some b ∧ ss[x]? = some a ∧ ss[y]? = some t ∧ ps[x]? = some px ∧ p1[x]? = some (px + ga) ∧ p1[y]? = some qy := by
    intro ss ps h s1 p1 R T
    obtain ⟨h1, _⟩ := R.ok h h2
    obtain ⟨x, hx⟩ := h1.onto hc
    obtain ⟨y, hy⟩ := h1.onto hlt
    obtain ⟨qx, hqx, _⟩ := h1.purse hx
    obtain ⟨qy, hqy, _⟩ := h1.purse hy
    obtain ⟨a0, ha0⟩ := get_some (show x < ss.length by have := lt_of_getL hx; rw [h1.slen] at this; rw [h.slen]; exact this)
    obtain ⟨t0, ht0⟩ := get_some (show y < ss.length by have := lt_of_getL hy; rw [h1.slen] at this; rw [h.slen]; exact this)
    obtain ⟨px, hpx, _⟩ := h.purse ha0
    have e1 : a0 = a := by have := T.seat x a0 c ha0 hx; rw [ha] at this; exact (Option.some.inj this).symm
    have e2 : t0 = t := by have := T.seat y t0 b ht0 hy; rw [ht] at this; exact (Option.some.inj this).symm
    subst e1 e2
    have := T.coin x a0 px qx ga ha0 hpx hqx hga
    subst this
    exact ⟨x, y, px, qy, hx, hy, ha0, ht0, hpx, hqx, hqy⟩
  refine ⟨hat, ?_, by simp [O.gl], by simp [O.nl], fun i m hm => ?_, fun ss ps h E => ?_, fun ss ps s2 p2 h R => ?_⟩
  · have := List.set_set_perm (as := P) lc lb
    have ec : P[c] = a := by rw [List.getElem?_eq_getElem lc] at ha; exact Option.some.inj ha
    have eb : P[b] = t := by rw [List.getElem?_eq_getElem lb] at ht; exact Option.some.inj ht
    rw [ec, eb] at this
    exact this.trans O.perm
  · by_cases hi : a = i
    · subst hi
      have := get_set_eq hm
      have := O.n0 _ _ hma
      omega
    · rw [get_set_ne hi] at hm
      exact O.n0 _ _ hm
  · have E0 : Enough N ss ps := fun x a1 p m hx hp hm => by
      by_cases hi : a = a1
      · subst hi
        rw [hma] at hm
        cases hm
        have := E x a p (max ma (1 - ga)) hx hp (List.getElem?_set_self lm)
        omega
      · exact E x a1 p m hx hp (by rw [get_set_ne hi]; exact hm)
    obtain ⟨s1, p1, R, T⟩ := O.go ss ps h E0
    obtain ⟨h1, _⟩ := R.ok h h2
    obtain ⟨x, y, px, qy, hx, hy, hax, hty, hpx, hqx, hqy⟩ := main ss ps h s1 p1 R T
    have hxy : x ≠ y := fun e => hne (by rw [e, hy] at hx; exact Option.some.inj hx)
    have hp0 : 0 < px + ga := by
      have := E x a px (max ma (1 - ga)) hax hpx (List.getElem?_set_self lm)
      omega
    have X : Ex n s1 p1 c ((s1.set x b).set y c) ((p1.set x (px + ga - 1)).set y (qy + 1)) := ⟨⟨x, y, px + ga, qy, hx, by rw [hb]; exact hy, hqx, hp0, hqy, by rw [hb], rfl⟩⟩
    refine ⟨_, _, R.snoc X, ⟨fun z a1 d hz hd => ?_, fun z a1 p q g hz hp hq hg => ?_⟩⟩
    · by_cases hzy : y = z
      · subst hzy
        obtain rfl := get_set_eq hd
        rw [hty] at hz
        cases hz
        rw [get_set_ne hne, List.getElem?_set_self lc]
      · rw [get_set_ne hzy] at hd
        by_cases hzx : x = z
        · subst hzx
          obtain rfl := get_set_eq hd
          rw [hax] at hz
          cases hz
          exact List.getElem?_set_self (by simpa using lb)
        · rw [get_set_ne hzx] at hd
          have n1 : b ≠ d := fun e => hzy (h1.inj hy (e ▸ hd))
          have n2 : c ≠ d := fun e => hzx (h1.inj hx (e ▸ hd))
          rw [get_set_ne n1, get_set_ne n2]
          exact T.seat z a1 d hz hd
    · by_cases hzy : y = z
      · subst hzy
        rw [hty] at hz
        cases hz
        obtain rfl := get_set_eq hq
        obtain rfl := get_set_eq hg
        have := T.coin y t p qy gt hty hp hqy hgt
        omega
      · rw [get_set_ne hzy] at hq
        by_cases hzx : x = z
        · subst hzx
          rw [hax] at hz
          cases hz
          obtain rfl := get_set_eq hq
          rw [get_set_ne (Ne.symm hat)] at hg
          obtain rfl := get_set_eq hg
          rw [hpx] at hp
          cases hp
          omega
        · rw [get_set_ne hzx] at hq
          have n1 : t ≠ a1 := fun e => hzy (h.inj hty (e ▸ hz))
          have n2 : a ≠ a1 := fun e => hzx (h.inj hax (e ▸ hz))
          rw [get_set_ne n1, get_set_ne n2] at hg
          exact T.coin z a1 p q g hz hp hq hg
  · obtain ⟨s1, p1, R1, X⟩ := R.last
    have E0 := O.back ss ps s1 p1 h R1
    obtain ⟨s1', p1', R1', T⟩ := O.go ss ps h E0
    obtain ⟨e1, e2⟩ := R1.det h h2 R1'
    subst e1 e2
    obtain ⟨h1, _⟩ := R1.ok h h2
    obtain ⟨x, y, px, qy, hx, hy, hax, hty, hpx, hqx, hqy⟩ := main ss ps h s1 p1 R1 T
    obtain ⟨j, k, p, q, a1, _, a3, a4, _⟩ := X.ex
    have := h1.inj a1 hx
    subst this
    rw [hqx] at a3
    cases a3
    intro z b1 p m hz hp hm
    by_cases hi : a = b1
    · subst hi
      have := get_set_eq hm
      have e := h.inj hz hax
      subst e
      rw [hpx] at hp
      cases hp
      have := E0 _ _ _ _ hz hpx hma
      omega
    · rw [get_set_ne hi] at hm
      exact E0 z b1 p m hz hp hm
end DL
namespace DL
open PySem PySem.Spec L2
/-- the seat after k passes, the coins gained in them -/
def fI (E : List Nat) : Nat → Nat → Nat
  | 0, a => a
  | k + 1, a => E.getD (fI E k a) 0
def cI (E : List Nat) (G : List Int) : Nat → Nat → Int
  | 0, _ => 0
  | k + 1, a => cI E G k a + G.getD (fI E k a) 0
def repR (cs : List Nat) : Nat → List Nat
  | 0 => []
  | k + 1 => repR cs k ++ cs
theorem Run.catP {n : Nat} {ss s1 s2 as bs : List Nat} {ps p1 p2 : List Int} (R : Run n ss ps as s1 p1) (R2 : Run n s1 p1 bs s2 p2) : Run n ss ps (as ++ bs) s2 p2 := by
  induction R2 with
  | nil => rw [List.append_nil]; exact R
  | snoc _ x ih => rw [← List.append_assoc]; exact ih.snoc x
theorem Run.splitP {n : Nat} {ss as : List Nat} {ps : List Int} : ∀ {bs : List Nat} {s2 : List Nat} {p2 : List Int}, Run n ss ps (as ++ bs) s2 p2 → ∃ s1 p1, Run n ss ps as s1 p1 ∧ Run n s1 p1 bs s2 p2 := by
  intro bs
  induction hb : bs.length generalizing bs with
  | zero =>
    intro s2 p2 R
    obtain rfl := List.length_eq_zero_iff.mp hb
    rw [List.append_nil] at R
    exact ⟨s2, p2, R, .nil⟩
  | succ m ih =>
    intro s2 p2 R
    obtain ⟨l, c, rfl⟩ : ∃ l c, bs = l ++ [c] := ⟨bs.dropLast, bs.getLast (by intro e; rw [e] at hb; simp at hb), (List.dropLast_concat_getLast _).symm⟩
    rw [← List.append_assoc] at R
    obtain ⟨s1, p1, R1, x⟩ := R.last
    obtain ⟨s0, p0, R0, R0'⟩ := ih (bs := l) (by simpa using hb) R1
    exact ⟨s0, p0, R0, R0'.snoc x⟩
/-- nobody has too little in the first k passes -/
def Paid (E : List Nat) (G N : List Int) (ss : List Nat) (ps : List Int) (k : Nat) : Prop := ∀ (i x a : Nat) (p m : Int), i < k → ss[x]? = some a → ps[x]? = some p → N[fI E i a]? = some m → m ≤ p + cI E G i a
section
variable {n : Nat} {cs P E : List Nat} {G N : List Int}
theorem OneP.seat1 (O : OneP n cs P G N) (V : Inv2 P E) {ss s1 : List Nat} {ps p1 : List Int} (T : Trk P G ss ps s1 p1) (h : Stt n ss ps) (h1 : Stt n s1 p1) {x a : Nat} (hx : ss[x]? = some a) : s1[x]? = some (E.getD a 0) := by
  obtain ⟨c, hc⟩ := get_some (show x < s1.length by have := lt_of_getL hx; rw [h.slen] at this; rw [h1.slen]; exact this)
  have := V.at_ c a (T.seat x a c hx hc)
  rw [hc, List.getD_eq_getElem?_getD, this]
  rfl
theorem OneP.coin1 (O : OneP n cs P G N) {ss s1 : List Nat} {ps p1 : List Int} (T : Trk P G ss ps s1 p1) (h : Stt n ss ps) (h1 : Stt n s1 p1) {x a : Nat} {p : Int} (hx : ss[x]? = some a) (hp : ps[x]? = some p) : p1[x]? = some (p + G.getD a 0) := by
  obtain ⟨q, hq⟩ := get_some (show x < p1.length by have := lt_of_getL hx; rw [h.slen] at this; rw [h1.len]; exact this)
  obtain ⟨g, hg⟩ := get_some (show a < G.length by rw [O.gl]; exact h.lt hx)
  rw [hq, T.coin x a p q g hx hp hq hg, List.getD_eq_getElem?_getD, hg]
  rfl
theorem OneP.many (O : OneP n cs P G N) (V : Inv2 P E) (h2 : 2 ≤ n) {ss : List Nat} {ps : List Int} (h : Stt n ss ps) : ∀ k, Paid E G N ss ps k →
    ∃ s p, Run n ss ps (repR cs k) s p ∧ (∀ x a : Nat, ss[x]? = some a → s[x]? = some (fI E k a)) ∧ ∀ (x a : Nat) (q : Int), ss[x]? = some a → ps[x]? = some q → p[x]? = some (q + cI E G k a)
  | 0, _ => ⟨ss, ps, .nil, fun x a hx => hx, fun x a q _ hq => by rw [hq]; show some q = some (q + 0); rw [Int.add_zero]⟩
  | k + 1, H => by
    obtain ⟨s, p, R, S, C⟩ := OneP.many O V h2 h k fun i x a p m hi => H i x a p m (by omega)
    obtain ⟨h1, _⟩ := R.ok h h2
    have En : Enough N s p := fun x b q m hb hq hm => by
      have hx : x < n := by have := lt_of_getL hb; rwa [h1.slen] at this
      obtain ⟨a, ha⟩ := get_some (show x < ss.length by rw [h.slen]; exact hx)
      obtain ⟨q0, hq0⟩ := get_some (show x < ps.length by rw [h.len]; exact hx)
      have e1 := S x a ha
      rw [hb] at e1
      cases e1
      have e2 := C x a q0 ha hq0
      rw [hq] at e2
      cases e2
      exact H k x a q0 m (Nat.lt_succ_self k) ha hq0 hm
    obtain ⟨s1, p1, R1, T⟩ := O.go s p h1 En
    obtain ⟨h3, _⟩ := R1.ok h1 h2
    refine ⟨s1, p1, R.catP R1, fun x a hx => O.seat1 V T h1 h3 (S x a hx), fun x a q hx hq => ?_⟩
    rw [O.coin1 T h1 h3 (S x a hx) (C x a q hx hq)]
    show some (q + cI E G k a + G.getD (fI E k a) 0) = some (q + (cI E G k a + G.getD (fI E k a) 0))
    rw [Int.add_assoc]
end
end DL
namespace DL
open PySem PySem.Spec L2
theorem few_nodup : ∀ (n : Nat) (xs : List Nat), xs.Nodup → (∀ x ∈ xs, x < n) → xs.length ≤ n := by
  intro n
  induction n with
  | zero =>
    intro xs _ h
    cases xs with
    | nil => exact Nat.le_refl _
    | cons x _ => exact absurd (h x List.mem_cons_self) (Nat.not_lt_zero _)
  | succ n ih =>
    intro xs hd h
    by_cases hm : n ∈ xs
    · have h1 := ih (xs.erase n) (hd.erase n) fun x hx => by
        obtain ⟨a, b⟩ := hd.mem_erase_iff.mp hx
        have := h x b
        omega
      rw [List.length_erase_of_mem hm] at h1
      omega
    · have := ih xs hd fun x hx => by
        have := h x hx
        have : x ≠ n := fun e => hm (e ▸ hx)
        omega
      omega
/-- a permutation, as a list -/
structure EP (n : Nat) (E : List Nat) : Prop where
  lt : ∀ a, a < n → E.getD a 0 < n
  inj : ∀ a b, a < n → b < n → E.getD a 0 = E.getD b 0 → a = b
theorem EP.of {n : Nat} {P E : List Nat} (h : P.Perm (List.range n)) (V : Inv2 P E) : EP n E := by
  have hl : P.length = n := by rw [h.length_eq, List.length_range]
  have key : ∀ a, a < n → ∃ k, P[k]? = some a ∧ E.getD a 0 = k := fun a ha => by
    obtain ⟨k, hk⟩ := onto_of_perm h a (by omega)
    refine ⟨k, hk, ?_⟩
    rw [List.getD_eq_getElem?_getD, V.at_ k a hk]
    rfl
  refine ⟨fun a ha => ?_, fun a b ha hb e => ?_⟩
  · obtain ⟨k, hk, e⟩ := key a ha
    rw [e, ← hl]
    exact lt_of_getL hk
  · obtain ⟨k, hk, e1⟩ := key a ha
    obtain ⟨j, hj, e2⟩ := key b hb
    rw [e1, e2] at e
    subst e
    rw [hk] at hj
    exact Option.some.inj hj
section
variable {n : Nat} {E : List Nat} {G N : List Int}
theorem fI_add (E : List Nat) : ∀ (i j a : Nat), fI E (i + j) a = fI E i (fI E j a)
  | 0, j, a => by rw [Nat.zero_add]; rfl
  | i + 1, j, a => by
    rw [show i + 1 + j = (i + j) + 1 by omega]
    show E.getD (fI E (i + j) a) 0 = E.getD (fI E i (fI E j a)) 0
    rw [fI_add E i j a]
theorem cI_add (E : List Nat) (G : List Int) : ∀ (i j a : Nat), cI E G (i + j) a = cI E G j a + cI E G i (fI E j a)
  | 0, j, a => by rw [Nat.zero_add]; show _ = _ + 0; rw [Int.add_zero]
  | i + 1, j, a => by
    rw [show i + 1 + j = (i + j) + 1 by omega]
    show cI E G (i + j) a + G.getD (fI E (i + j) a) 0 = cI E G j a + (cI E G i (fI E j a) + G.getD (fI E i (fI E j a)) 0)
    rw [cI_add E G i j a, fI_add E i j a, Int.add_assoc]
theorem EP.fI_lt (h : EP n E) {a : Nat} (ha : a < n) : ∀ k, fI E k a < n
  | 0 => ha
  | k + 1 => h.lt _ (h.fI_lt ha k)
theorem EP.fI_inj (h : EP n E) {a b : Nat} (ha : a < n) (hb : b < n) : ∀ k, fI E k a = fI E k b → a = b
  | 0, e => e
  | k + 1, e => h.fI_inj ha hb k (h.inj _ _ (h.fI_lt ha k) (h.fI_lt hb k) e)
/-- L is the length of the circuit of a -/
structure Circ (n : Nat) (E : List Nat) (a L : Nat) : Prop where
  pos : 0 < L
  le : L ≤ n
  back : fI E L a = a
  first : ∀ j, 0 < j → j < L → fI E j a ≠ a
theorem EP.circ (h : EP n E) {a : Nat} (ha : a < n) : ∃ L, Circ n E a L := by
  have ex : ∃ j, 0 < j ∧ j ≤ n ∧ fI E j a = a := by
    refine Classical.byContradiction fun no => ?_
    have nd : ((List.range (n + 1)).map fun k => fI E k a).Nodup := by
      rw [List.nodup_iff_pairwise_ne, List.pairwise_map]
      refine List.pairwise_lt_range.imp_of_mem ?_
      intro i j hi hj hij e
      have hj' := List.mem_range.mp hj
      refine no ⟨j - i, by omega, by omega, ?_⟩
      have e2 : fI E i (fI E (j - i) a) = fI E i a := by
        rw [← fI_add, show i + (j - i) = j by omega, e]
      exact h.fI_inj (h.fI_lt ha _) ha i e2
    have := few_nodup n _ nd fun x hx => by
      obtain ⟨k, _, rfl⟩ := List.mem_map.mp hx
      exact h.fI_lt ha k
    simp at this
    omega
  have least : ∀ m, (∃ j, 0 < j ∧ j ≤ m ∧ fI E j a = a) → ∃ L, 0 < L ∧ L ≤ m ∧ fI E L a = a ∧ ∀ j, 0 < j → j < L → fI E j a ≠ a := by
    intro m
    induction m with
    | zero => rintro ⟨j, h1, h2, _⟩; omega
    | succ m ih =>
      rintro ⟨j, h1, h2, h3⟩
      by_cases q : ∃ j, 0 < j ∧ j ≤ m ∧ fI E j a = a
      · obtain ⟨L, a1, a2, a3, a4⟩ := ih q
        exact ⟨L, a1, by omega, a3, a4⟩
      · exact ⟨j, h1, h2, h3, fun i hi hij e => q ⟨i, hi, by omega, e⟩⟩
  obtain ⟨L, a1, a2, a3, a4⟩ := least n ex
  exact ⟨L, a1, a2, a3, a4⟩
theorem Circ.rounds {a L : Nat} (h : Circ n E a L) : ∀ q, fI E (q * L) a = a ∧ cI E G (q * L) a = q * cI E G L a
  | 0 => by rw [Nat.zero_mul]; exact ⟨rfl, by show (0 : Int) = _; simp⟩
  | q + 1 => by
    obtain ⟨e1, e2⟩ := Circ.rounds h q
    rw [show (q + 1) * L = L + q * L by rw [Nat.add_mul]; omega, fI_add, cI_add, e1, e2]
    refine ⟨h.back, ?_⟩
    push_cast
    rw [Int.add_mul]
    omega
theorem Circ.at_ {a L : Nat} (h : Circ n E a L) (q r : Nat) : fI E (q * L + r) a = fI E r a ∧ cI E G (q * L + r) a = q * cI E G L a + cI E G r a := by
  obtain ⟨e1, e2⟩ := h.rounds (G := G) q
  rw [Nat.add_comm, fI_add, cI_add, e1, e2]
  exact ⟨rfl, rfl⟩
/-- the k-th pass cannot be paid with c coins from seat a -/
def Fails (E : List Nat) (G N : List Int) (a : Nat) (c : Int) (k : Nat) : Prop := c + cI E G k a < N.getD (fI E k a) 0
/-- what the program gathers at the places of the circuit -/
def foundI (E : List Nat) (G N : List Int) (a L : Nat) (c : Int) (at_ : Nat) : Option Int :=
  if c + cI E G at_ a - N.getD (fI E at_ a) 0 < 0 then some (at_ : Nat)
  else if 0 < -cI E G L a then some (((c + cI E G at_ a - N.getD (fI E at_ a) 0) / -cI E G L a + 1) * (L : Nat) + (at_ : Nat)) else none
theorem found_of_fails {a L k : Nat} {c : Int} (h : Circ n E a L) (F : Fails E G N a c k) : ∃ r v, r < L ∧ foundI E G N a L c r = some v ∧ v ≤ (k : Nat) := by
  obtain ⟨e1, e2⟩ := h.at_ (G := G) (k / L) (k % L)
  have ek : k / L * L + k % L = k := by rw [Nat.mul_comm]; exact Nat.div_add_mod k L
  rw [ek] at e1 e2
  unfold Fails at F
  rw [e1, e2] at F
  have hr := Nat.mod_lt k h.pos
  generalize hrr : k % L = r at *
  generalize hqq : k / L = q at *
  by_cases hs : c + cI E G r a - N.getD (fI E r a) 0 < 0
  · refine ⟨r, (r : Nat), hr, if_pos hs, ?_⟩
    have : r ≤ k := by rw [← ek]; exact Nat.le_add_left _ _
    omega
  · have hq : c + cI E G r a - N.getD (fI E r a) 0 < q * -cI E G L a := by rw [Int.mul_neg]; omega
    have hl : 0 < -cI E G L a := by
      refine Classical.byContradiction fun no => ?_
      have : (q : Int) * -cI E G L a ≤ 0 := Int.mul_nonpos_of_nonneg_of_nonpos (by omega) (by omega)
      omega
    refine ⟨r, _, hr, (if_neg hs).trans (if_pos hl), ?_⟩
    generalize c + cI E G r a - N.getD (fI E r a) 0 = s at *
    generalize -cI E G L a = l at *
    have h1 : s / l < q := Int.ediv_lt_of_lt_mul hl hq
    have h2 : (s / l + 1) * (L : Int) ≤ q * (L : Int) := Int.mul_le_mul_of_nonneg_right (by omega) (by omega)
    have h3 : ((q * L : Nat) : Int) = (q : Int) * (L : Int) := by push_cast; rfl
    omega
theorem fails_of_found {a L r : Nat} {c v : Int} (h : Circ n E a L) (F : foundI E G N a L c r = some v) : 0 ≤ v ∧ Fails E G N a c v.toNat := by
  unfold foundI at F
  split at F
  · rename_i hs
    obtain rfl := Option.some.inj F
    refine ⟨by omega, ?_⟩
    unfold Fails
    rw [Int.toNat_natCast]
    omega
  · rename_i hs
    split at F
    · rename_i hl
      obtain rfl := Option.some.inj F
      have hq0 : 0 ≤ (c + cI E G r a - N.getD (fI E r a) 0) / -cI E G L a := Int.ediv_nonneg (by omega) (by omega)
      obtain ⟨q, hq⟩ := Int.eq_ofNat_of_zero_le (show 0 ≤ (c + cI E G r a - N.getD (fI E r a) 0) / -cI E G L a + 1 by omega)
      have hlt := Int.lt_ediv_add_one_mul_self (c + cI E G r a - N.getD (fI E r a) 0) hl
      rw [hq] at hlt ⊢
      have e : (q : Int) * (L : Int) + (r : Int) = ((q * L + r : Nat) : Int) := by push_cast; rfl
      rw [e]
      refine ⟨by omega, ?_⟩
      rw [Int.toNat_natCast]
      unfold Fails
      obtain ⟨e1, e2⟩ := h.at_ (G := G) q r
      rw [e1, e2]
      rw [Int.mul_neg] at hlt
      omega
    · cases F
end
end DL
namespace DL
open PySem PySem.Spec L2
def opS (n : Nat) (z : List Nat × List Int × List Int) (c : Nat) : List Nat × List Int × List Int :=
  ((z.1.set c (z.1.getD ((c + 1) % n) 0)).set ((c + 1) % n) (z.1.getD c 0),
   (z.2.1.set (z.1.getD c 0) (z.2.1.getD (z.1.getD c 0) 0 - 1)).set (z.1.getD ((c + 1) % n) 0) (z.2.1.getD (z.1.getD ((c + 1) % n) 0) 0 + 1),
   z.2.2.set (z.1.getD c 0) (max (z.2.2.getD (z.1.getD c 0) 0) (1 - z.2.1.getD (z.1.getD c 0) 0)))
def opL (n : Nat) (cs : List Nat) : List Nat × List Int × List Int := cs.foldl (opS n) (List.range n, List.replicate n 0, List.replicate n 0)
theorem getD_of {α : Type} {l : List α} {i : Nat} {x d : α} (h : l[i]? = some x) : l.getD i d = x := by rw [List.getD_eq_getElem?_getD, h]; rfl
theorem OneP.opS {n c : Nat} {cs P : List Nat} {G N : List Int} (O : OneP n cs P G N) (h2 : 2 ≤ n) (hc : c < n) :
    ∃ (a t : Nat) (ga gt ma : Int), P[c]? = some a ∧ P[(c + 1) % n]? = some t ∧ G[a]? = some ga ∧ G[t]? = some gt ∧ N[a]? = some ma ∧ a ≠ t ∧ DL.opS n (P, G, N) c = ((P.set c t).set ((c + 1) % n) a, (G.set a (ga - 1)).set t (gt + 1), N.set a (max ma (1 - ga))) ∧
      OneP n (cs ++ [c]) ((P.set c t).set ((c + 1) % n) a) ((G.set a (ga - 1)).set t (gt + 1)) (N.set a (max ma (1 - ga))) := by
  have hpl : P.length = n := by rw [O.perm.length_eq, List.length_range]
  have PP := PN.of_perm O.perm
  obtain ⟨hne, hlt⟩ := next_ne h2 hc
  obtain ⟨a, ha⟩ := get_some (show c < P.length by omega)
  obtain ⟨t, ht⟩ := get_some (show (c + 1) % n < P.length by omega)
  have la : a < n := by have := PP.lt c a ha; omega
  have lt : t < n := by have := PP.lt _ t ht; omega
  obtain ⟨ga, hga⟩ := get_some (show a < G.length by rw [O.gl]; exact la)
  obtain ⟨gt, hgt⟩ := get_some (show t < G.length by rw [O.gl]; exact lt)
  obtain ⟨ma, hma⟩ := get_some (show a < N.length by rw [O.nl]; exact la)
  obtain ⟨hat, O'⟩ := O.step h2 hc ha ht hga hgt hma
  refine ⟨a, t, ga, gt, ma, ha, ht, hga, hgt, hma, hat, ?_, O'⟩
  unfold DL.opS
  dsimp only
  rw [getD_of ha, getD_of ht, getD_of hga, getD_of hgt, getD_of hma]
theorem opL_snoc (n : Nat) (cs : List Nat) (c : Nat) : opL n (cs ++ [c]) = opS n (opL n cs) c := by
  unfold opL
  rw [List.foldl_append]
  rfl
theorem opL_ok {n : Nat} (h2 : 2 ≤ n) : ∀ (m : Nat) (cs : List Nat), cs.length = m → (∀ c ∈ cs, c < n) → OneP n cs (opL n cs).1 (opL n cs).2.1 (opL n cs).2.2 := by
  intro m
  induction m with
  | zero =>
    intro cs hl _
    obtain rfl := List.length_eq_zero_iff.mp hl
    exact OneP.zero
  | succ m ih =>
    intro cs hl hc
    obtain ⟨l, c, rfl⟩ : ∃ l c, cs = l ++ [c] := ⟨cs.dropLast, cs.getLast (by intro e; rw [e] at hl; simp at hl), (List.dropLast_concat_getLast _).symm⟩
    have O := ih l (by simpa using hl) fun x hx => hc x (List.mem_append_left _ hx)
    obtain ⟨a, t, ga, gt, ma, _, _, _, _, _, _, e, O'⟩ := O.opS h2 (hc c (by simp))
    rw [opL_snoc, show opL n l = ((opL n l).1, (opL n l).2.1, (opL n l).2.2) from rfl, e]
    exact O'
end DL
namespace DL
open PySem PySem.Spec L2
def minDD : List Int → PyData
  | [] => .none
  | v :: r => .int (minI v r)
theorem minDD_spec (xs : List Int) : (xs = [] ∧ minDD xs = .none) ∨ ∃ m, minDD xs = .int m ∧ m ∈ xs ∧ ∀ v ∈ xs, m ≤ v := by
  cases xs with
  | nil => exact .inl ⟨rfl, rfl⟩
  | cons v r =>
    refine .inr ⟨minI v r, rfl, ?_, fun w hw => ?_⟩
    · rcases minI_mem r v with h | h
      · rw [h]; exact List.mem_cons_self
      · exact List.mem_cons_of_mem _ h
    · obtain ⟨h1, h2⟩ := minI_le r v
      rcases List.mem_cons.mp hw with rfl | hw
      · exact h1
      · exact h2 w hw
/-- how long the circuit of a is -/
def cl (n : Nat) (E : List Nat) (a : Nat) : Nat := ((List.range n).find? fun L => fI E (L + 1) a == a).getD 0 + 1
section
variable {n : Nat} {E : List Nat} {G N : List Int}
theorem EP.cl (h : EP n E) {a : Nat} (ha : a < n) : Circ n E a (cl n E a) := by
  obtain ⟨L, C⟩ := h.circ ha
  have e : ((List.range n).find? fun L => fI E (L + 1) a == a) = some (L - 1) := by
    rw [List.find?_range_eq_some]
    have := C.pos
    refine ⟨?_, List.mem_range.mpr (by have := C.le; omega), fun j hj => ?_⟩
    · rw [show L - 1 + 1 = L by omega, C.back]
      simp
    · have := C.first (j + 1) (by omega) (by omega)
      simp [this]
  have e2 : DL.cl n E a = L := by
    unfold DL.cl
    rw [e]
    have := C.pos
    show L - 1 + 1 = L
    omega
  rw [e2]
  exact C
def firstL (n : Nat) (E : List Nat) (G N : List Int) (a : Nat) (c : Int) : List Int := (List.range (cl n E a)).filterMap (foundI E G N a (cl n E a) c)
theorem first_spec (h : EP n E) {a : Nat} (ha : a < n) (c : Int) : (minDD (firstL n E G N a c) = .none ∧ ∀ k, ¬ Fails E G N a c k) ∨ ∃ k : Nat, minDD (firstL n E G N a c) = nD k ∧ Fails E G N a c k ∧ ∀ j, j < k → ¬ Fails E G N a c j := by
  have C := h.cl ha
  have mem : ∀ k, Fails E G N a c k → ∃ v ∈ firstL n E G N a c, v ≤ (k : Nat) := fun k F => by
    obtain ⟨r, v, hr, e, hv⟩ := found_of_fails C F
    exact ⟨v, List.mem_filterMap.mpr ⟨r, List.mem_range.mpr hr, e⟩, hv⟩
  rcases minDD_spec (firstL n E G N a c) with ⟨h1, h2⟩ | ⟨m, h1, h2, h3⟩
  · refine .inl ⟨h2, fun k F => ?_⟩
    obtain ⟨v, hv, _⟩ := mem k F
    rw [h1] at hv
    cases hv
  · obtain ⟨r, _, e⟩ := List.mem_filterMap.mp h2
    obtain ⟨k0, F⟩ := fails_of_found C e
    refine .inr ⟨m.toNat, ?_, F, fun j hj Fj => ?_⟩
    · rw [h1]
      show PyData.int m = PyData.int ((m.toNat : Nat) : Int)
      rw [Int.toNat_of_nonneg k0]
    · obtain ⟨v, hv, hle⟩ := mem j Fj
      have := h3 v hv
      omega
def numOD : PyData → Option Int
  | .int v => some v
  | _ => none
/-- over all people -/
def manyL (n : Nat) (E : List Nat) (G N : List Int) (ss : List Nat) (ps : List Int) : List Int := (ss.zip ps).filterMap fun z => numOD (minDD (firstL n E G N z.1 z.2))
theorem many_spec (h : EP n E) (hN : N.length = n) {ss : List Nat} {ps : List Int} (st : Stt n ss ps) :
    (minDD (manyL n E G N ss ps) = .none ∧ ∀ k, Paid E G N ss ps k) ∨ ∃ k : Nat, minDD (manyL n E G N ss ps) = nD k ∧ Paid E G N ss ps k ∧ ¬ Paid E G N ss ps (k + 1) := by
  have zip_at : ∀ (x a : Nat) (p : Int), ss[x]? = some a → ps[x]? = some p → (a, p) ∈ ss.zip ps := fun x a p ha hp => by
    refine List.mem_of_getElem? (i := x) ?_
    rw [List.getElem?_zip_eq_some]
    exact ⟨ha, hp⟩
  have fails : ∀ (i x a : Nat) (p m : Int), ss[x]? = some a → ps[x]? = some p → N[fI E i a]? = some m → ¬ m ≤ p + cI E G i a → Fails E G N a p i := fun i x a p m _ _ hm no => by
    unfold Fails
    rw [getD_of hm]
    omega
  have key : ∀ (i x a : Nat) (p : Int), ss[x]? = some a → ps[x]? = some p → Fails E G N a p i → ∃ v ∈ manyL n E G N ss ps, v ≤ (i : Nat) := fun i x a p ha hp F => by
    rcases first_spec (G := G) (N := N) h (st.lt ha) p with ⟨_, no⟩ | ⟨k, e, _, least⟩
    · exact absurd F (no i)
    · refine ⟨(k : Nat), List.mem_filterMap.mpr ⟨(a, p), zip_at x a p ha hp, ?_⟩, ?_⟩
      · show numOD (minDD (firstL n E G N a p)) = _
        rw [e]
        rfl
      · by_cases hk : k ≤ i
        · omega
        · exact absurd F (least i (by omega))
  rcases minDD_spec (manyL n E G N ss ps) with ⟨h1, h2⟩ | ⟨m, h1, h2, h3⟩
  · refine .inl ⟨h2, fun k i x a p m _ ha hp hm => ?_⟩
    refine Classical.byContradiction fun no => ?_
    obtain ⟨v, hv, _⟩ := key i x a p ha hp (fails i x a p m ha hp hm no)
    rw [h1] at hv
    cases hv
  · obtain ⟨⟨a, p⟩, hz, e⟩ := List.mem_filterMap.mp h2
    obtain ⟨x, hx⟩ := List.getElem?_of_mem hz
    obtain ⟨ha, hp⟩ := List.getElem?_zip_eq_some.mp hx
    have ha : ss[x]? = some a := ha
    have hp : ps[x]? = some p := hp
    rcases first_spec (G := G) (N := N) h (st.lt ha) p with ⟨e0, _⟩ | ⟨k, e0, F, _⟩
    · rw [show minDD (firstL n E G N (a, p).1 (a, p).2) = .none from e0] at e
      cases e
    · rw [show minDD (firstL n E G N (a, p).1 (a, p).2) = nD k from e0] at e
      obtain rfl : ((k : Nat) : Int) = m := Option.some.inj e
      refine .inr ⟨k, h1, fun i x a p m hi ha hp hm => ?_, fun H => ?_⟩
      · refine Classical.byContradiction fun no => ?_
        obtain ⟨v, hv, hle⟩ := key i x a p ha hp (fails i x a p m ha hp hm no)
        have := h3 v hv
        omega
      · obtain ⟨m, hm⟩ := get_some (show fI E k a < N.length by rw [hN]; exact h.fI_lt (st.lt ha) k)
        have := H k x a p m (Nat.lt_succ_self k) ha hp hm
        unfold Fails at F
        rw [getD_of hm] at F
        omega
end
/-- no gain is above the number of exchanges -/
theorem opL_bound {n : Nat} (h2 : 2 ≤ n) : ∀ (m : Nat) (cs : List Nat), cs.length = m → (∀ c ∈ cs, c < n) → ∀ g ∈ (opL n cs).2.1, -(m : Int) ≤ g ∧ g ≤ m := by
  intro m
  induction m with
  | zero =>
    intro cs hl _ g hg
    obtain rfl := List.length_eq_zero_iff.mp hl
    have := List.eq_of_mem_replicate (show g ∈ List.replicate n 0 from hg)
    omega
  | succ m ih =>
    intro cs hl hc g hg
    obtain ⟨l, c, rfl⟩ : ∃ l c, cs = l ++ [c] := ⟨cs.dropLast, cs.getLast (by intro e; rw [e] at hl; simp at hl), (List.dropLast_concat_getLast _).symm⟩
    have hll : l.length = m := by simpa using hl
    have hlc : ∀ x ∈ l, x < n := fun x hx => hc x (List.mem_append_left _ hx)
    have O := opL_ok h2 m l hll hlc
    obtain ⟨a, t, ga, gt, ma, _, _, hga, hgt, _, _, e, _⟩ := O.opS h2 (hc c (by simp))
    have B := ih l hll hlc
    have b1 := B ga (List.mem_of_getElem? hga)
    have b2 := B gt (List.mem_of_getElem? hgt)
    rw [opL_snoc, show opL n l = ((opL n l).1, (opL n l).2.1, (opL n l).2.2) from rfl, e] at hg
    rcases List.mem_or_eq_of_mem_set hg with hg | rfl
    · rcases List.mem_or_eq_of_mem_set hg with hg | rfl
      · have := B g hg
        omega
      · omega
    · omega
end DL
namespace DL
open PySem PySem.Spec L2
end DL
namespace DL
open PySem PySem.Spec L2 DL DL.C
theorem Ex.back {n c : Nat} {ss ss' : List Nat} {ps ps' : List Int} (h : Stt n ss ps) (h2 : 2 ≤ n) (x : Ex n ss ps c ss' ps') : Ex n ss' ps' c ss ps := by
  obtain ⟨j, k, p, q, a1, a2, a3, a4, a5, rfl, rfl⟩ := x.ex
  have hc : c < n := List.mem_range.mp (h.perm.mem_iff.mp (List.mem_of_getElem? a1))
  have hne := (next_ne h2 hc).1
  have hjk : j ≠ k := fun e => hne (by rw [e, a2] at a1; exact Option.some.inj a1)
  have lj := lt_of_getL a1
  have lk := lt_of_getL a2
  have pj := lt_of_getL a3
  have pk := lt_of_getL a5
  have hq0 : 0 ≤ q := h.nn q (List.mem_of_getElem? a5)
  refine ⟨k, j, q + 1, p - 1, ?_, ?_, ?_, by omega, ?_, ?_, ?_⟩
  · rw [List.getElem?_set_self (by simpa using lk)]
  · rw [List.getElem?_set_ne (Ne.symm hjk), List.getElem?_set_self lj]
  · rw [List.getElem?_set_self (by simpa using pk)]
  · rw [List.getElem?_set_ne (Ne.symm hjk), List.getElem?_set_self pj]
  · apply List.ext_getElem?
    intro i
    by_cases hi : i = j
    · subst hi
      rw [List.getElem?_set_self (by simpa using lj), a1]
    · rw [List.getElem?_set_ne (Ne.symm hi)]
      by_cases hi2 : i = k
      · subst hi2
        rw [List.getElem?_set_self (by simpa using lk), a2]
      · rw [List.getElem?_set_ne (Ne.symm hi2), List.getElem?_set_ne (Ne.symm hi2), List.getElem?_set_ne (Ne.symm hi)]
  · apply List.ext_getElem?
    intro i
    by_cases hi : i = j
    · subst hi
      rw [List.getElem?_set_self (by simpa using pj), a3]
      congr 1
      omega
    · rw [List.getElem?_set_ne (Ne.symm hi)]
      by_cases hi2 : i = k
      · subst hi2
        rw [List.getElem?_set_self (by simpa using pk), a5]
        congr 1
        omega
      · rw [List.getElem?_set_ne (Ne.symm hi2), List.getElem?_set_ne (Ne.symm hi2), List.getElem?_set_ne (Ne.symm hi)]
theorem Run.cons {n c : Nat} {ss s1 s2 cs : List Nat} {ps p1 p2 : List Int} (x : Ex n ss ps c s1 p1) (R : Run n s1 p1 cs s2 p2) : Run n ss ps (c :: cs) s2 p2 := by
  induction R with
  | nil => exact Run.nil.snoc x
  | snoc r y ih => exact ih.snoc y
end DL
namespace DL
open PySem PySem.Spec L2
theorem room65 {k : Nat} {A : Around} (h : Room k A) (hk : 2 ≤ k := by decide) : A.units + 65 < cLine := by
  have := h.un
  omega
end DL
namespace DL
open PySem PySem.Spec PySem.Calls PyProof.Rows L2
end DL
namespace DL
namespace B
open PySem PySem.Spec L2 DL
def g_one_pass : Sv := (seqS (setS 2 (newE (rgE1 (getV 0)))) (seqS (parS 3 4 (consA (newE (repE (datE (dispE (consA (cst (.d (.int 0))) nilA))) (getV 0))) (consA (newE (repE (datE (dispE (consA (cst (.d (.int 0))) nilA))) (getV 0))) nilA))) (seqS (forS (seqI (getV 1)) (setT 5) (seqS (setS 6 (op2 modV (op2 addV (getV 5) (cst (.d (.int 1)))) (getV 0))) (seqS (parS 7 8 (consA (op2 ixV (getV 2) (getV 5)) (consA (op2 ixV (getV 2) (getV 6)) nilA))) (seqS (asgS (callE maxV (consA (op2 ixV (getV 4) (getV 7)) (consA (op2 subV (cst (.d (.int 1))) (op2 ixV (getV 3) (getV 7))) nilA))) (subT (getV 4) (getV 7))) (seqS (augSubS (fun i j => i - j) (getV 3) (getV 7) (cst (.d (.int 1)))) (seqS (augSubS (fun i j => i + j) (getV 3) (getV 8) (cst (.d (.int 1)))) (asgS (tupE (consA (getV 8) (consA (getV 7) nilA))) (seqT 2 (consT (subT (getV 2) (getV 5)) (consT (subT (getV 2) (getV 6)) nilT)))))))))) (seqS (freeze 2) (seqS (freeze 3) (seqS (freeze 4) (retS (tupE (consA (callF 1 C.m_inverse (consA (getV 2) nilA)) (consA (getV 3) (consA (getV 4) nilA)))))))))))
def m_one_pass : Fn := defM 9 0 g_one_pass
def g_gain_of : Sv := (retS (callE sumTV (consA (datE (lcE [2] (seqI (getV 0)) (setT 2) (fun _ M => .ok true M) (op2 ixV (getV 1) (getV 2)))) nilA)))
def m_gain_of : Fn := defM 3 0 g_gain_of
def g_passes_paid : Sv := (seqS (setS 4 (negE (callF 2 B.m_gain_of (consA (getV 1) (consA (getV 2) nilA))))) (seqS (parS 5 6 (consA (getV 0) (consA (newE (dispE nilA)) nilA))) (seqS (forS (enumI (getV 1)) (tupT 2 (consT (setT 7) (consT (setT 8) nilT))) (seqS (setS 9 (op2 subV (getV 5) (op2 ixV (getV 3) (getV 8)))) (seqS (ifS (opT ltV (getV 9) (cst (.d (.int 0)))) (dropS (methE appM (getV 6) (consA (getV 7) nilA))) (ifS (opT gtV (getV 4) (cst (.d (.int 0)))) (dropS (methE appM (getV 6) (consA (op2 addV (op2 mulV (op2 addV (op2 fdivV (getV 9) (getV 4)) (cst (.d (.int 1)))) (callE lenV (consA (getV 1) nilA))) (getV 7)) nilA))) nopS)) (augS (fun i j => i + j) 5 (op2 ixV (getV 2) (getV 8)))))) (seqS (freeze 6) (retS (minDE (getV 6)))))))
def m_passes_paid : Fn := defM 10 0 g_passes_paid
def g_circuit : Sv := (seqS (setS 2 (newE (dispE (consA (getV 1) nilA)))) (seqS (whileS (opT neV (op2 ixV (getV 0) (op2 ixV (getV 2) (negE (cst (.d (.int 1)))))) (getV 1)) (dropS (methE appM (getV 2) (consA (op2 ixV (getV 0) (op2 ixV (getV 2) (negE (cst (.d (.int 1)))))) nilA))) (fun _ _ => 2000)) (seqS (freeze 2) (retS (getV 2)))))
def m_circuit : Fn := defM 3 0 g_circuit
def g_passes_many : Sv := (seqS (asgS (getV 0) (seqT 2 (consT (setT 2) (consT (setT 3) nilT)))) (seqS (asgS (callF 2 B.m_one_pass (consA (callE lenV (consA (getV 2) nilA)) (consA (getV 1) nilA))) (seqT 3 (consT (setT 4) (consT (setT 5) (consT (setT 6) nilT))))) (seqS (setS 7 (datE (lcE [8, 9] (zipI (getV 2) (getV 3)) (tupT 2 (consT (setT 8) (consT (setT 9) nilT))) (fun _ M => .ok true M) (callF 4 B.m_passes_paid (consA (getV 9) (consA (callF 2 B.m_circuit (consA (getV 4) (consA (getV 8) nilA))) (consA (getV 5) (consA (getV 6) nilA)))))))) (retS (minDE (datE (lcE [10] (seqI (getV 7)) (setT 10) (opT isntV (getV 10) (cst (.d .none))) (getV 10))))))))
def m_passes_many : Fn := defM 11 0 g_passes_many
def g_box : Sv := (seqS (setS 2 (ifE (opT ltV (getV 1) (callE lenV (consA (getV 0) nilA))) (op2 ixV (getV 0) (getV 1)) (cst (.d (.int 0))))) (retS (newE (dispE (consA (op2 mulV (callE DL.absV (consA (getV 2) nilA)) (callE intV (consA (op2 geV (callE DL.absV (consA (getV 2) nilA)) (op2 powV (cst (.d (.int 10))) (cst (.d (.int 18))))) nilA))) (consA (op2 addV (op2 addV (op2 modV (getV 2) (cst (.d (.int 2147483629)))) (op2 mulV (cst (.d (.int 7919))) (getV 1))) (cst (.d (.int 55)))) (consA (cst (.d (.int 0))) nilA)))))))
def m_box : Fn := defM 3 1 g_box
def g_take (self : Fn) : Sv := (seqS (ifS (opT gtV (op2 ixV (getV 0) (cst (.d (.int 0)))) (cst (.d (.int 0)))) (seqS (setS 2 (op2 modV (op2 ixV (getV 0) (cst (.d (.int 0)))) (getV 1))) (seqS (asgS (op2 fdivV (op2 ixV (getV 0) (cst (.d (.int 0)))) (getV 1)) (subT (getV 0) (cst (.d (.int 0))))) (retS (getV 2)))) nopS) (seqS (ifS (opT gtV (getV 1) (op2 powV (cst (.d (.int 10))) (cst (.d (.int 7))))) (retS (op2 modV (op2 addV (callF 2 self (consA (getV 0) (consA (op2 powV (cst (.d (.int 10))) (cst (.d (.int 7)))) nilA))) (op2 mulV (op2 powV (cst (.d (.int 10))) (cst (.d (.int 7)))) (callF 2 self (consA (getV 0) (consA (op2 addV (op2 fdivV (op2 subV (getV 1) (cst (.d (.int 1)))) (op2 powV (cst (.d (.int 10))) (cst (.d (.int 7))))) (cst (.d (.int 1)))) nilA))))) (getV 1))) nopS) (seqS (asgS (op2 addV (op2 ixV (getV 0) (cst (.d (.int 2)))) (cst (.d (.int 1)))) (subT (getV 0) (cst (.d (.int 2))))) (seqS (setS 3 (op2 modV (op2 powV (op2 addV (op2 ixV (getV 0) (cst (.d (.int 1)))) (op2 mulV (cst (.d (.int 48271))) (op2 ixV (getV 0) (cst (.d (.int 2)))))) (cst (.d (.int 5)))) (cst (.d (.int 2147483647))))) (retS (op2 modV (op2 fdivV (op2 modV (op2 addV (op2 mulV (getV 3) (op2 addV (op2 modV (getV 3) (cst (.d (.int 30011)))) (cst (.d (.int 7))))) (op2 mulV (op2 ixV (getV 0) (cst (.d (.int 2)))) (cst (.d (.int 7919))))) (cst (.d (.int 2147483629)))) (cst (.d (.int 64)))) (getV 1)))))))
def m_take : Nat → Fn
  | 0 => fun _ _ => .st
  | n + 1 => defM 4 0 (g_take (m_take n))
def g_strewn : Sv := (seqS (parS 2 3 (consA (newE (listE (getV 1))) (consA (newE (dispE nilA)) nilA))) (seqS (forS (rngI1 (callE lenV (consA (getV 2) nilA))) (setT 4) (dropS (methE appM (getV 3) (consA (methE popM (getV 2) (consA (callF 2 (B.m_take 10) (consA (getV 0) (consA (callE lenV (consA (getV 2) nilA)) nilA))) nilA)) nilA)))) (seqS (freeze 3) (retS (getV 3)))))
def m_strewn : Fn := defM 5 0 g_strewn
end B
end DL
namespace DL
end DL
namespace DL
end DL
namespace NM
/-- ways to share out z among k -/
def mc : Nat → Nat → Nat
  | 0 => fun z => match z with | 0 => 1 | _ + 1 => 0
  | k + 1 => fun z => Nat.rec 1 (fun z p => p + mc k (z + 1)) z
def sp (k : Nat) (z : Int) : Int := if z < 0 then 0 else (mc k z.toNat : Nat)
theorem sp_neg {k : Nat} {z : Int} (h : z < 0) : sp k z = 0 := if_pos h
theorem sp_nat (k z : Nat) : sp k (z : Nat) = (mc k z : Nat) := (if_neg (by omega)).trans (by simp)
theorem sp_nonneg (k : Nat) (z : Int) : 0 ≤ sp k z := by
  unfold sp; split <;> omega
theorem mc_zero (k : Nat) : mc k 0 = 1 := by cases k <;> rfl
theorem sp_zero (k : Nat) : sp k 0 = 1 := (sp_nat k 0).trans (by rw [mc_zero]; rfl)
theorem sp_one {z : Int} (h : 0 ≤ z) : sp 1 z = 1 := by
  obtain ⟨n, rfl⟩ := Int.eq_ofNat_of_zero_le h
  rw [sp_nat]
  induction n with
  | zero => rfl
  | succ n ih =>
    have := ih (by omega)
    show ((mc 1 n + mc 0 (n + 1) : Nat) : Int) = 1
    show ((mc 1 n + 0 : Nat) : Int) = 1
    simpa using this
theorem sp_step (k : Nat) (z : Int) : sp (k + 1) z = sp (k + 1) (z - 1) + sp k z := by
  by_cases h : z < 0
  · rw [sp_neg h, sp_neg (by omega), sp_neg h]; rfl
  · obtain ⟨n, rfl⟩ := Int.eq_ofNat_of_zero_le (Int.not_lt.mp h)
    cases n with
    | zero => rw [sp_neg (z := ((0 : Nat) : Int) - 1) (by omega)]; show sp (k + 1) 0 = 0 + sp k 0; rw [sp_zero, sp_zero]; rfl
    | succ n =>
      have e : ((n + 1 : Nat) : Int) - 1 = (n : Nat) := by omega
      rw [e, sp_nat, sp_nat, sp_nat]
      show ((mc (k + 1) n + mc k (n + 1) : Nat) : Int) = _
      omega
theorem sp0 {z : Int} (h : z ≠ 0) : sp 0 z = 0 := by
  by_cases q : z < 0
  · exact sp_neg q
  · obtain ⟨n, rfl⟩ := Int.eq_ofNat_of_zero_le (Int.not_lt.mp q)
    cases n with
    | zero => exact absurd rfl h
    | succ n => rw [sp_nat]; rfl
/-- k of one kind -/
theorem absorb : ∀ (k : Nat) (y : Int), (k : Int) * sp (k + 1) (y - 1) = y * sp k y
  | 0, y => by
    by_cases h : y = 0
    · subst h; simp
    · rw [sp0 h]; simp
  | k + 1, y => by
    by_cases h : y < 0
    · rw [sp_neg h, sp_neg (by omega)]; simp
    · obtain ⟨n, rfl⟩ := Int.eq_ofNat_of_zero_le (Int.not_lt.mp h)
      clear h
      induction n with
      | zero => rw [sp_neg (z := ((0 : Nat) : Int) - 1) (by omega)]; simp
      | succ n ih =>
        have e : ((n + 1 : Nat) : Int) - 1 = (n : Nat) := by omega
        rw [e, sp_step (k + 1) (n : Nat)]
        have a1 := absorb k ((n + 1 : Nat) : Int)
        rw [e] at a1
        have s1 := sp_step k ((n + 1 : Nat) : Int)
        rw [e] at s1
        rw [s1, Int.mul_add, Int.mul_add, ih, ← a1]
        push_cast
        rw [← Int.add_mul, ← Int.add_mul]
        congr 1
        omega
/-- the counts c, so many sharers -/
def T (k : Nat) : Int → List Int → Int
  | _, [] => 0
  | z, c :: cs => c * sp k z + T k (z - 1) cs
theorem T_neg (k : Nat) : ∀ (cs : List Int) {z : Int}, z < 0 → T k z cs = 0
  | [], _, _ => rfl
  | c :: cs, z, h => by
    show c * sp k z + T k (z - 1) cs = 0
    rw [sp_neg h, T_neg k cs (by omega)]; simp
theorem T_step (k : Nat) : ∀ (cs : List Int) (z : Int), T (k + 1) z cs = T (k + 1) (z - 1) cs + T k z cs
  | [], _ => rfl
  | c :: cs, z => by
    show c * sp (k + 1) z + T (k + 1) (z - 1) cs = c * sp (k + 1) (z - 1) + T (k + 1) (z - 1 - 1) cs + (c * sp k z + T k (z - 1) cs)
    rw [T_step k cs (z - 1), sp_step k z, Int.mul_add]
    omega
/-- one person more, the counts from w on, L of them in all -/
def omG (L room : Int) : Int → Int → List Int → List Int
  | _, carry, [] => [carry]
  | w, carry, c :: cs => (carry + c * (w + room)) :: omG L room (w + 1) (c * (L - w - room)) cs
def om (room : Int) (cs : List Int) : List Int := omG cs.length room 0 0 cs
theorem omG_len (L room : Int) : ∀ (cs : List Int) (w carry : Int), (omG L room w carry cs).length = cs.length + 1
  | [], _, _ => rfl
  | c :: cs, w, carry => by show (omG L room (w + 1) _ cs).length + 1 = _; rw [omG_len L room cs]; rfl
theorem om_len (room : Int) (cs : List Int) : (om room cs).length = cs.length + 1 := omG_len _ _ _ _ _
theorem T_omG (r : Nat) (room : Int) : ∀ (cs : List Int) (w carry z : Int), T (r + 2) z (omG ((r + 1 : Nat) : Int) room w carry cs) = carry * sp (r + 2) z + (z + w + room) * T (r + 1) z cs
  | [], w, carry, z => by show carry * sp (r + 2) z + 0 = _ + _ * 0; simp
  | c :: cs, w, carry, z => by
    show (carry + c * (w + room)) * sp (r + 2) z + T (r + 2) (z - 1) (omG _ room (w + 1) _ cs) = carry * sp (r + 2) z + (z + w + room) * (c * sp (r + 1) z + T (r + 1) (z - 1) cs)
    rw [T_omG r room cs (w + 1) _ (z - 1)]
    have e1 : z - 1 + (w + 1) + room = z + w + room := by omega
    rw [e1]
    have a := absorb (r + 1) z
    have s := sp_step (r + 1) z
    rw [s]
    generalize T (r + 1) (z - 1) cs = t
    generalize hx : sp (r + 1 + 1) (z - 1) = x at a s ⊢
    generalize sp (r + 1) z = y at a s ⊢
    have g1 : (z + w + room) * (c * y + t) = c * (w + room) * y + c * (z * y) + (z + w + room) * t := by
      rw [Int.mul_add, ← Int.mul_assoc c z y, Int.mul_comm c z, Int.mul_assoc z c y, Int.mul_comm c (w + room), Int.mul_assoc (w + room) c y, ← Int.add_mul]
      congr 2
      omega
    rw [g1, ← a, Int.add_mul, Int.mul_add (c * (w + room)), Int.mul_add carry, ← hx]
    have g2 : c * ((r + 1 : Nat) - w - room) * sp (r + 1 + 1) (z - 1) = c * (((r + 1 : Nat) : Int) * sp (r + 1 + 1) (z - 1)) - c * (w + room) * sp (r + 1 + 1) (z - 1) := by
      rw [← Int.mul_assoc, ← Int.sub_mul, ← Int.mul_sub]
      congr 2
      omega
    have g3 : sp (r + 2) (z - 1) = sp (r + 1 + 1) (z - 1) := rfl
    rw [g3, g2]
    omega
theorem T_om {r : Nat} {cs : List Int} (h : cs.length = r + 1) (room z : Int) : T (r + 2) z (om room cs) = (z + room) * T (r + 1) z cs := by
  unfold om
  rw [h, T_omG]
  simp
/-- how many seats are at or below m -/
def bel (A : List Int) (m : Int) : Int := ((A.filter fun a => decide (a ≤ m)).length : Nat)
/-- seatings by wraps; the marks ascend -/
def swG (A : List Int) : Nat → List Int → List Int → List Int
  | _, cs, [] => cs
  | i, cs, m :: M => swG A (i + 1) (om (bel A m - i) cs) M
def sw (M A : List Int) : List Int := swG A 0 [1] M
def Fp (A : List Int) (z : Int) : Nat → List Int → Int
  | _, [] => 1
  | i, m :: M => (z + bel A m - i) * Fp A z (i + 1) M
theorem T_swG (A : List Int) : ∀ (M : List Int) (i : Nat) (cs : List Int) (z : Int), cs.length = i + 1 → T (i + M.length + 1) z (swG A i cs M) = T (i + 1) z cs * Fp A z i M
  | [], i, cs, z, h => by show T (i + 0 + 1) z cs = T (i + 1) z cs * 1; simp
  | m :: M, i, cs, z, h => by
    have e : i + (m :: M).length + 1 = (i + 1) + M.length + 1 := by simp; omega
    rw [e]
    show T ((i + 1) + M.length + 1) z (swG A (i + 1) (om (bel A m - i) cs) M) = T (i + 1) z cs * ((z + bel A m - i) * Fp A z (i + 1) M)
    rw [T_swG A M (i + 1) _ z (by rw [om_len, h]), T_om h, Int.mul_comm (z + _) (T _ _ _), Int.mul_assoc]
    congr 2
    omega
theorem T_sw (M A : List Int) {z : Int} (h : 0 ≤ z) : T (M.length + 1) z (sw M A) = Fp A z 0 M := by
  have := T_swG A M 0 [1] z rfl
  unfold sw
  rw [Nat.zero_add] at this
  rw [this]
  show (1 * sp 1 z + 0) * _ = _
  rw [sp_one h]; simp
theorem Fp_shift (A : List Int) (z : Int) : ∀ (M : List Int) (i : Nat), Fp A z (i + 1) M = Fp A (z - 1) i M
  | [], _ => rfl
  | m :: M, i => by
    show (z + bel A m - ((i + 1 : Nat) : Int)) * Fp A z (i + 1 + 1) M = (z - 1 + bel A m - i) * Fp A (z - 1) (i + 1) M
    rw [Fp_shift A z M (i + 1)]
    congr 1
    omega
/-- put in where it belongs -/
def ins (m : Int) : List Int → List Int
  | [] => [m]
  | x :: M => if m ≤ x then m :: x :: M else x :: ins m M
/-- the seats without s -/
def wo (A : List Int) (s : Int) : List Int := A.filter fun a => a != s
theorem bel_wo_aux (m s : Int) : ∀ (A : List Int), A.Nodup → bel (wo A s) m = bel A m - if s ≤ m ∧ s ∈ A then 1 else 0
  | [], _ => by simp [bel, wo]
  | a :: A, h => by
    have ih := bel_wo_aux m s A (List.nodup_cons.mp h).2
    have hn := (List.nodup_cons.mp h).1
    unfold bel wo at ih ⊢
    by_cases e : a = s
    · subst e
      have q : (List.filter (fun x => x != a) (a :: A)) = List.filter (fun x => x != a) A := by rw [List.filter_cons_of_neg (by simp)]
      rw [q, ih]
      by_cases l : a ≤ m
      · rw [List.filter_cons_of_pos (by simpa using l)]
        simp [hn, l]
      · rw [List.filter_cons_of_neg (by simpa using l)]
        simp [l]
    · rw [List.filter_cons_of_pos (by simpa using e)]
      have em : (s ∈ a :: A) ↔ s ∈ A := by simp [Ne.symm e]
      by_cases l : a ≤ m
      · rw [List.filter_cons_of_pos (by simpa using l), List.filter_cons_of_pos (by simpa using l)]
        simp only [em, List.length_cons]
        push_cast
        omega
      · rw [List.filter_cons_of_neg (by simpa using l), List.filter_cons_of_neg (by simpa using l)]
        simp only [em]
        exact ih
theorem bel_wo {A : List Int} {m s : Int} (h : A.Nodup) (hs : s ∈ A) : bel (wo A s) m = bel A m - if s ≤ m then 1 else 0 := by
  rw [bel_wo_aux m s A h]; simp [hs]
def sumOver (A : List Int) (f : Int → Int) : Int := (A.map f).sum
theorem sumOver_congr {A : List Int} {f g : Int → Int} (h : ∀ a ∈ A, f a = g a) : sumOver A f = sumOver A g := by
  unfold sumOver; rw [List.map_congr_left h]
theorem sumOver_mul (c : Int) (f : Int → Int) : ∀ A : List Int, sumOver A (fun a => c * f a) = c * sumOver A f
  | [] => by simp [sumOver]
  | a :: A => by
    have := sumOver_mul c f A
    simp only [sumOver, List.map_cons, List.sum_cons] at this ⊢
    rw [this, Int.mul_add]
theorem sumOver_add (f g : Int → Int) : ∀ A : List Int, sumOver A (fun a => f a + g a) = sumOver A f + sumOver A g
  | [] => by simp [sumOver]
  | a :: A => by
    have := sumOver_add f g A
    simp only [sumOver, List.map_cons, List.sum_cons] at this ⊢
    rw [this]; omega
theorem sumOver_split (f : Int → Int) (p : Int → Bool) : ∀ A : List Int, sumOver A f = sumOver (A.filter p) f + sumOver (A.filter fun a => !p a) f
  | [] => by simp [sumOver]
  | a :: A => by
    have := sumOver_split f p A
    simp only [sumOver, List.map_cons, List.sum_cons] at this ⊢
    cases h : p a with
    | true => rw [List.filter_cons_of_pos h, List.filter_cons_of_neg (by simp [h])]; simp; omega
    | false => rw [List.filter_cons_of_neg (by simp [h]), List.filter_cons_of_pos (by simp [h])]; simp; omega
theorem sumOver_const (c : Int) (f : Int → Int) : ∀ A : List Int, (∀ a ∈ A, f a = c) → sumOver A f = A.length * c
  | [], _ => by simp [sumOver]
  | a :: A, h => by
    have := sumOver_const c f A fun b hb => h b (List.mem_cons_of_mem _ hb)
    simp only [sumOver, List.map_cons, List.sum_cons, List.length_cons] at this ⊢
    rw [this, h a List.mem_cons_self]; push_cast; rw [Int.add_mul]; omega
def abv (A : List Int) (m : Int) : List Int := A.filter fun a => decide (m < a)
def blw (A : List Int) (m : Int) : List Int := A.filter fun a => decide (a ≤ m)
theorem sumOver_lr (A : List Int) (m : Int) (f : Int → Int) : sumOver A f = sumOver (blw A m) f + sumOver (abv A m) f := by
  rw [sumOver_split f (fun a => decide (a ≤ m))]
  congr 2
  unfold abv
  congr 1
  funext a
  by_cases h : a ≤ m
  · have : ¬ m < a := by omega
    simp [h, this]
  · have : m < a := by omega
    simp [h, this]
theorem abv_len (A : List Int) (m : Int) : ((abv A m).length : Int) = A.length - bel A m := by
  have h := sumOver_lr A m (fun _ => 1)
  have h1 := sumOver_const 1 (fun _ => (1 : Int)) A (fun _ _ => rfl)
  have h2 := sumOver_const 1 (fun _ => (1 : Int)) (blw A m) (fun _ _ => rfl)
  have h3 := sumOver_const 1 (fun _ => (1 : Int)) (abv A m) (fun _ _ => rfl)
  have h4 : bel A m = ((blw A m).length : Nat) := rfl
  omega
/-- the factor of s is one less where s is at or below the mark -/
def Fs (A : List Int) (z s : Int) (i : Nat) (M : List Int) : Int := Fp (wo A s) z i M
theorem Fs_cons_hi {A : List Int} (h : A.Nodup) {s m : Int} (hs : s ∈ A) (l : m < s) (z : Int) (i : Nat) (M : List Int) : Fs A z s i (m :: M) = (z + bel A m - i) * Fs A z s (i + 1) M := by
  show (z + bel (wo A s) m - i) * _ = _
  rw [bel_wo h hs, if_neg (by omega), Int.sub_zero]
  rfl
theorem Fs_lo {A : List Int} (h : A.Nodup) {s : Int} (hs : s ∈ A) (z : Int) : ∀ (M : List Int) (i : Nat), (∀ m ∈ M, s ≤ m) → Fs A z s i M = Fp A (z - 1) i M
  | [], _, _ => rfl
  | m :: M, i, l => by
    have ih := Fs_lo h hs z M (i + 1) fun x hx => l x (List.mem_cons_of_mem _ hx)
    show (z + bel (wo A s) m - i) * Fs A z s (i + 1) M = (z - 1 + bel A m - i) * Fp A (z - 1) (i + 1) M
    rw [bel_wo h hs, if_pos (l m List.mem_cons_self), ih]
    congr 1
    omega
theorem mem_abv {A : List Int} {m s : Int} : s ∈ abv A m ↔ s ∈ A ∧ m < s := by simp [abv]
theorem sum_abv {A : List Int} (h : A.Nodup) (z : Int) : ∀ (M : List Int) (i : Nat) (c : Int), M.Pairwise (· ≤ ·) → (∀ m ∈ M, c ≤ m) →
    sumOver (abv A c) (fun s => Fs A z s i M) = (z + A.length - i - M.length) * Fp A z i M - (z + bel A c - i) * Fp A (z - 1) i M
  | [], i, c, _, _ => by
    have e : sumOver (abv A c) (fun s => Fs A z s i []) = (abv A c).length * 1 := sumOver_const 1 _ _ (fun _ _ => rfl)
    rw [e, abv_len]
    show _ = (z + (A.length : Int) - i - ((0 : Nat) : Int)) * 1 - (z + bel A c - i) * 1
    omega
  | m :: M, i, c, hp, hc => by
    have hcm := hc m List.mem_cons_self
    obtain ⟨hm, hp'⟩ := List.pairwise_cons.mp hp
    rw [sumOver_lr (abv A c) m]
    have e1 : abv (abv A c) m = abv A m := by
      unfold abv
      rw [List.filter_filter]
      congr 1
      funext a
      by_cases q : m < a
      · have : c < a := by omega
        simp [q, this]
      · simp [q]
    have e2 : sumOver (blw (abv A c) m) (fun s => Fs A z s i (m :: M)) = (blw (abv A c) m).length * Fp A (z - 1) i (m :: M) := by
      refine sumOver_const _ _ _ fun s hs => ?_
      have hs' : (s ∈ A ∧ c < s) ∧ s ≤ m := by
        unfold blw at hs
        obtain ⟨q1, q2⟩ := List.mem_filter.mp hs
        exact ⟨by simpa [abv] using q1, by simpa using q2⟩
      exact Fs_lo h hs'.1.1 z _ i fun x hx => by
        rcases List.mem_cons.mp hx with rfl | hx
        · exact hs'.2
        · exact Int.le_trans hs'.2 (hm x hx)
    have e3 : sumOver (abv A m) (fun s => Fs A z s i (m :: M)) = (z + bel A m - i) * sumOver (abv A m) (fun s => Fs A z s (i + 1) M) := by
      rw [← sumOver_mul]
      exact sumOver_congr fun s hs => Fs_cons_hi h (mem_abv.mp hs).1 (mem_abv.mp hs).2 z i M
    have e4 : ((blw (abv A c) m).length : Int) = bel A m - bel A c := by
      have q1 := abv_len A c
      have q2 := abv_len A m
      have q3 := sumOver_lr (abv A c) m (fun _ => 1)
      have q4 := sumOver_const 1 (fun _ => (1 : Int)) (abv A c) (fun _ _ => rfl)
      have q5 := sumOver_const 1 (fun _ => (1 : Int)) (blw (abv A c) m) (fun _ _ => rfl)
      rw [e1] at q3
      have q6 := sumOver_const 1 (fun _ => (1 : Int)) (abv A m) (fun _ _ => rfl)
      omega
    rw [e1, e2, e3, e4, sum_abv h z M (i + 1) m hp' hm]
    show (bel A m - bel A c) * ((z - 1 + bel A m - i) * Fp A (z - 1) (i + 1) M) + (z + bel A m - i) * ((z + A.length - ((i + 1 : Nat) : Int) - M.length) * Fp A z (i + 1) M - (z + bel A m - ((i + 1 : Nat) : Int)) * Fp A (z - 1) (i + 1) M)
      = (z + A.length - i - ((M.length + 1 : Nat) : Int)) * ((z + bel A m - i) * Fp A z (i + 1) M) - (z + bel A c - i) * ((z - 1 + bel A m - i) * Fp A (z - 1) (i + 1) M)
    generalize Fp A z (i + 1) M = X
    generalize Fp A (z - 1) (i + 1) M = Y
    have n1 : z + A.length - ((i + 1 : Nat) : Int) - M.length = z + A.length - i - ((M.length + 1 : Nat) : Int) := by push_cast; omega
    have n2 : z + bel A m - ((i + 1 : Nat) : Int) = z - 1 + bel A m - i := by push_cast; omega
    rw [n1, n2]
    generalize z + A.length - i - ((M.length + 1 : Nat) : Int) = N
    generalize hx : z + bel A m - (i : Int) = x
    have hx' : z - 1 + bel A m - i = x - 1 := by omega
    rw [hx']
    have hd : bel A m - bel A c = x - (z + bel A c - i) := by omega
    rw [hd]
    generalize z + bel A c - (i : Int) = u
    rw [Int.sub_mul, Int.mul_sub x, ← Int.mul_assoc x N X, Int.mul_comm x N, Int.mul_assoc N x X]
    omega
theorem mem_ins {m x : Int} : ∀ {M : List Int}, x ∈ ins m M ↔ x = m ∨ x ∈ M
  | [] => by simp [ins]
  | y :: M => by
    unfold ins
    split
    · simp
    · simp only [List.mem_cons, mem_ins (M := M)]
      constructor
      · rintro (h | h | h) <;> simp [h]
      · rintro (h | h | h) <;> simp [h]
theorem ins_len (m : Int) : ∀ M : List Int, (ins m M).length = M.length + 1
  | [] => rfl
  | y :: M => by
    unfold ins
    split
    · rfl
    · show (ins m M).length + 1 = _; rw [ins_len m M]; rfl
theorem ins_asc (m : Int) : ∀ {M : List Int}, M.Pairwise (· ≤ ·) → (ins m M).Pairwise (· ≤ ·)
  | [], _ => by simp [ins]
  | y :: M, h => by
    obtain ⟨h1, h2⟩ := List.pairwise_cons.mp h
    unfold ins
    split
    · rename_i l
      refine List.pairwise_cons.mpr ⟨fun x hx => ?_, h⟩
      rcases List.mem_cons.mp hx with rfl | hx
      · exact l
      · exact Int.le_trans l (h1 x hx)
    · rename_i l
      refine List.pairwise_cons.mpr ⟨fun x hx => ?_, ins_asc m h2⟩
      rcases mem_ins.mp hx with rfl | hx
      · omega
      · exact h1 x hx
theorem ins_perm (m : Int) : ∀ M : List Int, (ins m M).Perm (m :: M)
  | [] => .refl _
  | y :: M => by
    unfold ins
    split
    · exact .refl _
    · exact ((ins_perm m M).cons y).trans (.swap m y M)
theorem sum_abv_ins {A : List Int} (h : A.Nodup) (z m : Int) : ∀ (M : List Int) (i : Nat), M.Pairwise (· ≤ ·) →
    sumOver (abv A m) (fun s => Fs A z s i M) = (z + A.length - i - M.length) * Fp A z i M - Fp A z i (ins m M)
  | [], i, hp => by
    rw [sum_abv h z [] i m hp (by simp)]
    show _ - (z + bel A m - i) * 1 = _ - (z + bel A m - i) * 1
    rfl
  | x :: M, i, hp => by
    obtain ⟨hm, hp'⟩ := List.pairwise_cons.mp hp
    by_cases l : m ≤ x
    · rw [sum_abv h z (x :: M) i m hp (fun y hy => by
        rcases List.mem_cons.mp hy with rfl | hy
        · exact l
        · exact Int.le_trans l (hm y hy))]
      unfold ins
      rw [if_pos l, ← Fp_shift]
      rfl
    · have e3 : sumOver (abv A m) (fun s => Fs A z s i (x :: M)) = (z + bel A x - i) * sumOver (abv A m) (fun s => Fs A z s (i + 1) M) := by
        rw [← sumOver_mul]
        exact sumOver_congr fun s hs => Fs_cons_hi h (mem_abv.mp hs).1 (by have := (mem_abv.mp hs).2; omega) z i M
      rw [e3, sum_abv_ins h z m M (i + 1) hp']
      have ei : ins m (x :: M) = x :: ins m M := if_neg l
      rw [ei]
      show _ = _ * ((z + bel A x - i) * Fp A z (i + 1) M) - (z + bel A x - i) * Fp A z (i + 1) (ins m M)
      rw [Int.mul_sub, ← Int.mul_assoc, ← Int.mul_assoc, Int.mul_comm (z + bel A x - i)]
      congr 3
      simp
      omega
/-- all seats -/
theorem sum_all {A : List Int} (h : A.Nodup) {lo : Int} (hlo : ∀ a ∈ A, lo < a) (z : Int) {M : List Int} (hp : M.Pairwise (· ≤ ·)) (hM : ∀ m ∈ M, lo ≤ m) (hl : A.length = M.length + 1) :
    sumOver A (fun s => Fs A z s 0 M) = (z + 1) * Fp A z 0 M - z * Fp A (z - 1) 0 M := by
  have e : abv A lo = A := by
    unfold abv
    rw [List.filter_eq_self]
    intro a ha
    simpa using hlo a ha
  have := sum_abv h z M 0 lo hp hM
  rw [e] at this
  rw [this]
  have hb : bel A lo = 0 := by
    unfold bel
    rw [List.filter_eq_nil_iff.mpr]
    · rfl
    · intro a ha
      have := hlo a ha
      simp; omega
  rw [hb, hl]
  push_cast
  congr 2 <;> omega
/-- one person's seats, k as many as there are people -/
theorem one_more_base {A : List Int} (h : A.Nodup) {lo : Int} (hlo : ∀ a ∈ A, lo < a) {m : Int} {M : List Int} (hp : M.Pairwise (· ≤ ·)) (hM : ∀ x ∈ M, lo ≤ x) (hl : A.length = M.length + 1) (z : Int) :
    sumOver A (fun s => T A.length (z - if m < s then 1 else 0) (sw M (wo A s))) = T A.length z (sw (ins m M) A) := by
  by_cases hz : z < 0
  · rw [T_neg _ _ hz, sumOver_const 0 _ _ (fun s _ => T_neg _ _ (by split <;> omega))]
    simp
  · have hz0 : 0 ≤ z := by omega
    have hi : (ins m M).length = A.length := by rw [ins_len, hl]
    have hr : T A.length z (sw (ins m M) A) = Fp A z 0 (ins m M) - T (A.length + 1) (z - 1) (sw (ins m M) A) := by
      have e := T_step A.length (sw (ins m M) A) z
      have e2 := T_sw (ins m M) A hz0
      rw [hi] at e2
      omega
    rw [sumOver_lr A m]
    have g1 : sumOver (blw A m) (fun s => T A.length (z - if m < s then 1 else 0) (sw M (wo A s))) = sumOver (blw A m) (fun s => Fs A z s 0 M) := by
      refine sumOver_congr fun s hs => ?_
      have hs' : s ∈ A ∧ s ≤ m := by simpa [blw] using hs
      rw [if_neg (by omega), Int.sub_zero, hl, T_sw M _ hz0]
      rfl
    have g2 : sumOver (blw A m) (fun s => Fs A z s 0 M) = Fp A z 0 (ins m M) - z * Fp A (z - 1) 0 M := by
      have a1 := sum_all h hlo z hp hM hl
      have a2 := sum_abv_ins h z m M 0 hp
      have a3 := sumOver_lr A m (fun s => Fs A z s 0 M)
      have n : z + (A.length : Int) - ((0 : Nat) : Int) - M.length = z + 1 := by rw [hl]; push_cast; omega
      rw [n] at a2
      omega
    rw [g1, g2, hr]
    by_cases h1 : z = 0
    · subst h1
      rw [sumOver_const 0 _ (abv A m) (fun s hs => T_neg _ _ (by rw [if_pos (mem_abv.mp hs).2]; omega)), T_neg _ _ (by omega)]
      simp
    · have hz1 : 0 ≤ z - 1 := by omega
      have g3 : sumOver (abv A m) (fun s => T A.length (z - if m < s then 1 else 0) (sw M (wo A s))) = sumOver (abv A m) (fun s => Fs A (z - 1) s 0 M) := by
        refine sumOver_congr fun s hs => ?_
        rw [if_pos (mem_abv.mp hs).2, hl, T_sw M _ hz1]
        rfl
      have g4 := sum_abv_ins h (z - 1) m M 0 hp
      have n : z - 1 + (A.length : Int) - ((0 : Nat) : Int) - M.length = z := by rw [hl]; push_cast; omega
      rw [n] at g4
      have g5 := T_sw (ins m M) A hz1
      rw [hi] at g5
      rw [g3, g4, g5]
      omega
theorem sumOver_T_step (k : Nat) (A : List Int) (f : Int → Int) (g : Int → List Int) (z : Int) : sumOver A (fun s => T (k + 1) (z - f s) (g s)) = sumOver A (fun s => T (k + 1) (z - 1 - f s) (g s)) + sumOver A (fun s => T k (z - f s) (g s)) := by
  rw [← sumOver_add]
  refine sumOver_congr fun s _ => ?_
  rw [T_step k (g s) (z - f s)]
  congr 2
  omega
/-- one person's seats, any number of sharers -/
theorem one_more {A : List Int} (h : A.Nodup) {lo : Int} (hlo : ∀ a ∈ A, lo < a) {m : Int} {M : List Int} (hp : M.Pairwise (· ≤ ·)) (hM : ∀ x ∈ M, lo ≤ x) (hl : A.length = M.length + 1) (k : Nat) (z : Int) :
    sumOver A (fun s => T k (z - if m < s then 1 else 0) (sw M (wo A s))) = T k z (sw (ins m M) A) := by
  have up : ∀ k, (∀ z, sumOver A (fun s => T k (z - if m < s then 1 else 0) (sw M (wo A s))) = T k z (sw (ins m M) A)) → ∀ z, sumOver A (fun s => T (k + 1) (z - if m < s then 1 else 0) (sw M (wo A s))) = T (k + 1) z (sw (ins m M) A) := by
    intro k ih z
    by_cases hz : z < 0
    · rw [T_neg _ _ hz, sumOver_const 0 _ _ (fun s _ => T_neg _ _ (by split <;> omega))]
      simp
    · obtain ⟨n, rfl⟩ := Int.eq_ofNat_of_zero_le (Int.not_lt.mp hz)
      clear hz
      induction n with
      | zero =>
        rw [sumOver_T_step k A (fun s => if m < s then 1 else 0) (fun s => sw M (wo A s)), ih, T_step k _ ((0 : Nat) : Int), T_neg (k + 1) _ (z := ((0 : Nat) : Int) - 1) (by omega), sumOver_const 0 _ _ (fun s _ => T_neg _ _ (by split <;> omega))]
        simp
      | succ n ihn =>
        have e : ((n + 1 : Nat) : Int) - 1 = (n : Nat) := by omega
        rw [sumOver_T_step k A (fun s => if m < s then 1 else 0) (fun s => sw M (wo A s)), ih, T_step k _ ((n + 1 : Nat) : Int), e, ihn]
  have dn : ∀ k, (∀ z, sumOver A (fun s => T (k + 1) (z - if m < s then 1 else 0) (sw M (wo A s))) = T (k + 1) z (sw (ins m M) A)) → ∀ z, sumOver A (fun s => T k (z - if m < s then 1 else 0) (sw M (wo A s))) = T k z (sw (ins m M) A) := by
    intro k ih z
    have e := sumOver_T_step k A (fun s => if m < s then 1 else 0) (fun s => sw M (wo A s)) z
    have e2 := T_step k (sw (ins m M) A) z
    rw [ih, ih] at e
    omega
  have base := fun z => one_more_base h hlo (m := m) hp hM hl z
  by_cases hk : k ≤ A.length
  · obtain ⟨d, hd⟩ := Nat.le.dest hk
    revert base
    rw [← hd]
    clear hd hk
    induction d with
    | zero => exact fun b => b z
    | succ d ih => exact fun b => ih (dn _ b)
  · obtain ⟨d, hd⟩ := Nat.le.dest (Nat.le_of_lt (Nat.not_le.mp hk))
    subst hd
    clear hk
    revert z
    induction d with
    | zero => exact base
    | succ d ih => exact up _ ih
end NM
namespace NM
theorem sp_mono1 (k : Nat) (z : Int) : sp (k + 1) (z - 1) ≤ sp (k + 1) z := by
  have := sp_step k z
  have := sp_nonneg k z
  omega
theorem sp_mono (k : Nat) {a b : Int} (h : a ≤ b) : sp (k + 1) a ≤ sp (k + 1) b := by
  obtain ⟨n, hn⟩ := Int.le.dest h
  subst hn
  clear h
  induction n with
  | zero => simp
  | succ n ih =>
    have := sp_mono1 k (a + ((n + 1 : Nat) : Int))
    have e : a + ((n + 1 : Nat) : Int) - 1 = a + (n : Nat) := by push_cast; omega
    rw [e] at this
    omega
/-- in how many the first has less than f -/
def sm (z : Int) (k : Nat) (f : Int) : Int := sp k z - sp k (z - f)
theorem sm_mono (z : Int) (k : Nat) {f g : Int} (h : f ≤ g) : sm z (k + 1) f ≤ sm z (k + 1) g := by
  have := sp_mono k (a := z - g) (b := z - f) (by omega)
  unfold sm; omega
theorem sm_zero (z : Int) (k : Nat) : sm z k 0 = 0 := by unfold sm; rw [Int.sub_zero]; omega
theorem sm_succ (z : Int) (k : Nat) (f : Int) : sm z (k + 1) (f + 1) = sm z (k + 1) f + sp k (z - f) := by
  have := sp_step k (z - f)
  have e : z - (f + 1) = z - f - 1 := by omega
  unfold sm; rw [e]; omega
theorem sm_top (z : Int) (k : Nat) (h : z < 0 ∨ 0 ≤ z) : sm z k (z + 1) = sp k z := by
  unfold sm
  rw [sp_neg (z := z - (z + 1)) (by omega)]; omega
/-- the number of a spread of z -/
def spNum : Int → List Int → Int
  | _, [] => 0
  | z, y :: ys => sm z (ys.length + 1) y + spNum (z - y) ys
theorem sum_nonneg : ∀ {ys : List Int}, (∀ y ∈ ys, 0 ≤ y) → 0 ≤ ys.sum
  | [], _ => by simp
  | y :: ys, h => by
    have := sum_nonneg fun x hx => h x (List.mem_cons_of_mem _ hx)
    have := h y List.mem_cons_self
    simp only [List.sum_cons]; omega
theorem spNum_lt : ∀ (ys : List Int), (∀ y ∈ ys, 0 ≤ y) → 0 ≤ spNum ys.sum ys ∧ spNum ys.sum ys < sp ys.length ys.sum
  | [], _ => by
    show 0 ≤ (0 : Int) ∧ 0 < sp 0 0
    rw [sp_zero]; omega
  | y :: ys, h => by
    have h' : ∀ x ∈ ys, 0 ≤ x := fun x hx => h x (List.mem_cons_of_mem _ hx)
    obtain ⟨a, b⟩ := spNum_lt ys h'
    have hy := h y List.mem_cons_self
    have hs := sum_nonneg h'
    have e : (y :: ys).sum - y = ys.sum := by simp only [List.sum_cons]; omega
    show 0 ≤ sm (y :: ys).sum (ys.length + 1) y + spNum ((y :: ys).sum - y) ys ∧ sm (y :: ys).sum (ys.length + 1) y + spNum ((y :: ys).sum - y) ys < sp (ys.length + 1) (y :: ys).sum
    rw [e]
    have h0 := sm_mono (y :: ys).sum ys.length hy
    rw [sm_zero] at h0
    have h1 := sm_succ (y :: ys).sum ys.length y
    rw [e] at h1
    have h2 := sm_mono (y :: ys).sum ys.length (f := y + 1) (g := (y :: ys).sum + 1) (by simp only [List.sum_cons]; omega)
    rw [sm_top _ _ (by omega)] at h2
    omega
/-- f is the first one's part in the spread with the number b -/
structure First (z : Int) (k : Nat) (b f : Int) : Prop where
  lo : 0 ≤ f
  hi : f ≤ z
  le : sm z k f ≤ b
  lt : b < sm z k (f + 1)
theorem First.uniq {z : Int} {k : Nat} {b f g : Int} (x : First z (k + 1) b f) (y : First z (k + 1) b g) : f = g := by
  by_cases h : f < g
  · have := sm_mono z k (f := f + 1) (g := g) (by omega)
    have := x.lt
    have := y.le
    omega
  · by_cases h2 : g < f
    · have := sm_mono z k (f := g + 1) (g := f) (by omega)
      have := y.lt
      have := x.le
      omega
    · omega
theorem First.of {y : Int} {ys : List Int} (h : ∀ x ∈ y :: ys, 0 ≤ x) : First (y :: ys).sum (ys.length + 1) (spNum (y :: ys).sum (y :: ys)) y := by
  have h' : ∀ x ∈ ys, 0 ≤ x := fun x hx => h x (List.mem_cons_of_mem _ hx)
  obtain ⟨a, b⟩ := spNum_lt ys h'
  have hs := sum_nonneg h'
  have e : (y :: ys).sum - y = ys.sum := by simp only [List.sum_cons]; omega
  have en : spNum (y :: ys).sum (y :: ys) = sm (y :: ys).sum (ys.length + 1) y + spNum ys.sum ys := by
    show _ + spNum ((y :: ys).sum - y) ys = _
    rw [e]
  have h1 := sm_succ (y :: ys).sum ys.length y
  rw [e] at h1
  exact ⟨h y List.mem_cons_self, by simp only [List.sum_cons]; omega, by omega, by omega⟩
theorem First.ex (k : Nat) {z b : Int} (h0 : 0 ≤ b) (h1 : b < sp (k + 1) z) : ∃ f, First z (k + 1) b f := by
  have hz : 0 ≤ z := by
    by_cases h : z < 0
    · rw [sp_neg h] at h1; omega
    · omega
  have st : ∀ n : Nat, (n : Int) ≤ z + 1 → b < sm z (k + 1) n → ∃ f, First z (k + 1) b f := by
    intro n
    induction n with
    | zero => intro _ q; rw [show ((0 : Nat) : Int) = 0 from rfl, sm_zero] at q; omega
    | succ n ih =>
      intro hn q
      by_cases c : b < sm z (k + 1) n
      · exact ih (by omega) c
      · exact ⟨n, by omega, by omega, by omega, by rw [show (n : Int) + 1 = ((n + 1 : Nat) : Int) from by omega]; exact q⟩
  obtain ⟨n, rfl⟩ := Int.eq_ofNat_of_zero_le hz
  refine st (n + 1) (by omega) ?_
  have := sm_top (n : Int) (k + 1) (by omega)
  rw [show ((n + 1 : Nat) : Int) = (n : Int) + 1 from by omega, this]
  exact h1
/-- the spread with the number b -/
inductive SpAt : Nat → Int → Int → List Int → Prop
  | nil {z b : Int} : SpAt 0 z b []
  | cons {k : Nat} {z b f : Int} {ys : List Int} : First z (k + 1) b f → SpAt k (z - f) (b - sm z (k + 1) f) ys → SpAt (k + 1) z b (f :: ys)
theorem SpAt.spec : ∀ {k : Nat} {z b : Int} {ys : List Int}, SpAt k z b ys → 0 ≤ b → b < sp k z → ys.length = k ∧ (∀ y ∈ ys, 0 ≤ y) ∧ ys.sum = z ∧ spNum z ys = b
  | _, z, b, _, .nil, h0, h1 => by
    have hz : z = 0 := by
      by_cases h : z = 0
      · exact h
      · rw [sp0 h] at h1; omega
    subst hz
    rw [sp_zero] at h1
    exact ⟨rfl, by simp, rfl, by show (0 : Int) = b; omega⟩
  | _, z, b, _, .cons (k := k) (f := f) (ys := ys) F t, h0, h1 => by
    have q := sm_succ z k f
    have hl := F.lt
    have hle := F.le
    obtain ⟨a1, a2, a3, a4⟩ := SpAt.spec t (by omega) (by omega)
    refine ⟨by simp [a1], fun y hy => ?_, by simp only [List.sum_cons, a3]; omega, ?_⟩
    · rcases List.mem_cons.mp hy with rfl | hy
      · exact F.lo
      · exact a2 y hy
    · show sm z (ys.length + 1) f + spNum (z - f) ys = b
      rw [a1, a4]; omega
theorem SpAt.ex : ∀ (k : Nat) {z b : Int}, 0 ≤ b → b < sp k z → ∃ ys, SpAt k z b ys
  | 0, _, _, _, _ => ⟨[], .nil⟩
  | k + 1, z, b, h0, h1 => by
    obtain ⟨f, F⟩ := First.ex k h0 h1
    have q := sm_succ z k f
    have hl := F.lt
    have hle := F.le
    obtain ⟨ys, h⟩ := SpAt.ex k (z := z - f) (b := b - sm z (k + 1) f) (by omega) (by omega)
    exact ⟨f :: ys, .cons F h⟩
theorem SpAt.uniq : ∀ {k : Nat} {z b : Int} {ys xs : List Int}, SpAt k z b ys → SpAt k z b xs → ys = xs
  | _, _, _, _, _, .nil, .nil => rfl
  | _, _, _, _, _, .cons F t, .cons G u => by
    have := F.uniq G
    subst this
    rw [SpAt.uniq t u]
theorem SpAt.of : ∀ (ys : List Int), (∀ y ∈ ys, 0 ≤ y) → SpAt ys.length ys.sum (spNum ys.sum ys) ys
  | [], _ => .nil
  | y :: ys, h => by
    have h' : ∀ x ∈ ys, 0 ≤ x := fun x hx => h x (List.mem_cons_of_mem _ hx)
    have e : (y :: ys).sum - y = ys.sum := by simp only [List.sum_cons]; omega
    refine .cons (First.of h) ?_
    have en : spNum (y :: ys).sum (y :: ys) - sm (y :: ys).sum (ys.length + 1) y = spNum ys.sum ys := by
      show sm _ _ _ + spNum ((y :: ys).sum - y) ys - _ = _
      rw [e]; omega
    rw [e, en]
    exact SpAt.of ys h'
/-- lexicographic -/
inductive Lex : List Int → List Int → Prop
  | here {a b : Int} {xs ys : List Int} : a < b → Lex (a :: xs) (b :: ys)
  | there {a : Int} {xs ys : List Int} : Lex xs ys → Lex (a :: xs) (a :: ys)
end NM
namespace NM
def isort : List Int → List Int
  | [] => []
  | x :: xs => ins x (isort xs)
theorem isort_asc : ∀ (xs : List Int), (isort xs).Pairwise (· ≤ ·)
  | [] => .nil
  | x :: xs => ins_asc x (isort_asc xs)
theorem isort_perm : ∀ (xs : List Int), (isort xs).Perm xs
  | [] => .refl _
  | x :: xs => (ins_perm x (isort xs)).trans ((isort_perm xs).cons x)
theorem isort_len (xs : List Int) : (isort xs).length = xs.length := (isort_perm xs).length_eq
theorem asc_uniq : ∀ {xs ys : List Int}, xs.Pairwise (· ≤ ·) → ys.Pairwise (· ≤ ·) → xs.Perm ys → xs = ys
  | [], ys, _, _, h => h.nil_eq
  | x :: xs, [], _, _, h => by have := h.length_eq; simp at this
  | x :: xs, y :: ys, h1, h2, h => by
    obtain ⟨a1, a2⟩ := List.pairwise_cons.mp h1
    obtain ⟨b1, b2⟩ := List.pairwise_cons.mp h2
    have e : x = y := by
      have q1 : y ∈ x :: xs := h.symm.subset List.mem_cons_self
      have q2 : x ∈ y :: ys := h.subset List.mem_cons_self
      rcases List.mem_cons.mp q1 with q1 | q1
      · exact q1.symm
      · rcases List.mem_cons.mp q2 with q2 | q2
        · exact q2
        · have := a1 y q1
          have := b1 x q2
          omega
    subst e
    rw [asc_uniq a2 b2 h.cons_inv]
def rangeI (n : Nat) : List Int := (List.range n).map fun (i : Nat) => (i : Int)
def freeI (n : Nat) (p : List Int) : List Int := (rangeI n).filter fun s => !p.contains s
/-- how many of them wrap -/
def wr : List Int → List Int → Int
  | m :: ms, s :: ss => (if m < s then 1 else 0) + wr ms ss
  | _, _ => 0
theorem rangeI_nodup (n : Nat) : (rangeI n).Nodup := by
  unfold rangeI
  refine List.Pairwise.map _ ?_ List.nodup_range
  intro a b h e
  exact h (by omega)
theorem mem_rangeI {n : Nat} {s : Int} : s ∈ rangeI n ↔ 0 ≤ s ∧ s < n := by
  unfold rangeI
  simp only [List.mem_map, List.mem_range]
  constructor
  · rintro ⟨i, h, rfl⟩; omega
  · rintro ⟨h1, h2⟩; exact ⟨s.toNat, by omega, by omega⟩
theorem rangeI_len (n : Nat) : (rangeI n).length = n := by simp [rangeI]
theorem mem_freeI {n : Nat} {p : List Int} {s : Int} : s ∈ freeI n p ↔ (0 ≤ s ∧ s < n) ∧ s ∉ p := by
  unfold freeI
  simp [mem_rangeI]
theorem freeI_nodup (n : Nat) (p : List Int) : (freeI n p).Nodup := (rangeI_nodup n).sublist List.filter_sublist
theorem freeI_snoc (n : Nat) (p : List Int) (s : Int) : freeI n (p ++ [s]) = wo (freeI n p) s := by
  unfold freeI wo
  rw [List.filter_filter]
  congr 1
  funext a
  by_cases h : a = s
  · subst h; simp
  · simp [h]
theorem wo_len : ∀ {A : List Int} {s : Int}, A.Nodup → s ∈ A → (wo A s).length + 1 = A.length
  | [], _, _, h => by simp at h
  | a :: A, s, hn, h => by
    obtain ⟨h1, h2⟩ := List.nodup_cons.mp hn
    unfold wo
    by_cases e : a = s
    · subst e
      rw [List.filter_cons_of_neg (by simp), List.filter_eq_self.mpr]
      · rfl
      · intro b hb
        have : b ≠ a := fun z => h1 (z ▸ hb)
        simpa using this
    · rw [List.filter_cons_of_pos (by simpa using e)]
      have hs : s ∈ A := by
        rcases List.mem_cons.mp h with h | h
        · exact absurd h.symm e
        · exact h
      have := wo_len h2 hs
      unfold wo at this
      simp only [List.length_cons]
      omega
/-- the first people sit on p -/
structure Pre (n : Nat) (p : List Int) : Prop where
  nd : p.Nodup
  rg : ∀ s ∈ p, 0 ≤ s ∧ s < n
theorem Pre.nil (n : Nat) : Pre n [] := ⟨.nil, by simp⟩
theorem Pre.snoc {n : Nat} {p : List Int} (h : Pre n p) {s : Int} (hs : s ∈ freeI n p) : Pre n (p ++ [s]) := by
  obtain ⟨h1, h2⟩ := mem_freeI.mp hs
  refine ⟨?_, fun x hx => ?_⟩
  · rw [List.nodup_append]
    exact ⟨h.nd, by simp, fun a ha b hb e => h2 (by have : b = s := by simpa using hb
                                                    subst this; exact e ▸ ha)⟩
  · rcases List.mem_append.mp hx with hx | hx
    · exact h.rg x hx
    · have : x = s := by simpa using hx
      subst this; exact h1
theorem Pre.init {n : Nat} {p : List Int} {s : Int} (h : Pre n (p ++ [s])) : Pre n p ∧ s ∈ freeI n p := by
  obtain ⟨a, b, c⟩ := List.nodup_append.mp h.nd
  refine ⟨⟨a, fun x hx => h.rg x (List.mem_append_left _ hx)⟩, mem_freeI.mpr ⟨h.rg s (by simp), fun hs => c s hs s (by simp) rfl⟩⟩
theorem freeI_len {n : Nat} {p : List Int} (h : Pre n p) : (freeI n p).length + p.length = n := by
  have : ∀ (k : Nat) (p : List Int), p.length = k → Pre n p → (freeI n p).length + p.length = n := by
    intro k
    induction k with
    | zero =>
      intro p hp h
      have : p = [] := List.length_eq_zero_iff.mp hp
      subst this
      have : freeI n [] = rangeI n := by unfold freeI; rw [List.filter_eq_self]; simp
      rw [this, rangeI_len]; rfl
    | succ k ih =>
      intro p hp h
      have hne : p ≠ [] := by intro e; subst e; simp at hp
      obtain ⟨q, s, rfl⟩ : ∃ q s, p = q ++ [s] := ⟨p.dropLast, p.getLast hne, (List.dropLast_concat_getLast hne).symm⟩
      obtain ⟨hq, hs⟩ := h.init
      have h1 := ih q (by simpa using hp) hq
      have h2 := wo_len (freeI_nodup n q) hs
      rw [freeI_snoc]
      simp
      omega
  exact this p.length p rfl h
theorem Pre.len {n : Nat} {p : List Int} (h : Pre n p) : p.length ≤ n := by have := freeI_len h; omega
/-- how many states have the first people on p -/
def Ng (n : Nat) (ms : List Int) (R : Int) (p : List Int) : Int := T n (R - wr ms p) (sw (isort (ms.drop p.length)) (freeI n p))
theorem wr_snoc : ∀ {ms p : List Int} {m s : Int}, ms[p.length]? = some m → wr ms (p ++ [s]) = wr ms p + if m < s then 1 else 0
  | [], p, m, s, h => by simp at h
  | x :: ms, [], m, s, h => by
    have : x = m := by simpa using h
    subst this
    show _ + wr ms [] = 0 + _
    have : wr ms [] = 0 := by cases ms <;> rfl
    rw [this]; omega
  | x :: ms, y :: p, m, s, h => by
    show _ + wr ms (p ++ [s]) = _ + wr ms p + _
    rw [wr_snoc (ms := ms) (p := p) (m := m) (by simpa using h)]; omega
theorem Ng_sum {n : Nat} {ms : List Int} (hl : ms.length = n) (hm : ∀ m ∈ ms, 0 ≤ m) (R : Int) {p : List Int} (h : Pre n p) (hp : p.length < n) : sumOver (freeI n p) (fun s => Ng n ms R (p ++ [s])) = Ng n ms R p := by
  obtain ⟨m, e⟩ : ∃ m, ms[p.length]? = some m := ⟨_, List.getElem?_eq_getElem (by omega)⟩
  have ed : ms.drop p.length = m :: ms.drop (p.length + 1) := by
    obtain ⟨h1, h2⟩ := List.getElem?_eq_some_iff.mp e
    rw [List.drop_eq_getElem_cons h1, h2]
  have h1 := freeI_len h
  have hk := one_more (A := freeI n p) (freeI_nodup n p) (lo := -1) (fun a ha => by have := (mem_freeI.mp ha).1; omega) (m := m) (M := isort (ms.drop (p.length + 1))) (isort_asc _) (fun x hx => by
    have := hm x (List.mem_of_mem_drop ((isort_perm _).subset hx)); omega) (by rw [isort_len, List.length_drop]; omega) n (R - wr ms p)
  have e2 : Ng n ms R p = T n (R - wr ms p) (sw (ins m (isort (ms.drop (p.length + 1)))) (freeI n p)) := by
    unfold Ng
    rw [ed]
    rfl
  rw [e2, ← hk]
  refine sumOver_congr fun s hs => ?_
  unfold Ng
  rw [wr_snoc e, freeI_snoc, List.length_append]
  congr 1
  omega
theorem Ng_leaf {n : Nat} {ms : List Int} (hl : ms.length = n) (R : Int) {p : List Int} (h : Pre n p) (hp : p.length = n) : Ng n ms R p = sp n (R - wr ms p) := by
  have h1 := freeI_len h
  have h2 : freeI n p = [] := List.length_eq_zero_iff.mp (by omega)
  unfold Ng
  rw [h2, hp, ← hl, List.drop_length]
  show T ms.length _ [1] = _
  show 1 * sp _ _ + 0 = _
  omega
theorem sumOver_nonneg {f : Int → Int} : ∀ {A : List Int}, (∀ a ∈ A, 0 ≤ f a) → 0 ≤ sumOver A f
  | [], _ => by simp [sumOver]
  | a :: A, h => by
    have := sumOver_nonneg fun b hb => h b (List.mem_cons_of_mem _ hb)
    have := h a List.mem_cons_self
    simp only [sumOver, List.map_cons, List.sum_cons] at *
    omega
theorem Ng_nonneg {n : Nat} {ms : List Int} (hl : ms.length = n) (hm : ∀ m ∈ ms, 0 ≤ m) (R : Int) : ∀ (k : Nat) {p : List Int}, Pre n p → p.length + k = n → 0 ≤ Ng n ms R p
  | 0, p, h, e => by rw [Ng_leaf hl R h (by omega)]; exact sp_nonneg _ _
  | k + 1, p, h, e => by
    rw [← Ng_sum hl hm R h (by omega)]
    exact sumOver_nonneg fun s hs => Ng_nonneg hl hm R k (h.snoc hs) (by simp; omega)
/-- how many states have a lower seat -/
def lowN (n : Nat) (ms : List Int) (R : Int) (p : List Int) (s : Int) : Int := sumOver ((freeI n p).filter fun t => decide (t < s)) (fun t => Ng n ms R (p ++ [t]))
/-- the number of the first state with the seats ss behind p -/
def rk (n : Nat) (ms : List Int) (R : Int) : List Int → List Int → Int
  | _, [] => 0
  | p, s :: ss => lowN n ms R p s + rk n ms R (p ++ [s]) ss
theorem asc_rangeI (n : Nat) : (rangeI n).Pairwise (· < ·) := by
  unfold rangeI
  refine List.Pairwise.map _ ?_ List.pairwise_lt_range
  intro a b h
  show (a : Int) < b
  omega
theorem asc_freeI (n : Nat) (p : List Int) : (freeI n p).Pairwise (· < ·) := (asc_rangeI n).sublist List.filter_sublist
theorem split_at {A : List Int} {f : Int → Int} {s : Int} (h : A.Nodup) (hs : s ∈ A) : sumOver A f = sumOver (A.filter fun t => decide (t < s)) f + f s + sumOver (A.filter fun t => decide (s < t)) f := by
  induction A with
  | nil => simp at hs
  | cons a A ih =>
    obtain ⟨h1, h2⟩ := List.nodup_cons.mp h
    simp only [sumOver, List.map_cons, List.sum_cons] at ih ⊢
    by_cases e : a = s
    · subst e
      rw [List.filter_cons_of_neg (by simp), List.filter_cons_of_neg (by simp)]
      have hh := sumOver_lr A a f
      have e1 : blw A a = A.filter fun t => decide (t < a) := by
        unfold blw
        refine List.filter_congr fun x hx => ?_
        have : x ≠ a := fun z => h1 (z ▸ hx)
        by_cases l : x < a
        · have : x ≤ a := by omega
          simp [l, this]
        · have : ¬ x ≤ a := by omega
          simp [l, this]
      have e2 : abv A a = A.filter fun t => decide (a < t) := rfl
      rw [e1, e2] at hh
      simp only [sumOver] at hh
      omega
    · have hs' : s ∈ A := by
        rcases List.mem_cons.mp hs with q | q
        · exact absurd q.symm e
        · exact q
      have := ih h2 hs'
      by_cases l : a < s
      · have g : ¬ s < a := by omega
        rw [List.filter_cons_of_pos (by simpa using l), List.filter_cons_of_neg (by simpa using g)]
        simp only [List.map_cons, List.sum_cons]
        omega
      · have g : s < a := by omega
        rw [List.filter_cons_of_neg (by simpa using l), List.filter_cons_of_pos (by simpa using g)]
        simp only [List.map_cons, List.sum_cons]
        omega
/-- a seat that comes earlier -/
theorem low_le {n : Nat} {ms : List Int} (hl : ms.length = n) (hm : ∀ m ∈ ms, 0 ≤ m) (R : Int) {p : List Int} (h : Pre n p) (hp : p.length < n) {s t : Int} (hs : s ∈ freeI n p) (ht : s < t) : lowN n ms R p s + Ng n ms R (p ++ [s]) ≤ lowN n ms R p t := by
  unfold lowN
  have hn := (freeI_nodup n p).sublist (List.filter_sublist (p := fun x => decide (x < t)))
  have e := split_at (f := fun t => Ng n ms R (p ++ [t])) hn (s := s) (by simp [hs, ht])
  rw [e, List.filter_filter, List.filter_filter]
  have e1 : (freeI n p).filter (fun a => decide (a < s) && decide (a < t)) = (freeI n p).filter fun a => decide (a < s) := by
    refine List.filter_congr fun x _ => ?_
    by_cases l : x < s
    · have : x < t := by omega
      simp [l, this]
    · simp [l]
  rw [e1]
  have := sumOver_nonneg (A := (freeI n p).filter fun a => decide (s < a) && decide (a < t)) (f := fun t => Ng n ms R (p ++ [t])) fun x hx => by
    have hx' : x ∈ freeI n p := (List.mem_filter.mp hx).1
    exact Ng_nonneg hl hm R (n - (p ++ [x]).length) (h.snoc hx') (by simp; omega)
  omega
theorem low_nonneg {n : Nat} {ms : List Int} (hl : ms.length = n) (hm : ∀ m ∈ ms, 0 ≤ m) (R : Int) {p : List Int} (h : Pre n p) (hp : p.length < n) (s : Int) : 0 ≤ lowN n ms R p s :=
  sumOver_nonneg fun x hx => by
    have hx' : x ∈ freeI n p := (List.mem_filter.mp hx).1
    exact Ng_nonneg hl hm R (n - (p ++ [x]).length) (h.snoc hx') (by simp; omega)
theorem low_top {n : Nat} {ms : List Int} (hl : ms.length = n) (hm : ∀ m ∈ ms, 0 ≤ m) (R : Int) {p : List Int} (h : Pre n p) (hp : p.length < n) {s : Int} (hs : s ∈ freeI n p) : lowN n ms R p s + Ng n ms R (p ++ [s]) ≤ Ng n ms R p := by
  rw [← Ng_sum hl hm R h hp]
  unfold lowN
  rw [split_at (f := fun t => Ng n ms R (p ++ [t])) (freeI_nodup n p) hs]
  have := sumOver_nonneg (A := (freeI n p).filter fun a => decide (s < a)) (f := fun t => Ng n ms R (p ++ [t])) fun x hx => by
    have hx' : x ∈ freeI n p := (List.mem_filter.mp hx).1
    exact Ng_nonneg hl hm R (n - (p ++ [x]).length) (h.snoc hx') (by simp; omega)
  omega
/-- the seats behind p are chosen by the number b: s is the seat at which b stands, and so on; r is what is left -/
inductive StAt (n : Nat) (ms : List Int) (R : Int) : List Int → Int → List Int → Int → Prop
  | nil {p : List Int} {b : Int} : p.length = n → StAt n ms R p b [] b
  | cons {p : List Int} {b s r : Int} {ss : List Int} : p.length < n → s ∈ freeI n p → lowN n ms R p s ≤ b → b < lowN n ms R p s + Ng n ms R (p ++ [s]) → StAt n ms R (p ++ [s]) (b - lowN n ms R p s) ss r → StAt n ms R p b (s :: ss) r
theorem StAt.spec {n : Nat} {ms : List Int} {R : Int} : ∀ {p : List Int} {b : Int} {ss : List Int} {r : Int}, StAt n ms R p b ss r → Pre n p → 0 ≤ b → b < Ng n ms R p → Pre n (p ++ ss) ∧ (p ++ ss).length = n ∧ b = rk n ms R p ss + r ∧ 0 ≤ r ∧ r < Ng n ms R (p ++ ss)
  | p, b, _, _, .nil e, h, h0, h1 => by
    rw [List.append_nil]
    exact ⟨h, e, by show b = 0 + b; omega, h0, h1⟩
  | p, b, _, r, .cons (s := s) (ss := ss) a1 a2 a3 a4 t, h, h0, h1 => by
    obtain ⟨q1, q2, q3, q4, q5⟩ := StAt.spec t (h.snoc a2) (by omega) (by omega)
    have e : p ++ [s] ++ ss = p ++ s :: ss := by simp
    rw [e] at q1 q2 q5
    refine ⟨q1, q2, ?_, q4, q5⟩
    show b = lowN n ms R p s + rk n ms R (p ++ [s]) ss + r
    omega
theorem find_at {f : Int → Int} : ∀ {A : List Int} {b : Int}, A.Pairwise (· < ·) → (∀ a ∈ A, 0 ≤ f a) → 0 ≤ b → b < sumOver A f → ∃ s ∈ A, sumOver (A.filter fun t => decide (t < s)) f ≤ b ∧ b < sumOver (A.filter fun t => decide (t < s)) f + f s
  | [], b, _, _, h0, h1 => by simp [sumOver] at h1; omega
  | a :: A, b, hp, hf, h0, h1 => by
    obtain ⟨p1, p2⟩ := List.pairwise_cons.mp hp
    have hfa := hf a List.mem_cons_self
    by_cases c : b < f a
    · refine ⟨a, List.mem_cons_self, ?_⟩
      have : (a :: A).filter (fun t => decide (t < a)) = [] := by
        rw [List.filter_eq_nil_iff]
        intro x hx
        rcases List.mem_cons.mp hx with rfl | hx
        · simp
        · have := p1 x hx; simp; omega
      rw [this]
      simp only [sumOver, List.map_nil, List.sum_nil]
      omega
    · have h1' : b - f a < sumOver A f := by simp only [sumOver, List.map_cons, List.sum_cons] at h1 ⊢; omega
      obtain ⟨s, hs, q1, q2⟩ := find_at p2 (fun x hx => hf x (List.mem_cons_of_mem _ hx)) (by omega) h1'
      refine ⟨s, List.mem_cons_of_mem _ hs, ?_⟩
      have := p1 s hs
      rw [List.filter_cons_of_pos (by simpa using this)]
      simp only [sumOver, List.map_cons, List.sum_cons] at q1 q2 ⊢
      omega
theorem StAt.ex {n : Nat} {ms : List Int} (hl : ms.length = n) (hm : ∀ m ∈ ms, 0 ≤ m) (R : Int) : ∀ (k : Nat) {p : List Int} {b : Int}, Pre n p → p.length + k = n → 0 ≤ b → b < Ng n ms R p → ∃ ss r, StAt n ms R p b ss r
  | 0, p, b, h, e, _, _ => ⟨[], b, .nil (by omega)⟩
  | k + 1, p, b, h, e, h0, h1 => by
    rw [← Ng_sum hl hm R h (by omega)] at h1
    obtain ⟨s, hs, q1, q2⟩ := find_at (asc_freeI n p) (fun a ha => Ng_nonneg hl hm R k (h.snoc ha) (by simp; omega)) h0 h1
    have q1 : lowN n ms R p s ≤ b := q1
    have q2 : b < lowN n ms R p s + Ng n ms R (p ++ [s]) := q2
    obtain ⟨ss, r, t⟩ := StAt.ex hl hm R k (h.snoc hs) (by simp; omega) (b := b - lowN n ms R p s) (by omega) (by omega)
    exact ⟨s :: ss, r, .cons (by omega) hs q1 q2 t⟩
theorem StAt.uniq {n : Nat} {ms : List Int} (hl : ms.length = n) (hm : ∀ m ∈ ms, 0 ≤ m) {R : Int} : ∀ {p : List Int} {b : Int} {ss tt : List Int} {r u : Int}, Pre n p → StAt n ms R p b ss r → StAt n ms R p b tt u → ss = tt ∧ r = u
  | _, _, _, _, _, _, _, .nil _, .nil _ => ⟨rfl, rfl⟩
  | _, _, _, _, _, _, _, .nil e, .cons a _ _ _ _ => by omega
  | _, _, _, _, _, _, _, .cons a _ _ _ _, .nil e => by omega
  | p, b, _, _, _, _, h, .cons (s := s) a1 a2 a3 a4 t, .cons (s := s') b1 b2 b3 b4 t' => by
    have : s = s' := by
      by_cases c : s < s'
      · have := low_le hl hm R h a1 a2 c; omega
      · by_cases d : s' < s
        · have := low_le hl hm R h a1 b2 d; omega
        · omega
    subst this
    obtain ⟨q1, q2⟩ := StAt.uniq hl hm (h.snoc a2) t t'
    exact ⟨by rw [q1], q2⟩
theorem rk_bound {n : Nat} {ms : List Int} (hl : ms.length = n) (hm : ∀ m ∈ ms, 0 ≤ m) (R : Int) : ∀ (ss : List Int) {p : List Int}, Pre n (p ++ ss) → (p ++ ss).length = n → 0 ≤ rk n ms R p ss ∧ rk n ms R p ss + Ng n ms R (p ++ ss) ≤ Ng n ms R p
  | [], p, h, e => by rw [List.append_nil]; show 0 ≤ (0 : Int) ∧ 0 + _ ≤ _; omega
  | s :: ss, p, h, e => by
    have e' : p ++ s :: ss = p ++ [s] ++ ss := by simp
    have hps : Pre n (p ++ [s]) := by
      rw [e'] at h
      exact ⟨(List.nodup_append.mp h.nd).1, fun x hx => h.rg x (List.mem_append_left _ hx)⟩
    obtain ⟨hp, hs⟩ := hps.init
    have hlt : p.length < n := by simp at e; omega
    rw [e'] at h e ⊢
    obtain ⟨q1, q2⟩ := rk_bound hl hm R ss h e
    have := low_nonneg hl hm R hp hlt s
    have := low_top hl hm R hp hlt hs
    show 0 ≤ lowN n ms R p s + rk n ms R (p ++ [s]) ss ∧ lowN n ms R p s + rk n ms R (p ++ [s]) ss + _ ≤ _
    omega
theorem StAt.of {n : Nat} {ms : List Int} (hl : ms.length = n) (hm : ∀ m ∈ ms, 0 ≤ m) (R : Int) : ∀ (ss : List Int) {p : List Int} {r : Int}, Pre n (p ++ ss) → (p ++ ss).length = n → 0 ≤ r → r < Ng n ms R (p ++ ss) → StAt n ms R p (rk n ms R p ss + r) ss r
  | [], p, r, h, e, h0, h1 => by
    rw [List.append_nil] at e
    have : rk n ms R p [] + r = r := by show 0 + r = r; omega
    rw [this]
    exact .nil e
  | s :: ss, p, r, h, e, h0, h1 => by
    have e' : p ++ s :: ss = p ++ [s] ++ ss := by simp
    have hps : Pre n (p ++ [s]) := by
      rw [e'] at h
      exact ⟨(List.nodup_append.mp h.nd).1, fun x hx => h.rg x (List.mem_append_left _ hx)⟩
    obtain ⟨hp, hs⟩ := hps.init
    have hlt : p.length < n := by simp at e; omega
    rw [e'] at h e h1
    obtain ⟨q1, q2⟩ := rk_bound hl hm R ss h e
    have t := StAt.of hl hm R ss h e h0 h1
    have g : rk n ms R p (s :: ss) + r = lowN n ms R p s + rk n ms R (p ++ [s]) ss + r := rfl
    refine .cons hlt hs (by omega) (by omega) ?_
    have g2 : rk n ms R p (s :: ss) + r - lowN n ms R p s = rk n ms R (p ++ [s]) ss + r := by omega
    rw [g2]
    exact t
end NM
namespace DL
open PySem PySem.Spec L2
namespace N
noncomputable def g_spreads_many : Sv := (seqS (ifS (opT ltV (getV 0) (cst (.d (.int 0)))) (retS (cst (.d (.int 0)))) nopS) (seqS (ifS (opT eqV (getV 1) (cst (.d (.int 0)))) (retS (ifE (opT eqV (getV 0) (cst (.d (.int 0)))) (cst (.d (.int 1))) (cst (.d (.int 0))))) nopS) (retS (callE combV (consA (op2 subV (op2 addV (getV 0) (getV 1)) (cst (.d (.int 1)))) (consA (op2 subV (getV 1) (cst (.d (.int 1)))) nilA))))))
noncomputable def m_spreads_many : Fn := defM 2 0 g_spreads_many
end N
end DL
namespace DL
open PySem PySem.Spec L2
/-- the value is that key, in any heap that is told so -/
def KeyIn (H : Hp) (v : V) (k : NestedKey) : Prop := ∀ (P : Program) (W : World) (h : Heap), HOk P W H h → ∀ u, RelV v u → NestedIs h k u
mutual
theorem key_in {K : Frag} {F H : Hp} (sub : ∀ a o, F a = some o → H a = some o) : ∀ (d : PyData) (v : V) (k : NestedKey), Dp K F v d → nk d = some k → KeyIn H v k
  | .none, _, _, h, e => by rw [nk] at e; cases e; cases h; intro P W hp ok u r; cases r; exact .none
  | .int i, _, _, h, e => by rw [nk] at e; cases e; cases h; intro P W hp ok u r; obtain ⟨t, rfl⟩ := r; exact .int _ _
  | .tuple ds, _, _, h, e => by
    obtain ⟨ks, e1, rfl⟩ := nk_tup e
    cases h with
    | tup hs ha =>
      intro P W hp ok u r
      obtain ⟨o, ho, e2⟩ := hs
      cases r
      obtain ⟨_, _, its, rv, o', h1, h2, n, h3⟩ := ok _ _ (sub _ _ e2)
      refine .tup h1 h2 h3 ?_
      simpa using keys_in sub ds _ ks ha e1 P W hp ok its rv
  | .bool _, _, _, _, e => by rw [nk] at e; cases e
  | .str _, _, _, _, e => by rw [nk] at e; cases e
  | .list _, _, _, _, e => by rw [nk] at e; cases e
  | .dict _, _, _, _, e => by rw [nk] at e; cases e
theorem keys_in {K : Frag} {F H : Hp} (sub : ∀ a o, F a = some o → H a = some o) : ∀ (ds : List PyData) (vs : List V) (ks : List NestedKey), DpAll K F vs ds → nks ds = some ks →
    ∀ (P : Program) (W : World) (h : Heap), HOk P W H h → ∀ us, Vals vs us → NestedAll h ks us
  | [], _, _, h, e => by rw [nks] at e; cases e; cases h; intro P W hp ok us r; cases r; exact .nil
  | d :: ds, _, _, h, e => by
    obtain ⟨k, r, e1, e2, rfl⟩ := nks_cons e
    cases h with
    | cons h1 h2 =>
      intro P W hp ok us r
      cases r with
      | cons r1 r2 => exact .cons (key_in sub d _ k h1 e1 P W hp ok _ r1) (keys_in sub ds _ _ h2 e2 P W hp ok _ r2)
end
/-- such a dict, on the abstract heap -/
structure DTk (H : Hp) (a : Addr) (xs : List (NestedKey × Addr × Value)) : Prop where
  at_ : H a = some (DctO a xs)
  ns : (a == sysModules) = false
  ks : ∀ x ∈ xs, KeyIn H (.ref x.2.1) x.1 ∧ x.1.depth ≤ 8
  nd : (xs.map (·.1)).Nodup
  z : xs.length ≤ sizeLine
section
variable {X : Cx} {pins : List (Addr × Obj)} {σ : L2.St} {H : Hp} {s : Shared} {a b : Addr} {xs : List (NestedKey × Addr × Value)} {k : NestedKey}
theorem DTk.of (I : Inv X pins σ H s) (d : DTk H a xs) : s.heap.DictOfH (nestedKind X.prog X.w) a xs := by
  obtain ⟨⟨o, es, h1, h2, h3, h4⟩, _, _⟩ := (show ObjOk X.prog X.w H s.heap a (DctO a xs) from I.hok a _ d.at_)
  exact ⟨o, es, _, h1, h2, h3, h4 X.w, fun x hx => ⟨(d.ks x hx).1 _ _ _ I.hok _ rfl, (d.ks x hx).2⟩, d.nd⟩
theorem DTk.ofE (I : Inv X pins σ H s) (d : DTk H a xs) : DictOfE (nestedKind X.prog X.w) s.heap a xs := by
  obtain ⟨⟨o, es, h1, h2, h3, h4⟩, _, _⟩ := (show ObjOk X.prog X.w H s.heap a (DctO a xs) from I.hok a _ d.at_)
  exact ⟨o, es, h1, h2, h3, h4 X.w, fun x hx => ⟨(d.ks x hx).1 _ _ _ I.hok _ rfl, (d.ks x hx).2⟩, d.nd⟩
theorem key_of_in (I : Inv X pins σ H s) (h : KeyIn H (.ref b) k) (hd : k.depth ≤ 8) : (nestedKind X.prog X.w).is s.heap k b := ⟨h _ _ _ I.hok _ rfl, hd⟩
theorem room_k (hu : X.A.units + 9 < cLine) : (nestedKind X.prog X.w).room X.A.in1 := by
  show X.A.in1.units + 8 < cLine
  rw [Around.in1_units]
  omega
end
section
variable {X : Cx}
/-- d[k] = v -/
def sKPut : TSet := fun o i v H Q => ∃ a b xs k, o = .ref a ∧ i = .ref b ∧ DTk H a xs ∧ KeyIn H (.ref b) k ∧ k.depth ≤ 8 ∧
  ∀ u, RelV v u → (∀ w w' : World, (storedH xs k b u).map (dctE w) = (storedH xs k b u).map (dctE w')) ∧ Q (upd H a (DctO a (storedH xs k b u)))
theorem set_k (hu : X.A.units + 9 < cLine) : PSet X sKPut := by
  rintro pins s σ H x y v xv yv u Q I rx ry rv ⟨a, b, xs, k, rfl, rfl, d, hk, hd, q⟩
  obtain rfl : xv = Value.ref a := rx
  obtain rfl : yv = Value.ref b := ry
  obtain ⟨hw, q⟩ := q u rv
  refine setItem_E (room_k hu) (key_of_in I hk hd) (d.ofE I) (fun h' hm' hs => ?_) d.z
  obtain ⟨o, es, h1, h2, h3, h4, _, _⟩ := hm'
  exact ⟨_, d_write I (by rw [d.at_]; exact True.intro) hs ⟨o, h1⟩ (dct_lay h1 h2 h3 fun w => h4.trans (hw X.w w)), q⟩
/-- d.get(k, x) -/
theorem mt_kget (hu : X.A.units + 9 < cLine) : MtR X "dict.get" (fun x ys H Q => ∃ a b xs k z, x = .ref a ∧ ys = [.ref b, z] ∧ DTk H a xs ∧ KeyIn H (.ref b) k ∧ k.depth ≤ 8 ∧
    (atKey xs k = none → Q z H) ∧ (∀ c u, atKey xs k = some (c, u) → ∃ v, RelV v u ∧ Q v H)) := by
  rintro pins s σ H x ys xv us Q I rx rys ⟨a, b, xs, k, z, rfl, rfl, d, hk, hd, q1, q2⟩
  obtain rfl : xv = Value.ref a := rx
  obtain ⟨u1, u2, rfl, r1, r2⟩ := rys.two
  obtain rfl : u1 = Value.ref b := r1
  refine getOr_keyed (room_k hu) (key_of_in I hk hd) d.ns ⟨xs, d.of I, rfl⟩ ?_
  rw [valueAt_pairsH]
  cases e : atKey xs k with
  | none => exact ⟨z, H, I.tok _, r2, q1 e⟩
  | some p =>
    obtain ⟨v, rv, q⟩ := q2 p.1 p.2 e
    exact ⟨v, H, I.tok _, rv, q⟩
def tyK (x : V) (H : Hp) : Prop := ∃ a xs, x = .ref a ∧ H a = some (DctO a xs)
theorem tyK_is {pins : List (Addr × Obj)} {σ : L2.St} {H : Hp} {s : Shared} {x : V} {v : Value} (I : Inv X pins σ H s) (r : RelV x v) (ty : tyK x H) :
    s.TypeIs v "dict" ∧ ∀ a, v = .ref a → ∃ ob, s.heap.get? a = some ob ∧ ob.dict = none := by
  obtain ⟨a, xs, rfl, h⟩ := ty
  obtain rfl : v = Value.ref a := r
  obtain ⟨⟨o, es, h1, h2, h3, h4⟩, _, _⟩ := (show ObjOk X.prog X.w H s.heap a (DctO a xs) from I.hok a _ h)
  exact ⟨⟨o, h1, h2.1⟩, fun b e => by cases e; exact ⟨o, h1, h2.2.1⟩⟩
variable {o e : Expr} {es : List Expr} {to : TE} {t : TA} {name : Str} {apos cpos : Pos} {id : String} {r : V → List V → Hp → VK → Prop}
theorem pe_bmK (slot : Slot "dict" name id) (hty : typeOf (.builtin id) = pure (.type "method_descriptor")) (hm : MtR X id r) (ho : PE X o to) (ha : PA X (e :: es) t)
    (hbase : attributeBase o name X.env (eval o X.env) = eval o X.env := by rfl)
    (hfew : ((backTo cpos (starEach (e :: es) X.env)).all (fun x => !x.1) && (backToKw cpos (keywordEach [] X.env)).all (fun x => x.1.isSome)
      && decide ((e :: es).length + ([] : List Keyword).length + (if ([] : List Keyword).isEmpty then 0 else 1) < 30)) = true := by rfl)
    (hline : (apos.endLine == cpos.line) = true := by rfl) (hs : starEach (e :: es) X.env = (false, eval e X.env) :: starEach es X.env := by rfl) (hplain : (backTo cpos (starEach es X.env)).any (·.1) = false := by rfl) :
    PE X (.Call (.Attribute o name apos) (e :: es) [] cpos) (fun σ H Q => to σ H fun x H1 => tyK x H1 ∧ t σ H1 fun xs H2 => r x xs H2 Q) := by
  refine ⟨fun pins s σ H Q I h => ?_⟩
  refine wpAny_Call_method_late hbase hfew hline rfl (thn (ho.run pins s σ H _ I h) fun v s1 ⟨x, H1, I1, r1, ty, q1⟩ => ?_)
  obtain ⟨h1, h2⟩ := tyK_is I1 r1 ty
  refine ⟨"dict", id, PySem.F.plainAttrs_dict, slot, hty, h1, h2, ?_⟩
  have hA := ha.run cpos pins s1 σ H1 _ I1 q1
  rw [hs] at hA ⊢
  refine Calls.callWith_builtin (by show (false || (backTo cpos (starEach es X.env)).any (·.1)) = false; rw [hplain] <;> rfl) (Calls.evalArgs_plain ?_)
  exact thn hA fun us s2 ⟨vs, H2, I2, r2, q2⟩ => hm pins s2 σ H2 x vs v us Q I2 r1 r2 q2
/-- {} -/
theorem pe_knew {pos : Pos} : PE X (.Dict [] [] pos) (fun _ H Q => ∀ p, H p = none → (p == sysModules) = false → Q (.ref p) (upd H p (DctO p []))) := ⟨fun pins s σ H Q I h => by
  have hb : (s.heap.objs.size == sysModules) = false := beq_eq_false_iff_ne.mpr (Ne.symm (Nat.ne_of_lt I.big))
  exact wpAny_Dict_empty ⟨.ref s.heap.objs.size, _, I.laid (a := s.heap.objs.size) (o := DctO s.heap.objs.size []) (t' := s.toks) (fun _ _ q => Heap.get?_push_of_some _ q) (Nat.le_refl _)
    (dct_lay (es := #[]) (Heap.get?_push_size _ rfl) ⟨rfl, rfl, rfl⟩ rfl fun _ => rfl), rfl, h _ (I.hok.fresh (Nat.le_refl _)) hb⟩⟩
end
end DL
namespace DL
open PySem PySem.Spec L2
end DL
namespace DL
open PySem PySem.Spec L2 PySem.W
end DL
namespace DL
open PySem PySem.Spec L2 PySem.W PyProof.Rows
section
variable {X : Cx}
theorem pe_kdisp {k v : Expr} {pos : Pos} {tk tv : TE} (hu : X.A.units + 9 < cLine) (hk : PE X k tk) (hv : PE X v tv) : PE X (.Dict [some k] [v] pos) (fun σ H Q => ∀ p, H p = none → (p == sysModules) = false → tk σ (upd H p (DctO p [])) fun x H1 => tv σ H1 fun y H2 =>
    ∃ b kk, x = .ref b ∧ H2 p = some (DctO p []) ∧ KeyIn H2 (.ref b) kk ∧ kk.depth ≤ 8 ∧ (∀ w w', kk.hash w = kk.hash w') ∧ ∀ u, RelV y u → Q (.ref p) (upd H2 p (DctO p [(kk, b, u)]))) := ⟨fun pins s σ H Q I h => by
  have hb : (s.heap.objs.size == sysModules) = false := beq_eq_false_iff_ne.mpr (Ne.symm (Nat.ne_of_lt I.big))
  have hn := I.hok.fresh (Nat.le_refl s.heap.objs.size)
  have I1 : Inv X pins σ (upd H s.heap.objs.size (DctO s.heap.objs.size [])) { s with heap := s.heap.push { cls := .type "dict", data := .dict #[] } } := I.laid (a := s.heap.objs.size) (o := DctO s.heap.objs.size []) (t' := s.toks) (fun _ _ q => Heap.get?_push_of_some _ q) (Nat.le_refl _)
    (dct_lay (es := #[]) (Heap.get?_push_size _ rfl) ⟨rfl, rfl, rfl⟩ rfl fun _ => rfl)
  rw [arm_eval_Dict, zip_pairTrees [some k] [v] X.env pos rfl rfl, dictDisplay_pairs (pairTrees [some k] [v] X.env pos) (by simp [pairTrees]) (by simp [pairTrees])]
  refine wpAny_bind (wpAny_standAt (wpAny_bind (subDict_E (knd := nestedKind X.prog X.w) (Q := fun d s' => wpAny (model X.prog X.w) X.A (pure (Value.ref d)) (L2.EP X pins σ Q) X.xe s') (by show X.A.units + 8 < cLine; omega) (by simp [pairTrees])
    (pairTrees_cons_walk (thn (hk.run pins _ σ _ _ I1 (h _ hn hb)) fun u s1 ⟨x, H1, I2, rx, q1⟩ => thn (hv.run pins s1 σ H1 _ I2 q1) fun u2 s2 ⟨y, H2, I3, ry, b, kk, e, e2, hk2, hd, hw, q2⟩ => pairTrees_nil_walk ?_)))))
  subst e
  obtain rfl : u = Value.ref b := rx
  have d0 : DTk H2 s.heap.objs.size [] := ⟨e2, hb, fun _ hx => (nomatch hx), List.nodup_nil, Nat.zero_le _⟩
  refine ⟨kk, b, u2, rfl, key_of_in I3 hk2 hd, d0.ofE I3, fun h' tk hm hs => wpAny_pure ?_⟩
  obtain ⟨o, es, h1, h2, h3, h4, _, _⟩ := hm
  exact ⟨.ref s.heap.objs.size, _, d_write (t' := tk) I3 (by rw [e2]; exact True.intro) hs ⟨o, h1⟩ (dct_lay (xs := [(kk, b, u2)]) h1 h2 h3 fun w => h4.trans (by
    show [dctE X.w (kk, b, u2)] = [dctE w (kk, b, u2)]
    unfold dctE
    rw [hw X.w w])), rfl, q2 u2 ry⟩⟩
end
end DL
namespace DL
open PySem PySem.Spec L2
open Classical in
/-- the value at a key -/
noncomputable def dLook (kvs : List (PyData × PyData)) (k : PyData) : Option PyData := (kvs.find? fun p => decide (p.1 = k)).map (·.2)
open Classical in
/-- in its place, or at the end -/
noncomputable def dPut (kvs : List (PyData × PyData)) (k d : PyData) : List (PyData × PyData) := if (dLook kvs k).isSome = true then kvs.map (fun p => if p.1 = k then (p.1, d) else p) else kvs ++ [(k, d)]
/-- a tuple of whole numbers, Nones and such tuples, not too deep -/
def kOk (k : PyData) : Bool := match k with
  | .tuple _ => match nk k with
    | some x => decide (x.depth ≤ 8)
    | none => false
  | _ => false
theorem kOk_at {k : PyData} (h : kOk k = true) : ∃ x, nk k = some x ∧ x.depth ≤ 8 ∧ ∃ ds, k = .tuple ds := by
  unfold kOk at h
  split at h
  · split at h
    · rename_i x e
      exact ⟨x, e, of_decide_eq_true h, _, rfl⟩
    · cases h
  · cases h
section
variable {K : Frag} {F : Hp}
theorem look_some : ∀ {kvs : List (PyData × PyData)} {xs : List (NestedKey × Addr × Value)} {k : PyData} {x : NestedKey} {d : PyData}, DcAll K F kvs xs → nk k = some x → dLook kvs k = some d → ∃ c u v, atKey xs x = some (c, u) ∧ RelV v u ∧ Dp K F v d
  | _, _, _, _, _, .nil, _, h => by simp [dLook] at h
  | _, _, k, x, d, .cons (k := k') (x := x') (a := a') (kvs := kvs) (xs := xs) e1 e2 e3 e4 e5 t, hk, h => by
    classical
    by_cases q : k' = k
    · subst q
      rw [e1] at hk
      cases hk
      unfold dLook at h
      rw [List.find?_cons, decide_eq_true rfl] at h
      cases h
      exact ⟨a', _, _, by simp only [atKey, List.find?_cons, decide_true, Option.map_some], e4, e5⟩
    · have q2 : ¬ x' = x := fun z => q (nk_inj _ _ _ e1 (z ▸ hk))
      have h' : dLook kvs k = some d := by
        unfold dLook at h ⊢
        rw [List.find?_cons, decide_eq_false q] at h
        exact h
      obtain ⟨c, u, v, w1, w2, w3⟩ := look_some t hk h'
      refine ⟨c, u, v, ?_, w2, w3⟩
      simpa [atKey, List.find?_cons, q2] using w1
theorem look_none : ∀ {kvs : List (PyData × PyData)} {xs : List (NestedKey × Addr × Value)} {k : PyData} {x : NestedKey}, DcAll K F kvs xs → nk k = some x → dLook kvs k = none → atKey xs x = none
  | _, _, _, _, .nil, _, h => rfl
  | _, _, k, x, .cons (k := k') (x := x') (kvs := kvs) (xs := xs) e1 e2 e3 e4 e5 t, hk, h => by
    classical
    by_cases q : k' = k
    · subst q
      unfold dLook at h
      rw [List.find?_cons, decide_eq_true rfl] at h
      cases h
    · have q2 : ¬ x' = x := fun z => q (nk_inj _ _ _ e1 (z ▸ hk))
      have h' : dLook kvs k = none := by
        unfold dLook at h ⊢
        rw [List.find?_cons, decide_eq_false q] at h
        exact h
      have w1 := look_none t hk h'
      simpa [atKey, List.find?_cons, q2] using w1
theorem look_is {kvs : List (PyData × PyData)} {xs : List (NestedKey × Addr × Value)} {k : PyData} {x : NestedKey} (h : DcAll K F kvs xs) (hk : nk k = some x) : (atKey xs x).isSome = (dLook kvs k).isSome := by
  cases q : dLook kvs k with
  | none => rw [look_none h hk q]; rfl
  | some d =>
    obtain ⟨c, u, v, e, _⟩ := look_some h hk q
    rw [e]
    rfl
theorem DcAll.app {kvs : List (PyData × PyData)} {xs : List (NestedKey × Addr × Value)} {kvs' : List (PyData × PyData)} {xs' : List (NestedKey × Addr × Value)} : DcAll K F kvs xs → DcAll K F kvs' xs' → DcAll K F (kvs ++ kvs') (xs ++ xs')
  | .nil, h => h
  | .cons e1 e2 e3 e4 e5 t, h => .cons e1 e2 e3 e4 e5 (DcAll.app t h)
theorem DcAll.len : ∀ {kvs : List (PyData × PyData)} {xs : List (NestedKey × Addr × Value)}, DcAll K F kvs xs → xs.length = kvs.length
  | _, _, .nil => rfl
  | _, _, .cons _ _ _ _ _ t => by simp [DcAll.len t]
theorem DcAll.repl {k d : PyData} {x : NestedKey} {v : V} {u : Value} (hk : nk k = some x) (hv : RelV v u) (hd : Dp K F v d) : ∀ {kvs : List (PyData × PyData)} {xs : List (NestedKey × Addr × Value)}, DcAll K F kvs xs →
    DcAll K F (kvs.map (fun p => open Classical in if p.1 = k then (p.1, d) else p)) (xs.map (putAt x u))
  | _, _, .nil => .nil
  | _, _, .cons (k := k') (x := x') e1 e2 e3 e4 e5 t => by
    classical
    rw [List.map_cons, List.map_cons]
    by_cases q : k' = k
    · subst q
      rw [e1] at hk
      cases hk
      have w := DcAll.repl (k := k') e1 hv hd t
      simp only [putAt, if_true]
      exact .cons e1 e2 e3 hv hd w
    · have q2 : ¬ x' = x := fun z => q (nk_inj _ _ _ e1 (z ▸ hk))
      have w := DcAll.repl (k := k) hk hv hd t
      simp only [putAt, q, q2, if_false]
      exact .cons e1 e2 e3 e4 e5 w
theorem DcAll.put {k d : PyData} {x : NestedKey} {v : V} {u : Value} {b : Addr} {kvs : List (PyData × PyData)} {xs : List (NestedKey × Addr × Value)} (h : DcAll K F kvs xs) (hk : nk k = some x) (hx : x.depth ≤ 8) (hb : Dp K F (.ref b) k) (hv : RelV v u) (hd : Dp K F v d) :
    DcAll K F (dPut kvs k d) (storedH xs x b u) := by
  unfold dPut storedH
  rw [look_is h hk]
  by_cases q : (dLook kvs k).isSome = true
  · rw [if_pos q, if_pos q]; exact h.repl hk hv hd
  · rw [if_neg q, if_neg q]; exact h.app (.cons hk hx hb hv hd .nil)
theorem storedH_nodup {x : NestedKey} {u : Value} {b : Addr} {xs : List (NestedKey × Addr × Value)} (h : (xs.map (·.1)).Nodup) : ((storedH xs x b u).map (·.1)).Nodup := by
  unfold storedH
  by_cases q : (atKey xs x).isSome = true
  · rw [if_pos q, keys_map_putAt]; exact h
  · rw [if_neg q, List.map_append, List.nodup_append]
    refine ⟨h, by simp, fun a ha c hc => ?_⟩
    obtain rfl : c = x := by simpa using hc
    rintro rfl
    obtain ⟨y, hy, e⟩ := List.mem_map.mp ha
    apply q
    unfold atKey
    rw [Option.isSome_map]
    exact List.find?_isSome.mpr ⟨y, hy, decide_eq_true e⟩
theorem dPut_len (kvs : List (PyData × PyData)) (k d : PyData) : (dPut kvs k d).length ≤ kvs.length + 1 := by
  unfold dPut
  split
  · rw [List.length_map]; omega
  · simp
theorem DcAll.now : ∀ {kvs : List (PyData × PyData)} {xs : List (NestedKey × Addr × Value)}, DcAll K F kvs xs → ∀ w w' : World, xs.map (dctE w) = xs.map (dctE w')
  | _, _, .nil, _, _ => rfl
  | _, _, .cons e1 _ _ _ _ t, w, w' => by
    rw [List.map_cons, List.map_cons, DcAll.now t w w']
    unfold dctE
    rw [hash_w w w' _ _ e1]
theorem DcAll.keys_ {H : Hp} (sub : ∀ a o, F a = some o → H a = some o) : ∀ {kvs : List (PyData × PyData)} {xs : List (NestedKey × Addr × Value)}, DcAll K F kvs xs → ∀ x ∈ xs, KeyIn H (.ref x.2.1) x.1 ∧ x.1.depth ≤ 8
  | _, _, .nil, _, hm => nomatch hm
  | _, _, .cons e1 e2 e3 _ _ t, x, hm => by
    rcases List.mem_cons.mp hm with rfl | hm
    · exact ⟨key_in sub _ _ _ e3 e1, e2⟩
    · exact DcAll.keys_ sub t x hm
end
section
variable {K : Frag} {w : Wd} {M : Mem} {H : Hp}
theorem Rel.dct (r : Rel K w M H) {i : Nat} {a : Addr} {kvs : List (PyData × PyData)} (h : w.as[i]? = some a) (hm : M[i]? = some (.dct kvs)) : w.F a = none ∧ ∃ xs, DTk H a xs ∧ DcAll K w.F kvs xs := by
  obtain ⟨q1, q2, q3, xs, q4, q5, q6⟩ := r.ob i a _ h hm
  exact ⟨q1, xs, ⟨q4, q2, q5.keys_ r.sub, q6, by rw [q5.len]; exact q3⟩, q5⟩
/-- a handle's dict is changed -/
theorem Rel.writeK (r : Rel K w M H) {i : Nat} {a : Addr} {xs : List (NestedKey × Addr × Value)} {kvs : List (PyData × PyData)} (h : w.as[i]? = some a) (hF : w.F a = none) (hs : (a == sysModules) = false) (hz : kvs.length ≤ sizeLine) (d : DcAll K w.F kvs xs) (hn : (xs.map (·.1)).Nodup) :
    Rel K w (M.set i (.dct kvs)) (upd H a (DctO a xs)) := by
  have ha : a ∈ w.as := List.mem_of_getElem? h
  refine ⟨fun b u e => ?_, by simp [r.len], r.nd, fun b u e => ?_, fun j b m e1 e2 => ?_⟩
  rotate_left
  · obtain ⟨q1, q2, q3⟩ := r.pin b u e
    have hb : b ≠ a := fun z => q3 (z ▸ ha)
    exact ⟨by rw [upd_ne hb]; exact q1, q2, q3⟩
  rotate_left
  · rw [upd_ne (ne_of_none e hF)]; exact r.sub b u e
  · by_cases hj : i = j
    · subst hj
      rw [h] at e1; cases e1
      have hl : i < M.length := by rw [← r.len]; exact (List.getElem?_eq_some_iff.mp h).1
      rw [List.getElem?_set_self hl] at e2; cases e2
      rw [upd_same]
      exact ⟨hF, hs, hz, xs, rfl, d, hn⟩
    · rw [List.getElem?_set_ne hj] at e2
      have hb : b ≠ a := fun z => hj (nodup_get r.nd h (z ▸ e1))
      rw [upd_ne hb]
      exact r.ob j b m e1 e2
/-- a new handle -/
theorem Rel.freshK (r : Rel K w M H) {p : Addr} (h : H p = none) (hs : (p == sysModules) = false) {xs : List (NestedKey × Addr × Value)} {kvs : List (PyData × PyData)} (hz : kvs.length ≤ sizeLine) (d : DcAll K w.F kvs xs) (hn : (xs.map (·.1)).Nodup) :
    Rel K (w.add p) (M ++ [.dct kvs]) (upd H p (DctO p xs)) := by
  obtain ⟨h1, h2⟩ := r.new h
  refine ⟨fun a u e => ?_, by show (w.as ++ [p]).length = _; simp [r.len], ?_, fun a u e => ?_, fun i a m e1 e2 => ?_⟩
  rotate_left 2
  · obtain ⟨q1, q2, q3⟩ := r.pin a u e
    have ha : a ≠ p := ne_of_none q1 h
    exact ⟨by rw [upd_ne ha]; exact q1, q2, by show a ∉ w.as ++ [p]; simp [q3, ha]⟩
  rotate_left
  · have e : w.F a = some u := e
    rw [upd_ne (ne_of_none e h2)]; exact r.sub a u e
  · show (w.as ++ [p]).Nodup
    rw [List.nodup_append]
    refine ⟨r.nd, by simp, fun a ha b hb z => ?_⟩
    have : b = p := by simpa using hb
    exact h1 (this ▸ z ▸ ha)
  · have e1 : (w.as ++ [p])[i]? = some a := e1
    by_cases hi : i < w.as.length
    · rw [List.getElem?_append_left hi] at e1
      rw [List.getElem?_append_left (by rw [← r.len]; exact hi)] at e2
      have ha : a ≠ p := fun z => h1 (z ▸ List.mem_of_getElem? e1)
      rw [upd_ne ha]
      exact (r.ob i a m e1 e2).up Wd.le_add (.inr rfl)
    · have hl : i = w.as.length := by
        have := (List.getElem?_eq_some_iff.mp e1).1
        simp at this; omega
      subst hl
      rw [List.getElem?_append_right (Nat.le_refl _)] at e1
      rw [r.len, List.getElem?_append_right (Nat.le_refl _)] at e2
      simp at e1 e2
      subst e1 e2
      rw [upd_same]
      exact ⟨h2, hs, hz, xs, rfl, d, hn⟩
end
section
variable {X : Cx} {W : WX} {pos : Pos}
theorem Dp.tupRef {K : Frag} {F : Hp} {v : V} {ds : List PyData} (h : Dp K F v (.tuple ds)) : ∃ b, v = .ref b := by
  cases h; exact ⟨_, rfl⟩
noncomputable def kgetE (fo fk fz : Ev) : Ev := fun e M => (fo e M).bind fun x M1 => match x with
  | .h i => match M1[i]? with
    | some (.dct _) => (fk e M1).bind fun y M2 => (fz e M2).bind fun z M3 => match y, z, M3[i]? with
      | .d k, .d d0, some (.dct kvs) => if kOk k = true then .ok (.d ((dLook kvs k).getD d0)) M3 else .st
      | _, _, _ => .st
    | _ => .st
  | _ => .st
theorem de_kgetM {o k z : Expr} {fo fk fz : Ev} {apos cpos : Pos} (hu : X.A.units + 65 < cLine) (ho : DE X W o fo) (hk : DE X W k fk) (hz : DE X W z fz)
    (hbase : attributeBase o "get" X.env (eval o X.env) = eval o X.env := by rfl)
    (hfew : ((backTo cpos (starEach [k, z] X.env)).all (fun x => !x.1) && (backToKw cpos (keywordEach [] X.env)).all (fun x => x.1.isSome)
      && decide ([k, z].length + ([] : List Keyword).length + (if ([] : List Keyword).isEmpty then 0 else 1) < 30)) = true := by rfl)
    (hline : (apos.endLine == cpos.line) = true := by rfl) (hs : starEach [k, z] X.env = (false, eval k X.env) :: starEach [z] X.env := by rfl) (hs2 : starEach [z] X.env = (false, eval z X.env) :: starEach [] X.env := by rfl) (hplain : (backTo cpos (starEach [z] X.env)).any (·.1) = false := by rfl) :
    DE X W (.Call (.Attribute o "get" apos) [k, z] [] cpos) (kgetE fo fk fz) :=
  PEweak (pe_bmK (X := X) (es := [z]) PySem.F.slot_dict_get PySem.F.type_dict_get (mt_kget (by omega)) ho (pa_cons hk (pa_cons hz pa_nil hs2) hs) hbase hfew hline hs hplain) fun σ H Q ⟨w, e, M, r, re, p⟩ =>
    ⟨w, e, M, r, re, p.bind fun x M1 w1 v H1 l1 r1 rv p1 => by
      split at p1
      · split at p1
        · rename_i i _ kv0 hm0
          obtain ⟨pa, ea, rfl⟩ := rv
          obtain ⟨_, xs0, dt0, _⟩ := r1.dct ea hm0
          refine ⟨⟨pa, xs0, rfl, dt0.at_⟩, w1, e, M1, r1, re.up l1, p1.bind fun y M2 w2 u H2 l2 r2 ru p2 => ⟨w2, e, M2, r2, (re.up l1).up l2, p2.bind fun z M3 w3 uz H3 l3 r3 rz p3 => ?_⟩⟩
          split at p3
          · rename_i k d0 _ kvs hm
            split at p3
            · rename_i hk
              obtain ⟨kk, e1, e2, ds, rfl⟩ := kOk_at hk
              have ea3 := l3.get (l2.get ea)
              obtain ⟨hF, xs, dt, dc⟩ := r3.dct ea3 hm
              have ru : Dp X.K w3.F u (.tuple ds) := RV.up l3 (x := .d (.tuple ds)) ru
              obtain ⟨bb, rfl⟩ := ru.tupRef
              refine ⟨pa, bb, xs, kk, uz, rfl, rfl, dt, key_in r3.sub _ _ _ ru e1, e2, fun hn => ?_, fun c uu hq => ?_⟩
              · have : dLook kvs (.tuple ds) = none := by
                  cases q : dLook kvs (.tuple ds) with
                  | none => rfl
                  | some d =>
                    obtain ⟨_, _, _, q1, _⟩ := look_some dc e1 q
                    rw [hn] at q1
                    cases q1
                rw [this] at p3
                exact p3.at r3 rz
              · cases q : dLook kvs (.tuple ds) with
                | none => rw [look_none dc e1 q] at hq; cases hq
                | some d =>
                  obtain ⟨_, _, vv, q1, q2, q3⟩ := look_some dc e1 q
                  rw [hq] at q1
                  cases q1
                  rw [q] at p3
                  exact ⟨vv, q2, p3.at r3 q3⟩
            · exact p3.elim
          · exact p3.elim
        · exact p1.elim
      · exact p1.elim⟩
noncomputable def kputT (f g : Ev) : Tg := fun x e M => (f e M).bind fun o M1 => (g e M1).bind fun j M2 => match o, j, x with
  | .h i, .d k, .d y => match M2[i]? with
    | some (.dct kvs) => if kOk k = true ∧ kvs.length < sizeLine then .ok e (M2.set i (.dct (dPut kvs k y))) else .st
    | _ => .st
  | _, _, _ => .st
theorem gd_kput {o i : Expr} {f g : Ev} (hu : X.A.units + 65 < cLine) (ho : DE X W0 o f) (hi : DE X W0 i g)
    (ha : ∀ v, assign (.Subscript o i pos) X.env v = (do
      let ov ← holding [v] (eval o X.env)
      let iv ← holding [v, ov] (eval i X.env)
      standAt pos
      holding [v, ov, iv] (setItem ov iv v)
      release [v, ov, iv] []) := by intro _; rfl) : GD X (.Subscript o i pos) (kputT f g) :=
  PGweak (pg_sub ho hi (set_k (by omega)) ha) fun v σ H Q ⟨w, e, M, x, r, re, rv, p⟩ =>
    ⟨w, e, M, r, re, p.bind fun o M1 w1 ov H1 l1 r1 ro p1 =>
      ⟨w1, e, M1, r1, re.up l1, p1.bind fun j M2 w2 jv H2 l2 r2 rj p2 => by
        split at p2
        · split at p2
          · rename_i i k y _ kvs hm
            split at p2
            · rename_i hc
              obtain ⟨hk, hz⟩ := hc
              obtain ⟨kk, e1, e2, ds, rfl⟩ := kOk_at hk
              have ro := ro.up l2
              obtain ⟨pa, ea, rfl⟩ := ro
              obtain ⟨hF, xs, dt, dc⟩ := r2.dct ea hm
              have rj : Dp X.K w2.F jv (.tuple ds) := rj
              obtain ⟨bb, rfl⟩ := rj.tupRef
              have rv : Dp X.K w2.F v y := (rv.v.up l1).up l2
              refine ⟨pa, bb, xs, kk, rfl, rfl, dt, key_in r2.sub _ _ _ rj e1, e2, fun u hu => ?_⟩
              have dc' := dc.put e1 e2 rj hu rv
              exact ⟨dc'.now, p2 _ _ _ (Wd.le_refl w2) (r2.writeK ea hF dt.ns (by have := dPut_len kvs (.tuple ds) y; omega) dc' (storedH_nodup dt.nd)) ((re.up l1).up l2)⟩
            · exact p2.elim
          · exact p2.elim
        · exact p2.elim⟩⟩
def knewE : Ev := fun _ M => .ok (.h M.length) (M ++ [.dct []])
theorem de_knew : DE X W (.Dict [] [] pos) knewE :=
  PEweak pe_knew fun σ H Q ⟨w, e, M, r, re, p⟩ q hq hs =>
    p _ _ _ Wd.le_add (r.freshK (kvs := []) hq hs (Nat.zero_le _) .nil List.nodup_nil) ⟨q, by show (w.as ++ [q])[M.length]? = some q; rw [← r.len, List.getElem?_append_right (Nat.le_refl _)]; simp, rfl⟩
def kdispE (f g : Ev) : Ev := fun e M => match f e M with
  | .ok x M1 => match g e M1 with
    | .ok y M2 => match x, y with
      | .d k, .d d => if kOk k = true then .ok (.h M2.length) (M2 ++ [.dct [(k, d)]]) else .st
      | _, _ => .st
    | _ => .st
  | _ => .st
theorem Rel.pinned {K : Frag} {w : Wd} {M : Mem} {H : Hp} {p : Addr} {o : HO} (r : Rel K w M H) (h : w.P p = some o) : H p = some o ∧ w.F p = none ∧ p ∉ w.as := r.pin p o h
/-- the thing that was set aside becomes a handle's dict -/
theorem Rel.takeK {K : Frag} {w w0 : Wd} {M : Mem} {H : Hp} (r : Rel K w M H) {p : Addr} {o : HO} (hP : w.P = upd w0.P p o) (h0 : w0.P p = none) (hs : (p == sysModules) = false) {xs : List (NestedKey × Addr × Value)} {kvs : List (PyData × PyData)} (hz : kvs.length ≤ sizeLine) (d : DcAll K w.F kvs xs) (hn : (xs.map (·.1)).Nodup) :
    Rel K ⟨w.as ++ [p], w.F, w0.P⟩ (M ++ [.dct kvs]) (upd H p (DctO p xs)) := by
  obtain ⟨_, h2, h1⟩ := r.pinned (p := p) (o := o) (by rw [hP, upd_same])
  refine ⟨fun a u e => ?_, by show (w.as ++ [p]).length = _; simp [r.len], ?_, fun a u e => ?_, fun i a m e1 e2 => ?_⟩
  rotate_left 2
  · have ha : a ≠ p := ne_of_none e h0
    obtain ⟨q1, q2, q3⟩ := r.pin a u (by rw [hP, upd_ne ha]; exact e)
    exact ⟨by rw [upd_ne ha]; exact q1, q2, by show a ∉ w.as ++ [p]; simp [q3, ha]⟩
  rotate_left
  · have e : w.F a = some u := e
    rw [upd_ne (ne_of_none e h2)]; exact r.sub a u e
  · show (w.as ++ [p]).Nodup
    rw [List.nodup_append]
    refine ⟨r.nd, by simp, fun a ha b hb z => ?_⟩
    have : b = p := by simpa using hb
    exact h1 (this ▸ z ▸ ha)
  · have e1 : (w.as ++ [p])[i]? = some a := e1
    by_cases hi : i < w.as.length
    · rw [List.getElem?_append_left hi] at e1
      rw [List.getElem?_append_left (by rw [← r.len]; exact hi)] at e2
      have ha : a ≠ p := fun z => h1 (z ▸ List.mem_of_getElem? e1)
      rw [upd_ne ha]
      have q := r.ob i a m e1 e2
      cases m with
      | gone => exact q
      | lst xs => exact q
      | dct kvs => exact q
      | nest xs =>
        obtain ⟨q1, j, vs, q2, q3, q4, q5⟩ := q
        have hj : j < w.as.length := (List.getElem?_eq_some_iff.mp q2).1
        refine ⟨q1, j, vs, by show (w.as ++ [p])[j]? = some a; rw [List.getElem?_append_left hj]; exact q2, q3, ?_, q5⟩
        have l : w.le ⟨w.as ++ [p], w.F, w.P⟩ := Wd.le_add
        exact (q4.up l).reP
    · have hl : i = w.as.length := by
        have := (List.getElem?_eq_some_iff.mp e1).1
        simp at this; omega
      subst hl
      rw [List.getElem?_append_right (Nat.le_refl _)] at e1
      rw [r.len, List.getElem?_append_right (Nat.le_refl _)] at e2
      simp at e1 e2
      subst e1 e2
      rw [upd_same]
      exact ⟨h2, hs, hz, xs, rfl, d, hn⟩
theorem de_kdisp {k v : Expr} {f g : Ev} (hu : X.A.units + 65 < cLine) (hk : DE X W0 k f) (hv : DE X W0 v g) : DE X W (.Dict [some k] [v] pos) (kdispE f g) :=
  PEweak (pe_kdisp (by omega) hk hv) fun σ H Q ⟨w, e, M, r, re, p⟩ q hq hs => by
    obtain ⟨h1, h2⟩ := r.new hq
    have hP0 : w.P q = none := by
      cases z : w.P q with
      | none => rfl
      | some o => have := (r.pin q o z).1; rw [hq] at this; cases this
    have ra := r.aside (p := q) (o := DctO q []) h2 h1
    have re' : RE X.K ⟨w.as, w.F, upd w.P q (DctO q [])⟩ e σ := ⟨re.len, fun i x h => let ⟨v, a, b⟩ := re.get i x h; ⟨v, a, b.reP⟩⟩
    unfold kdispE at p
    refine ⟨⟨w.as, w.F, upd w.P q (DctO q [])⟩, e, M, ra, re', ?_⟩
    cases e1 : f e M with
    | er C fs M1 => rw [e1] at p; exact p.elim
    | st => rw [e1] at p; exact p.elim
    | ok x M1 =>
      rw [e1] at p
      intro w1 v1 H1 l1 r1 rv1
      refine ⟨w1, e, M1, r1, re'.up l1, ?_⟩
      cases e2 : g e M1 with
      | er C fs M2 => dsimp only at p; rw [e2] at p; exact p.elim
      | st => dsimp only at p; rw [e2] at p; exact p.elim
      | ok y M2 =>
        dsimp only at p
        rw [e2] at p
        intro w2 v2 H2 l2 r2 rv2
        have rv1 := rv1.up l2
        dsimp only at p
        split at p
        · rename_i k d0 _
          split at p
          · rename_i hk
            obtain ⟨kk, e3, e4, ds, rfl⟩ := kOk_at hk
            have rv1 : Dp X.K w2.F v1 (.tuple ds) := rv1
            have rv2 : Dp X.K w2.F v2 d0 := rv2
            obtain ⟨bb, rfl⟩ := rv1.tupRef
            have hP : w2.P = upd w.P q (DctO q []) := l2.3.trans l1.3
            obtain ⟨g1, g2, g3⟩ := r2.pinned (p := q) (o := DctO q []) (by rw [hP, upd_same])
            refine ⟨bb, kk, rfl, g1, key_in r2.sub _ _ _ rv1 e3, e4, fun w w' => hash_w w w' _ _ e3, fun u hu => ?_⟩
            have dc : DcAll X.K w2.F [(.tuple ds, d0)] [(kk, bb, u)] := .cons e3 e4 rv1 hu rv2 .nil
            refine p ⟨w2.as ++ [q], w2.F, w.P⟩ _ _ ⟨((l1.trans l2).1).trans (List.prefix_append _ _), (l1.trans l2).2, rfl⟩ (r2.takeK hP hP0 hs (by show 1 ≤ sizeLine; rw [sizeLine_eq]; omega) dc (by simp)) ⟨q, ?_, rfl⟩
            show (w2.as ++ [q])[M2.length]? = some q
            rw [← r2.len, List.getElem?_append_right (Nat.le_refl _)]
            simp
          · exact p.elim
        · exact p.elim
end
end DL
namespace DL
open PySem PySem.Spec L2
end DL
namespace DL
open PySem PySem.Spec L2 PySem.W
section
variable {X : Cx} {pins : List (Addr × Obj)} {σ : L2.St} {H : Hp} {s : Shared} {a : Addr} {xs : List (NestedKey × Addr × Value)}
/-- a dict as it stands -/
structure DkAt (X : Cx) (h : Heap) (a : Addr) (xs : List (NestedKey × Addr × Value)) (es : Array DictEntry) : Prop where
  raw : h.DictRaw a es xs.length
  sz : es.size = xs.length
  key : ∀ (i : Nat) (hi : i < es.size), ∃ y, xs[i]? = some y ∧ es[i].key = .ref y.2.1 ∧ es[i].val = y.2.2
theorem dk_entries {w : World} {es : Array DictEntry} (h4 : es.toList = xs.map (dctE w)) : es.size = xs.length ∧ ∀ (i : Nat) (hi : i < es.size), ∃ y, xs[i]? = some y ∧ es[i].key = .ref y.2.1 ∧ es[i].val = y.2.2 := by
  have hs : es.size = xs.length := by rw [← Array.length_toList, h4, List.length_map]
  refine ⟨hs, fun i hi => ?_⟩
  have hx : i < xs.length := hs ▸ hi
  have e : es.toList[i]? = some (dctE w xs[i]) := by rw [h4, List.getElem?_map, List.getElem?_eq_getElem hx]; rfl
  rw [Array.getElem?_toList, Array.getElem?_eq_getElem hi] at e
  refine ⟨xs[i], List.getElem?_eq_getElem hx, ?_, ?_⟩
  · rw [Option.some.inj e]; rfl
  · rw [Option.some.inj e]; rfl
theorem DTk.stands (I : Inv X pins σ H s) (d : DTk H a xs) : ∃ es, DkAt X s.heap a xs es := by
  obtain ⟨⟨o, es, h1, h2, h3, h4⟩, _, _⟩ := (show ObjOk X.prog X.w H s.heap a (DctO a xs) from I.hok a _ d.at_)
  obtain ⟨k1, k2⟩ := dk_entries (h4 X.w)
  exact ⟨es, ⟨o, h1, h2, h3⟩, k1, k2⟩
theorem DTk.same (I : Inv X pins σ H s) {es : Array DictEntry} (d : DTk H a xs) {n : Nat} (r : s.heap.DictRaw a es n) : es.size = xs.length ∧ ∀ (i : Nat) (hi : i < es.size), ∃ y, xs[i]? = some y ∧ es[i].key = .ref y.2.1 ∧ es[i].val = y.2.2 := by
  obtain ⟨⟨o, es', h1, h2, h3, h4⟩, _, _⟩ := (show ObjOk X.prog X.w H s.heap a (DctO a xs) from I.hok a _ d.at_)
  obtain ⟨o', k1, k2, k3⟩ := r
  rw [h1] at k1
  cases k1
  rw [h3] at k3
  cases k3
  exact dk_entries (h4 X.w)
end
/-- n pairs of a key and its value, each a new tuple -/
def ItK (a : Addr) (n : Nat) : L2.It :=
  ⟨fun i H => ∃ xs, DTk H a xs ∧ xs.length = n ∧ i < n ∧ ∀ y ∈ xs, ∃ v, RelV v y.2.2,
   fun i H x H' => ∃ T b v, x = .ref T ∧ H T = none ∧ H' = upd H T (.tup [.ref b, v]) ∧ ∀ xs, DTk H a xs → ∃ y, xs[i]? = some y ∧ b = y.2.1 ∧ RelV v y.2.2,
   fun i H => ∃ xs, DTk H a xs ∧ xs.length = n ∧ n ≤ i⟩
theorem turn_items {P : Program} {w : World} {K : Frag} {elts : List Expr} {kk : Nat} {tpos : Pos} (a it : Addr) (n : Nat) :
    Turn P w K (.Tuple elts kk tpos) (ItK a n) [it] it (fun i h => ∃ ok ov, IsItemIter h it a i n n ok ov) where
  mem := by simp
  obj := fun i h st b hb => by
    obtain ⟨ok, ov, q⟩ := st
    rw [List.mem_singleton.mp hb]
    exact ⟨_, q, fun v z => nomatch z⟩
  keep := fun i h h' st k => by
    obtain ⟨ok, ov, q⟩ := st
    exact ⟨ok, ov, k it (by simp) _ q⟩
  item := by
    intro X hP hw hK hc i pins s σ H E I hf st hg
    subst hP hw hK
    obtain ⟨ok, ov, hit⟩ := st
    obtain ⟨xs, d, hn, hi, hv⟩ := hg
    obtain ⟨es, D⟩ := d.stands I
    have hsz := D.sz
    have hraw : s.heap.DictRaw a es n := hn ▸ D.raw
    have hie : i < es.size := by omega
    have hit' : IsItemIter s.heap it a i es.size n ok ov := by rw [hsz, hn]; exact hit
    obtain ⟨y, hy, ek, ev⟩ := D.key i hie
    obtain ⟨v, rv⟩ := hv y (List.mem_of_getElem? hy)
    have hil : it < s.heap.objs.size := Heap.lt_size hit
    refine wpAny_pyNext_items_item_raw hit' hraw hie fun h' ho hT hs hk => ⟨_, rfl, wpAny_letOwnedTupleGo_items (s := { s with heap := h' }) ho fun h'' he' sb => ?_⟩
    have hT2 : h''.get? s.heap.objs.size = some { cls := .type "tuple", data := .seq #[es[i].key, es[i].val] } := (sb.2 _ (Nat.ne_of_gt hil)).trans hT
    rw [ek, ev] at hT2
    have new : ObjOk X.prog X.w (upd H s.heap.objs.size (.tup [.ref y.2.1, v])) h'' s.heap.objs.size (.tup [.ref y.2.1, v]) :=
      ⟨by show 2 ≤ sizeLine; decide, [.ref y.2.1, y.2.2], .cons rfl (.cons rv .nil), ⟨_, hT2, rfl, _, rfl⟩⟩
    have I1 : Inv X pins σ (upd H s.heap.objs.size (.tup [.ref y.2.1, v])) { s with heap := h'' } :=
      I.turnedNew (t' := s.toks) (ch := [it]) (fun b ob hb q => (sb.2 b (fun z => hb (by simp [z]))).trans (hk b ob (fun z => hb (by simp [z])) q)) hf (Nat.le_refl _) new
    refine ⟨.ref s.heap.objs.size, _, I1, rfl, ⟨_, y.2.1, v, rfl, I.hok.fresh (Nat.le_refl _), rfl, fun ys hy' => ?_⟩, ⟨_, _, by rw [hsz, hn] at he'; exact he'⟩, fun b hb => ?_⟩
    · obtain ⟨_, k2⟩ := hy'.same I hraw
      obtain ⟨z, hz, e1, e2⟩ := k2 i hie
      rw [ek] at e1
      rw [ev] at e2
      exact ⟨z, hz, by injection e1, e2 ▸ rv⟩
    · rw [List.mem_singleton.mp hb, upd_ne (Nat.ne_of_lt hil)]
      exact (hf it (by simp)).1
  done := by
    intro X hP hw hK hc i pins s σ H E I hf st hg
    subst hP hw hK
    obtain ⟨ok, ov, hit⟩ := st
    obtain ⟨xs, d, hn, hi⟩ := hg
    obtain ⟨es, D⟩ := d.stands I
    have hsz := D.sz
    have hraw : s.heap.DictRaw a es n := hn ▸ D.raw
    have hit' : IsItemIter s.heap it a i es.size n ok ov := by rw [hsz, hn]; exact hit
    obtain ⟨f0, f1, f2, f3, f4, f5⟩ := hf it (by simp)
    exact wpAny_pyNext_items_end_raw (I.ok.hd hc) hit' hraw (by omega) fun h' eb => ⟨rfl, I.turned (t' := s.toks) (fun b o hb q => eb b o hb q) f0 f1 f3 f4 f5⟩
  self := fun A i s Q E st h => by
    obtain ⟨ok, ov, hit⟩ := st
    exact wpAny_pyIter_itemiter hit h
section
variable {X : Cx} {W : WX} {pos : Pos}
theorem pi_items {o : Expr} {to : TE} {apos cpos tpos : Pos} {elts : List Expr} {kk : Nat} (ho : PE X o to) (hbase : attributeBase o "items" X.env (eval o X.env) = eval o X.env := by rfl) (hline : (apos.endLine == cpos.line) = true := by rfl) :
    PI X (.Tuple elts kk tpos) (.Call (.Attribute o "items" apos) [] [] cpos) (fun σ H R => to σ H fun x H1 => ∃ a xs, x = .ref a ∧ DTk H1 a xs ∧ R (ItK a xs.length) H1) := by
  refine ⟨fun pins s σ H R I h => ?_⟩
  refine wpAny_Call_method0_late hbase hline (thn (ho.run pins s σ H _ I h) fun v s1 ⟨x, H1, I1, r1, a, xs, e, d, q⟩ => ?_)
  subst e
  obtain rfl : v = Value.ref a := r1
  obtain ⟨es, D⟩ := d.stands I1
  obtain ⟨ob, h1, h2, h3⟩ := D.raw
  refine ⟨"dict", "dict.items", PySem.F.plainAttrs_dict, PySem.F.slot_dict_items, PySem.F.type_dict_items, ⟨ob, h1, h2.1⟩, fun b e => ?_, Calls.callWith_builtin rfl (PySem.evalArgs_none ?_)⟩
  · cases e
    exact ⟨ob, h1, h2.2.1⟩
  refine call_meetsIn PySem.F.slot_dict_items ⟨ob, h1, h2.1⟩ PySem.F.entry_dict_items (PySem.F.args_dict_items_1 _) (meets_dict_items_raw a d.ns) ⟨⟨es, _, D.raw⟩, ?_⟩
  have I2 : Inv X pins σ H1 { s1 with heap := s1.heap.push { cls := .type "dict_items", data := .fields #[.ref a] } } := I1.kept (t' := s1.toks) fun b u e => Heap.get?_push_of_some _ e
  refine wpAny_pyIter_items_raw (v := s1.heap.objs.size) (d := a) ⟨_, Heap.get?_push_size _ rfl, rfl, rfl⟩ (D.raw.at fun o e => Heap.get?_push_of_some _ e) ?_
  refine pi_one (tk := s1.toks) I2 _ (turn_items a _ xs.length) ⟨.none, .none, ?_⟩ q
  rw [D.sz]
  exact Heap.get?_push_size _ rfl
theorem walk_K {a : Addr} {n : Nat} : Walk (ItK a n) n (fun H => ∃ xs, DTk H a xs ∧ xs.length = n ∧ ∀ y ∈ xs, ∃ v, RelV v y.2.2) (fun i H x H' => ∃ T b v, x = .ref T ∧ H T = none ∧ H' = upd H T (.tup [.ref b, v]) ∧ ∀ xs, DTk H a xs → ∃ y, xs[i]? = some y ∧ b = y.2.1 ∧ RelV v y.2.2) :=
  ⟨fun i H hi ⟨xs, d, e, hv⟩ => ⟨xs, d, e, hi, hv⟩, fun H ⟨xs, d, e, hv⟩ => ⟨xs, d, e, Nat.le_refl _⟩, fun i H x H' _ _ y => y⟩
theorem DcAll.vals {K : Frag} {F : Hp} : ∀ {kvs : List (PyData × PyData)} {xs : List (NestedKey × Addr × Value)}, DcAll K F kvs xs → ∀ y ∈ xs, ∃ v, RelV v y.2.2
  | _, _, .nil, _, hm => nomatch hm
  | _, _, .cons _ _ _ h4 _ t, y, hm => by
    rcases List.mem_cons.mp hm with rfl | hm
    · exact ⟨_, h4⟩
    · exact t.vals y hm
theorem DcAll.get {K : Frag} {F : Hp} : ∀ {kvs : List (PyData × PyData)} {xs : List (NestedKey × Addr × Value)} {i : Nat} {y : NestedKey × Addr × Value}, DcAll K F kvs xs → xs[i]? = some y → ∃ k d v, kvs[i]? = some (k, d) ∧ Dp K F (.ref y.2.1) k ∧ RelV v y.2.2 ∧ Dp K F v d
  | _, _, _, _, .nil, e => by simp at e
  | _, _, 0, _, .cons _ _ h3 h4 h5 _, e => by
    have e := Option.some.inj e
    subst e
    exact ⟨_, _, _, rfl, h3, h4, h5⟩
  | _, _, i + 1, _, .cons _ _ _ _ _ t, e => by
    obtain ⟨k, d, v, e1, e2⟩ := t.get (i := i) (by simpa using e)
    exact ⟨k, d, v, by simpa using e1, e2⟩
open Classical in
/-- one pair after another; the dict is the same at each turn -/
noncomputable def forKL (k : Nat) (ys : List (PyData × PyData)) (γ : Tg) (g : Sv) : List (PyData × PyData) → Env → Mem → RS
  | [], e, M => if M[k]? = some (.dct ys) then .go .nx e M else .st
  | x :: xs, e, M => if M[k]? = some (.dct ys) then match γ (.d (.tuple [x.1, x.2])) e M with
    | .ok e1 M1 => match g e1 M1 with
      | .go .nx e2 M2 => forKL k ys γ g xs e2 M2
      | .go .ct e2 M2 => forKL k ys γ g xs e2 M2
      | .go .bk e2 M2 => .go .nx e2 M2
      | r => r
    | _ => .st
    else .st
theorem forKL_mem {k : Nat} {ys : List (PyData × PyData)} {γ : Tg} {g : Sv} {xs : List (PyData × PyData)} {e : Env} {M : Mem} (h : forKL k ys γ g xs e M ≠ .st) : M[k]? = some (.dct ys) := by
  cases xs with
  | nil =>
    unfold forKL at h
    split at h
    · assumption
    · exact (h rfl).elim
  | cons x xs =>
    unfold forKL at h
    split at h
    · assumption
    · exact (h rfl).elim
noncomputable def forKS (f : Ev) (γ : Tg) (g : Sv) : Sv := lift f fun x e M => match x with
  | .h k => match M[k]? with
    | some (.dct ys) => forKL k ys γ g ys e M
    | _ => .st
  | _ => .st
theorem ds_forK {o : Expr} {body : List Stmt} {f : Ev} {γ : Tg} {g : Sv} {apos cpos tpos : Pos} {elts : List Expr} {kk : Nat} (hp : PassesOwn (model X.prog X.w) X.A X.env X.xe) (hc : X.calm = true) (ho : DE X W o f) (hg : GDb true X (.Tuple elts kk tpos) γ) (hb : DSs X W body g)
    (hbase : attributeBase o "items" X.env (eval o X.env) = eval o X.env := by rfl) (hline : (apos.endLine == cpos.line) = true := by rfl)
    (hs : ∀ x, foldedSetIterable (.Call (.Attribute o "items" apos) [] [] cpos) X.env x = pure x := by intro _; rfl) : DS X W (.For (.Tuple elts kk tpos) (.Call (.Attribute o "items" apos) [] [] cpos) body [] pos) (forKS f γ g) :=
  PSweak (ps_for hp hc (pi_items ho hbase hline) hg hb hs) fun D σ H ⟨w, e, M, r, re, p⟩ => ⟨w, e, M, r, re, p.of re fun x M1 w1 v H1 l1 r1 rv p1 => by
    split at p1
    case h_2 => exact p1.elim
    rename_i k
    split at p1
    case h_2 => exact p1.elim
    rename_i ys hk
    have rv0 := rv
    obtain ⟨a, ea, rfl⟩ := rv
    have up : ∀ {w2 : Wd}, w1.le w2 → w2.as[k]? = some a := fun l => by
      obtain ⟨b, eb, q⟩ := rv0.up l
      cases q
      exact eb
    obtain ⟨hF, xs0, d0, dc0⟩ := r1.dct ea hk
    have hlen0 := dc0.len
    refine ⟨a, xs0, rfl, d0, ?_⟩
    rw [hlen0]
    have ns : ∀ {w : Wd} {r : RS} {D : Ends}, PostS X.K W w r D → r ≠ .st := fun p z => by rw [z] at p; exact p.elim
    refine for_it (g := tTg X.K true γ) (tb := tS X.K W g) (D := D) (walk_K (n := ys.length)) (fun i σ H => ∃ w2 e2 M2, w1.le w2 ∧ Rel X.K w2 M2 H ∧ RE X.K w2 e2 σ ∧ PostS X.K W w2 (forKL k ys γ g (ys.drop i) e2 M2) D) ⟨w1, e, M1, Wd.le_refl _, r1, re.up l1, p1⟩ ?_ ?_ ?_
    · rintro i σ H _ ⟨w2, e2, M2, l2, r2, _, p2⟩
      obtain ⟨hF, xs, d, dc⟩ := r2.dct (up l2) (forKL_mem (ns p2))
      exact ⟨xs, d, dc.len, dc.vals⟩
    · rintro i x σ H H' hi ⟨w2, e2, M2, l2, r2, re2, p2⟩ ⟨T, b, v, rfl, hT, rfl, hx⟩
      have hm := forKL_mem (ns p2)
      obtain ⟨hF, xs, d, dc⟩ := r2.dct (up l2) hm
      obtain ⟨y, hy, rfl, rv⟩ := hx xs d
      obtain ⟨kd, dd, v', hkv, dk, rv', dv⟩ := dc.get hy
      obtain rfl : v' = v := RelV.inj rv' rv
      have ed : ys.drop i = (kd, dd) :: ys.drop (i + 1) := by
        rw [List.drop_eq_getElem_cons hi]
        rw [List.getElem?_eq_getElem hi] at hkv
        rw [Option.some.inj hkv]
      rw [ed] at p2
      unfold forKL at p2
      rw [if_pos hm] at p2
      have hFT := (r2.new hT).2
      have l3 : w2.le (w2.fz T (.tup [.ref y.2.1, v'])) := Wd.le_fz hFT
      refine ⟨_, e2, M2, .d (.tuple [kd, dd]), r2.alloc hT _, re2.up l3, .inr ⟨_, rfl, .inr ⟨rfl, T, _, _, rfl, rfl, .inl (.inl upd_same), .cons (Dp.up l3.2 _ _ dk) (.cons (Dp.up l3.2 _ _ dv) .nil)⟩⟩, ?_⟩
      cases q : γ (.d (.tuple [kd, dd])) e2 M2 with
      | st => rw [q] at p2; exact p2.elim
      | er C fs M3 => rw [q] at p2; exact p2.elim
      | ok e3 M3 =>
        rw [q] at p2
        dsimp only at p2
        intro w4 σ4 H4 l4 r4 re4
        refine ⟨w4, e3, M3, r4, re4, ?_⟩
        have l14 : w1.le w4 := (l2.trans l3).trans l4
        have p2 := PostS.up (l3.trans l4) p2
        cases q2 : g e3 M3 with
        | st => rw [q2] at p2; exact p2.elim
        | er C fs e4 M4 => rw [q2] at p2; exact p2
        | go f e4 M4 =>
          rw [q2] at p2
          cases f with
          | nx => exact fun w5 σ5 H5 l5 r5 re5 => ⟨w5, e4, M4, l14.trans l5, r5, re5, PostS.up l5 p2⟩
          | ct => exact fun w5 σ5 H5 l5 r5 re5 => ⟨w5, e4, M4, l14.trans l5, r5, re5, PostS.up l5 p2⟩
          | bk => exact p2
          | rt x => exact p2
    · rintro σ H ⟨w2, e2, M2, l2, r2, re2, p2⟩
      rw [List.drop_length] at p2
      unfold forKL at p2
      rw [if_pos (forKL_mem (xs := []) (γ := γ) (g := g) (e := e2) (fun z => by unfold forKL at z; rw [z] at p2; exact p2.elim))] at p2
      exact p2.nx r2 re2⟩
end
theorem forK_all {k : Nat} {ys : List (PyData × PyData)} {γ : Tg} {g : Sv} (I : Nat → Env → Mem → Prop) (hM : ∀ j e M, I j e M → M[k]? = some (.dct ys))
    (hs : ∀ (j : Nat) (x : PyData × PyData) (e : Env) (M : Mem), ys[j]? = some x → I j e M → ∃ e1 M1 e2 M2, γ (.d (.tuple [x.1, x.2])) e M = .ok e1 M1 ∧ g e1 M1 = .go .nx e2 M2 ∧ I (j + 1) e2 M2) {e : Env} {M : Mem} (h0 : I 0 e M) :
    ∃ e' M', forKL k ys γ g ys e M = .go .nx e' M' ∧ I ys.length e' M' := by
  suffices H : ∀ (m j : Nat), m = ys.length - j → j ≤ ys.length → ∀ e M, I j e M → ∃ e' M', forKL k ys γ g (ys.drop j) e M = .go .nx e' M' ∧ I ys.length e' M' by
    have := H ys.length 0 (by omega) (Nat.zero_le _) e M h0
    rwa [List.drop_zero] at this
  intro m
  induction m with
  | zero =>
    intro j hm hj e M hI
    obtain rfl : j = ys.length := by omega
    rw [List.drop_length]
    refine ⟨e, M, ?_, hI⟩
    unfold forKL
    exact if_pos (hM _ _ _ hI)
  | succ m ih =>
    intro j hm hj e M hI
    have hlt : j < ys.length := by omega
    obtain ⟨e1, M1, e2, M2, h1, h2, h3⟩ := hs j ys[j] e M (List.getElem?_eq_getElem hlt) hI
    obtain ⟨e', M', h4, h5⟩ := ih (j + 1) (by omega) (by omega) e2 M2 h3
    refine ⟨e', M', ?_, h5⟩
    rw [List.drop_eq_getElem_cons hlt]
    unfold forKL
    rw [if_pos (hM _ _ _ hI), h1]
    dsimp only
    rw [h2]
    exact h4
theorem forKS_a {f : Ev} {γ : Tg} {g : Sv} {e : Env} {M M1 : Mem} {k : Nat} {ys : List (PyData × PyData)} (h : f e M = .ok (.h k) M1) (h2 : M1[k]? = some (.dct ys)) : forKS f γ g e M = forKL k ys γ g ys e M1 := by
  unfold forKS lift
  rw [h]
  dsimp only
  rw [h2]
def IntsK (xs : List (NestedKey × Addr × Value)) (is : List Int) : Prop := is.length = xs.length ∧ ∀ (i : Nat) (y : NestedKey × Addr × Value), xs[i]? = some y → ∃ t, y.2.2 = .int (is.getD i 0) t
theorem preSum_getD : ∀ (is : List Int) (n : Nat), n ≤ is.length → preSum (fun i => is.getD i 0) n = (is.take n).sum
  | is, 0, _ => by rw [List.take_zero]; rfl
  | is, n + 1, h => by
    have hx : is[n]? = some is[n] := List.getElem?_eq_getElem h
    show preSum (fun i => is.getD i 0) n + is.getD n 0 = _
    rw [preSum_getD is n (by omega), List.take_succ, hx, List.sum_append, List.getD_eq_getElem?_getD, hx]
    simp
theorem DcAll.ints {K : Frag} {F : Hp} : ∀ {kvs : List (PyData × PyData)} {xs : List (NestedKey × Addr × Value)} {is : List Int}, DcAll K F kvs xs → intsOf (kvs.map (·.2)) = some is → IntsK xs is := by
  intro kvs xs is h
  induction h generalizing is with
  | nil =>
    intro e
    cases e
    exact ⟨rfl, fun i y q => by simp at q⟩
  | @cons k d x a v u kvs xs h1 h2 h3 h4 h5 t ih =>
    intro e
    rw [List.map_cons] at e
    cases d with
    | int j =>
      cases q : intsOf (kvs.map (·.2)) with
      | none => simp [intsOf, q] at e
      | some l =>
        simp [intsOf, q] at e
        subst e
        obtain ⟨i1, i2⟩ := ih q
        refine ⟨by simp [i1], fun i y hy => ?_⟩
        cases i with
        | zero =>
          have hy := Option.some.inj hy
          subst hy
          cases h5
          obtain ⟨t, e⟩ := h4
          exact ⟨t, e⟩
        | succ i =>
          obtain ⟨t, e⟩ := i2 i y (by simpa using hy)
          exact ⟨t, by simpa using e⟩
    | _ => simp [intsOf] at e
section
variable {X : Cx} {W : WX}
/-- d.values(): a view -/
theorem run_vals {o : Expr} {to : TE} {apos cpos : Pos} (ho : PE X o to) {R : Addr → List (NestedKey × Addr × Value) → Hp → Prop} {pins : List (Addr × Obj)} {s : Shared} {σ : L2.St} {H : Hp} {Q : Value → Shared → Prop} (I : Inv X pins σ H s)
    (h : to σ H fun x H1 => ∃ a xs, x = .ref a ∧ DTk H1 a xs ∧ R a xs H1) (hQ : ∀ a xs es r H1 s2, Inv X pins σ H1 s2 → s2.heap.IsValuesView r a → DkAt X s2.heap a xs es → DTk H1 a xs → R a xs H1 → Q (.ref r) s2)
    (hbase : attributeBase o "values" X.env (eval o X.env) = eval o X.env := by rfl) (hline : (apos.endLine == cpos.line) = true := by rfl) : wpAny (model X.prog X.w) X.A (eval (.Call (.Attribute o "values" apos) [] [] cpos) X.env) Q X.xe s := by
  refine wpAny_Call_method0_late hbase hline (thn (ho.run pins s σ H _ I h) fun v s1 ⟨x, H1, I1, r1, a, xs, e, d, q⟩ => ?_)
  subst e
  obtain rfl : v = Value.ref a := r1
  obtain ⟨es, D⟩ := d.stands I1
  obtain ⟨ob, h1, h2, h3⟩ := D.raw
  refine ⟨"dict", "dict.values", PySem.F.plainAttrs_dict, PySem.F.slot_dict_values, PySem.F.type_dict_values, ⟨ob, h1, h2.1⟩, fun b e => ?_, Calls.callWith_builtin rfl (PySem.evalArgs_none ?_)⟩
  · cases e
    exact ⟨ob, h1, h2.2.1⟩
  refine call_meetsIn PySem.F.slot_dict_values ⟨ob, h1, h2.1⟩ PySem.F.entry_dict_values (PySem.F.args_dict_values_1 _) (meets_dict_values_raw a d.ns) ⟨⟨es, _, D.raw⟩, ?_⟩
  have k : ∀ b u, s1.heap.get? b = some u → (s1.heap.push { cls := .type "dict_values", data := .fields #[.ref a] }).get? b = some u := fun b u e => Heap.get?_push_of_some _ e
  exact hQ a xs es _ H1 _ (I1.kept (t' := s1.toks) k) ⟨_, Heap.get?_push_size _ rfl, rfl, rfl⟩ ⟨D.raw.at fun o e => k _ _ e, D.sz, D.key⟩ d q
theorem vals_at {h : Heap} {a : Addr} {xs : List (NestedKey × Addr × Value)} {es : Array DictEntry} {is : List Int} (D : DkAt X h a xs es) (hi : IntsK xs is) : ∀ (i : Nat) (v : Value), (∃ hi : i < es.size, v = es[i].val) → ∃ t, v = Value.int (is.getD i 0) t := fun i v ⟨h1, e⟩ => by
  obtain ⟨y, hy, _, ev⟩ := D.key i h1
  obtain ⟨t, et⟩ := hi.2 i y hy
  exact ⟨t, by rw [e, ev, et]⟩
/-- sum(d.values()) -/
theorem pe_sumVals {o : Expr} {p pos apos mpos : Pos} {td : TE} (hc : X.calm = true) (hg : Gl X "sum") (hm : X.mg "sum" = none) (hd : PE X o td) (hbase : attributeBase o "values" X.env (eval o X.env) = eval o X.env := by rfl) (hline : (apos.endLine == mpos.line) = true := by rfl)
    (hse : starEach [Expr.Call (.Attribute o "values" apos) [] [] mpos] X.env = [(false, eval (Expr.Call (.Attribute o "values" apos) [] [] mpos) X.env)] := by rfl) :
    PE X (.Call (.Name "sum" p) [.Call (.Attribute o "values" apos) [] [] mpos] [] pos) (fun σ H Q => td σ H fun x H1 => ∃ a xs, x = .ref a ∧ DTk H1 a xs ∧ ∃ is, IntsK xs is ∧ Q (.int is.sum) H1) := by
  refine ⟨fun pins s σ H Q I h => ?_⟩
  refine wpAny_Call_Name_kw (ld_blt I hg hm (u := .builtin "sum") (by first | rfl | decide +kernel) ?_ (by first | decide +kernel | decide) (by first | decide +kernel | decide))
  rw [hse]
  refine PySem.callWith_builtin1 (run_vals (R := fun _ xs H1 => ∃ is, IntsK xs is ∧ Q (.int is.sum) H1) hd I h (fun a xs es r H1 s2 I2 hv D d ⟨is, hi, q⟩ => ?_) hbase hline)
  have hlt : a < s2.heap.objs.size := let ⟨_, h1, _⟩ := D.raw; Heap.lt_size h1
  have hh : X.A.in1.handled = none := I.ok.hd hc
  refine call_sum_walkAnyS (wpAny_pyIter_values_raw hv D.raw ?_)
  refine ⟨_, _, _, _, _, _, _, fun i => is.getD i 0, rfl, (Walks.rawValues (A := X.A.in1) hh s2.heap.objs.size a (Nat.ne_of_lt hlt) es xs.length).toS, ⟨⟨_, Heap.get?_push_size _ rfl, rfl, rfl⟩, D.raw.at fun o e => Heap.get?_push_of_some _ e⟩, fun b hb => ?_, vals_at D hi, fun s' t' hm' => ?_⟩
  · show b < (s2.heap.push _).objs.size
    rw [Heap.size_push]
    rcases List.mem_cons.mp hb with rfl | hb
    · exact Nat.lt_succ_self _
    · rw [List.mem_singleton.mp hb]
      exact Nat.lt_succ_of_lt hlt
  · rw [Moved.eq_with hm', D.sz, ← hi.1, preSum_getD is is.length (Nat.le_refl _), List.take_length]
    exact ⟨.int _, H1, I2.kept (t' := s'.toks) fun b u e => hm'.heap b u (fun hmem => Nat.ne_of_lt (Heap.lt_size e) (List.mem_singleton.mp hmem)) (Heap.get?_push_of_some _ e), ⟨t', rfl⟩, q⟩
def sumKE (f : Ev) : Ev := fun e M => (f e M).bind fun x M1 => match x with
  | .h i => match M1[i]? with
    | some (.dct kvs) => match intsOf (kvs.map (·.2)) with
      | some ns => .ok (.d (.int ns.sum)) M1
      | none => .st
    | _ => .st
  | _ => .st
theorem de_sumK {o : Expr} {f : Ev} {p pos apos mpos : Pos} (hc : X.calm = true) (hg : Gl X "sum") (hm : X.mg "sum" = none) (hd : DE X W o f) (hbase : attributeBase o "values" X.env (eval o X.env) = eval o X.env := by rfl) (hline : (apos.endLine == mpos.line) = true := by rfl)
    (hse : starEach [Expr.Call (.Attribute o "values" apos) [] [] mpos] X.env = [(false, eval (Expr.Call (.Attribute o "values" apos) [] [] mpos) X.env)] := by rfl) : DE X W (.Call (.Name "sum" p) [.Call (.Attribute o "values" apos) [] [] mpos] [] pos) (sumKE f) :=
  PEweak (pe_sumVals hc hg hm hd hbase hline hse) fun σ H Q ⟨w, e, M, r, re, p⟩ =>
    ⟨w, e, M, r, re, p.bind fun x M1 w1 v H1 l1 r1 rv p1 => by
      split at p1
      · split at p1
        · rename_i kvs hm
          split at p1
          · rename_i ns hq
            obtain ⟨pa, ea, rfl⟩ := rv
            obtain ⟨hF, xs, dt, dc⟩ := r1.dct ea hm
            exact ⟨pa, xs, rfl, dt, ns, dc.ints hq, p1.at r1 (.int _)⟩
          · exact p1.elim
        · exact p1.elim
      · exact p1.elim⟩
end
end DL
namespace DL
open PySem PySem.Spec L2
namespace U
noncomputable def g_states_many : Sv := (retS (op2 mulV (callE factV (consA (getV 0) nilA)) (callF 2 N.m_spreads_many (consA (getV 1) (consA (getV 0) nilA)))))
noncomputable def m_states_many : Fn := defM 2 0 g_states_many
noncomputable def g_with_next_seat : Sv := (seqS (setS 4 knewE) (seqS (forKS (getV 0) (tupT 2 (consT (tupT 2 (consT (setT 5) (consT (setT 6) nilT))) (consT (setT 7) nilT))) (forS (rngI1 (op2 addV (op2 subV (getV 2) (getV 5)) (cst (.d (.int 1))))) (setT 8) (seqS (setS 9 (op2 subV (op2 subV (op2 addV (getV 5) (getV 8)) (getV 1)) (cst (.d (.int 1))))) (ifS (andT (opT geV (getV 9) (cst (.d (.int 0)))) (opT leV (op2 addV (getV 6) (getV 9)) (getV 3))) (seqS (setS 10 (tupE (consA (op2 addV (getV 5) (getV 8)) (consA (op2 addV (getV 6) (getV 9)) nilA)))) (asgS (op2 addV (kgetE (getV 4) (getV 10) (cst (.d (.int 0)))) (op2 mulV (getV 7) (callE combV (consA (op2 subV (getV 2) (getV 5)) (consA (getV 8) nilA))))) (kputT (getV 4) (getV 10)))) nopS)))) (retS (getV 4))))
noncomputable def m_with_next_seat : Fn := defM 11 1 g_with_next_seat
noncomputable def g_rows_many : Sv := (seqS (setS 2 (kdispE (tupE (consA (cst (.d (.int 0))) (consA (cst (.d (.int 0))) nilA))) (cst (.d (.int 1))))) (seqS (forS (rngI1 (getV 0)) (setT 3) (setS 2 (callF 4 U.m_with_next_seat (consA (getV 2) (consA (getV 3) (consA (getV 0) (consA (getV 1) nilA))))))) (retS (sumKE (getV 2)))))
noncomputable def m_rows_many : Fn := defM 4 0 g_rows_many
noncomputable def g_lots_many : Sv := (retS (op2 mulV (getV 0) (callF 2 U.m_rows_many (consA (op2 subV (getV 0) (cst (.d (.int 1)))) (consA (getV 1) nilA)))))
noncomputable def m_lots_many : Fn := defM 2 0 g_lots_many
end U
end DL
namespace DL.K26
open PySem PySem.Spec L2 DL
structure Gs (mg : Str → Option Value) : Prop where
  b_len : mg "len" = none
  b_sum : mg "sum" = none
  b_sorted : mg "sorted" = none
  b_enumerate : mg "enumerate" = none
  b_range : mg "range" = none
  b_abs : mg "abs" = none
  b_int : mg "int" = none
  b_list : mg "list" = none
  b_tuple : mg "tuple" = none
  m_comb : mg "comb" = some (.builtin "math.comb")
  m_factorial : mg "factorial" = some (.builtin "math.factorial")
theorem sc_spreads_many : FnScope ["rounds", "people"] ["rounds", "people"] (defScope s_spreads_many) := ⟨rfl, rfl, rfl, by decide +kernel, rfl, by decide +kernel, by decide +kernel⟩
theorem sc_rounds_of : FnScope ["marks", "coins", "size", "over"] ["marks", "coins"] (defScope s_rounds_of) := ⟨rfl, rfl, rfl, by decide +kernel, rfl, by decide +kernel, by decide +kernel⟩
theorem sc_up_to_rounds : FnScope ["marks", "rounds", "found", "index", "mark"] ["marks", "rounds"] (defScope s_up_to_rounds) := ⟨rfl, rfl, rfl, by decide +kernel, rfl, by decide +kernel, by decide +kernel⟩
theorem sc_many_with : FnScope ["residues", "total", "rounds"] ["residues", "total"] (defScope s_many_with) := ⟨rfl, rfl, rfl, by decide +kernel, rfl, by decide +kernel, by decide +kernel⟩
theorem sc_states_many : FnScope ["size", "total"] ["size", "total"] (defScope s_states_many) := ⟨rfl, rfl, rfl, by decide +kernel, rfl, by decide +kernel, by decide +kernel⟩
theorem sc_with_next_seat : FnScope ["ways", "seat", "people", "coins", "found", "before", "needed", "many", "here", "onward", "key"] ["ways", "seat", "people", "coins"] (defScope s_with_next_seat) := ⟨rfl, rfl, rfl, by decide +kernel, rfl, by decide +kernel, by decide +kernel⟩
theorem sc_rows_many : FnScope ["people", "coins", "ways", "seat"] ["people", "coins"] (defScope s_rows_many) := ⟨rfl, rfl, rfl, by decide +kernel, rfl, by decide +kernel, by decide +kernel⟩
theorem sc_lots_many : FnScope ["size", "total"] ["size", "total"] (defScope s_lots_many) := ⟨rfl, rfl, rfl, by decide +kernel, rfl, by decide +kernel, by decide +kernel⟩
theorem sc_box : FnScope ["_law_script", "_law_k", "_law_cell"] ["_law_script", "_law_k"] (defScope s_box) := ⟨rfl, rfl, rfl, by decide +kernel, rfl, by decide +kernel, by decide +kernel⟩
theorem sc_take : FnScope ["_law_box_here", "_law_span", "_law_found", "_law_once"] ["_law_box_here", "_law_span"] (defScope s_take) := ⟨rfl, rfl, rfl, by decide +kernel, rfl, by decide +kernel, by decide +kernel⟩
theorem sc_cells : FnScope ["_law_script", "_law_most", "_law_cells_here", "_law_k", "_law_cell"] ["_law_script", "_law_most"] (defScope s_cells) := ⟨rfl, rfl, rfl, by decide +kernel, rfl, by decide +kernel, by decide +kernel⟩
theorem sc_of : FnScope ["_law_box_here", "_law_some"] ["_law_box_here", "_law_some"] (defScope s_of) := ⟨rfl, rfl, rfl, by decide +kernel, rfl, by decide +kernel, by decide +kernel⟩
theorem sc_strewn : FnScope ["_law_box_here", "_law_some", "_law_left", "_law_found"] ["_law_box_here", "_law_some"] (defScope s_strewn) := ⟨rfl, rfl, rfl, by decide +kernel, rfl, by decide +kernel, by decide +kernel⟩
theorem sc_l_residues : FnScope ["_law_count", "_law_found", "_law_who", "_law_longer", "_law_begun", "_law_its"] ["_law_count"] (defScope s_l_residues) := ⟨rfl, rfl, rfl, by decide +kernel, rfl, by decide +kernel, by decide +kernel⟩
noncomputable def g_l_residues : Sv := (seqS (setS 1 (datE (dispE (consA (tupE nilA) nilA)))) (seqS (forS (rngI1 (getV 0)) (setT 2) (seqS (setS 3 (datE (dispE nilA))) (seqS (forS (seqI (getV 1)) (setT 4) (setS 3 (datE (catE (getV 3) (datE (lcE [5] (rngI1 (getV 0)) (setT 5) (fun _ M => .ok true M) (op2 addAV (getV 4) (tupE (consA (getV 5) nilA))))))))) (setS 1 (getV 3))))) (retS (getV 1))))
noncomputable def m_l_residues : Fn := defM 6 0 g_l_residues
theorem sc_right : FnScope ["_law_box_here", "_law_count", "_law_coins", "_law_sizes", "_law_wide", "_law_those", "_law_least", "_law_many_due", "_law_many", "_law_who"] ["_law_box_here"] (defScope s_right) := ⟨rfl, rfl, rfl, by decide +kernel, rfl, by decide +kernel, by decide +kernel⟩
noncomputable def g_right : Sv := (seqS (setS 1 (op2 addV (cst (.d (.int 2))) (callF 2 (C.m_take 10) (consA (getV 0) (consA (cst (.d (.int 3))) nilA))))) (seqS (setS 2 (callF 2 (C.m_take 10) (consA (getV 0) (consA (callF 2 C.m_of (consA (getV 0) (consA (datE (dispE (consA (cst (.d (.int 4))) (consA (cst (.d (.int 12))) (consA (op2 powV (cst (.d (.int 10))) (cst (.d (.int 40)))) nilA))))) nilA))) nilA)))) (seqS (setS 3 (datE (lcE [5] (seqI (callF 1 m_l_residues (consA (getV 1) nilA))) (setT 5) (fun _ M => .ok true M) (callF 2 C.m_many_with (consA (getV 5) (consA (getV 2) nilA)))))) (seqS (ifS (orT (opT neV (callE sumTV (consA (getV 3) nilA)) (callF 2 U.m_states_many (consA (getV 1) (consA (getV 2) nilA)))) (opT neV (callE lenV (consA (datE (lcE [8] (seqI (getV 3)) (setT 8) (opT gtV (getV 8) (cst (.d (.int 0)))) (getV 8))) nilA)) (callF 2 U.m_lots_many (consA (getV 1) (consA (getV 2) nilA))))) (retS (cst (.d (.bool false)))) nopS) (seqS (setS 4 (op2 addV (cst (.d (.int 2))) (callF 2 (C.m_take 10) (consA (getV 0) (consA (cst (.d (.int 11))) nilA))))) (seqS (setS 5 (callE tupleV (consA (datE (lcE [9] (rngI1 (getV 4)) (setT 9) (fun _ M => .ok true M) (callF 2 (C.m_take 10) (consA (getV 0) (consA (getV 4) nilA))))) nilA))) (seqS (setS 6 (op2 modV (op2 subV (callE sumTV (consA (getV 5) nilA)) (op2 fdivV (op2 mulV (getV 4) (op2 subV (getV 4) (cst (.d (.int 1))))) (cst (.d (.int 2))))) (getV 4))) (seqS (setS 2 (op2 addV (getV 6) (op2 mulV (getV 4) (callF 2 (C.m_take 10) (consA (getV 0) (consA (callF 2 C.m_of (consA (getV 0) (consA (datE (dispE (consA (cst (.d (.int 4))) (consA (cst (.d (.int 15))) (consA (op2 powV (cst (.d (.int 10))) (cst (.d (.int 38)))) nilA))))) nilA))) nilA)))))) (seqS (setS 7 (callF 2 C.m_many_with (consA (getV 5) (consA (getV 2) nilA)))) (seqS (ifS (orT (opT neV (callF 2 C.m_many_with (consA (callE tupleV (consA (callF 2 C.m_strewn (consA (getV 0) (consA (getV 5) nilA))) nilA)) (consA (getV 2) nilA))) (getV 7)) (opT ltV (callF 2 C.m_many_with (consA (getV 5) (consA (op2 addV (getV 2) (getV 4)) nilA))) (getV 7))) (retS (cst (.d (.bool false)))) nopS) (retS (andE (op2 eqV (callF 2 C.m_many_with (consA (getV 5) (consA (op2 addV (op2 addV (getV 2) (cst (.d (.int 1)))) (callF 2 (C.m_take 10) (consA (getV 0) (consA (op2 subV (getV 4) (cst (.d (.int 1)))) nilA)))) nilA))) (cst (.d (.int 0)))) (op2 gtV (callF 2 C.m_many_with (consA (getV 5) (consA (op2 addV (getV 2) (op2 mulV (getV 4) (getV 4))) nilA))) (cst (.d (.int 0))))))))))))))))
noncomputable def m_right : Fn := defM 10 0 g_right
theorem sc_law : FnScope ["_law_script", "_law_cells_here", "_law_k", "_law_box_here"] ["_law_script"] (defScope s_law) := ⟨rfl, rfl, rfl, by decide +kernel, rfl, by decide +kernel, by decide +kernel⟩
noncomputable def g_law : Sv := (seqS (setS 1 (callF 2 C.m_cells (consA (getV 0) (consA (cst (.d (.int 3))) nilA)))) (seqS (forS (rngI1 (callE lenV (consA (getV 1) nilA))) (setT 2) (seqS (setS 3 (callF 2 C.m_box (consA (getV 1) (consA (getV 2) nilA)))) (ifS (notT (tstE (callF 1 m_right (consA (getV 3) nilA)))) (retS (cst (.d (.bool false)))) nopS))) (retS (cst (.d (.bool true))))))
noncomputable def m_law : Fn := defM 4 0 g_law
end DL.K26
namespace NM
/-- the chosen seats -/
def chs : List (Option Int) → List Int
  | [] => []
  | none :: q => chs q
  | some s :: q => s :: chs q
/-- the marks of those whose seats are open -/
def openM : List Int → List (Option Int) → List Int
  | m :: ms, none :: q => m :: openM ms q
  | _ :: ms, some _ :: q => openM ms q
  | _, _ => []
def wrO : List Int → List (Option Int) → Int
  | m :: ms, some s :: q => (if m < s then 1 else 0) + wrO ms q
  | _ :: ms, none :: q => wrO ms q
  | _, _ => 0
/-- how many states have the chosen seats; k share Rw rounds -/
def Nw (n : Nat) (ms : List Int) (Rw : Int) (k : Nat) (q : List (Option Int)) : Int := T k (Rw - wrO ms q) (sw (isort (openM ms q)) (freeI n (chs q)))
theorem openM_set : ∀ {ms : List Int} {q : List (Option Int)} {p : Nat} {m : Int} (s : Int), ms[p]? = some m → q[p]? = some none → (openM ms q).Perm (m :: openM ms (q.set p (some s)))
  | [], _, _, _, _, h, _ => by simp at h
  | _ :: _, [], _, _, _, _, h => by simp at h
  | x :: ms, y :: q, 0, m, s, h1, h2 => by
    have e1 : x = m := by simpa using h1
    have e2 : y = none := by simpa using h2
    subst e1 e2
    exact .refl _
  | x :: ms, y :: q, p + 1, m, s, h1, h2 => by
    have ih := openM_set (ms := ms) (q := q) (p := p) s (by simpa using h1) (by simpa using h2)
    cases y with
    | none => exact (ih.cons x).trans (.swap m x _)
    | some y => exact ih
theorem wrO_set : ∀ {ms : List Int} {q : List (Option Int)} {p : Nat} {m : Int} (s : Int), ms[p]? = some m → q[p]? = some none → wrO ms (q.set p (some s)) = wrO ms q + if m < s then 1 else 0
  | [], _, _, _, _, h, _ => by simp at h
  | _ :: _, [], _, _, _, _, h => by simp at h
  | x :: ms, y :: q, 0, m, s, h1, h2 => by
    have e1 : x = m := by simpa using h1
    have e2 : y = none := by simpa using h2
    subst e1 e2
    show (if x < s then 1 else 0) + wrO ms q = wrO ms q + _
    omega
  | x :: ms, y :: q, p + 1, m, s, h1, h2 => by
    have ih := wrO_set (ms := ms) (q := q) (p := p) s (by simpa using h1) (by simpa using h2)
    cases y with
    | none => exact ih
    | some y =>
      show _ + wrO ms (q.set p (some s)) = _ + wrO ms q + _
      rw [ih]; omega
theorem chs_set : ∀ {q : List (Option Int)} {p : Nat} (s : Int), q[p]? = some none → (chs (q.set p (some s))).Perm (s :: chs q)
  | [], _, _, h => by simp at h
  | y :: q, 0, s, h => by
    have e : y = none := by simpa using h
    subst e
    exact .refl _
  | y :: q, p + 1, s, h => by
    have ih := chs_set (q := q) (p := p) s (by simpa using h)
    cases y with
    | none => exact ih
    | some y => exact (ih.cons y).trans (.swap s y _)
theorem mem_chs : ∀ {q : List (Option Int)} {s : Int}, s ∈ chs q ↔ some s ∈ q
  | [], _ => by simp [chs]
  | none :: q, s => by simp [chs, mem_chs (q := q)]
  | some y :: q, s => by
    simp only [chs, List.mem_cons, mem_chs (q := q), Option.some.injEq]
theorem open_len : ∀ {ms : List Int} {q : List (Option Int)}, ms.length = q.length → (openM ms q).length + (chs q).length = q.length
  | [], [], _ => rfl
  | m :: ms, none :: q, h => by
    have := open_len (ms := ms) (q := q) (by simpa using h)
    simp only [openM, chs, List.length_cons]; omega
  | m :: ms, some s :: q, h => by
    have := open_len (ms := ms) (q := q) (by simpa using h)
    simp only [openM, chs, List.length_cons]; omega
  | [], _ :: _, h => by simp at h
  | _ :: _, [], h => by simp at h
theorem openM_mem : ∀ {ms : List Int} {q : List (Option Int)} {x : Int}, x ∈ openM ms q → x ∈ ms
  | [], _, _, h => by simp [openM] at h
  | _ :: _, [], _, h => by simp [openM] at h
  | m :: ms, none :: q, x, h => by
    rcases List.mem_cons.mp h with rfl | h
    · exact List.mem_cons_self
    · exact List.mem_cons_of_mem _ (openM_mem h)
  | m :: ms, some s :: q, x, h => List.mem_cons_of_mem _ (openM_mem (q := q) h)
theorem freeI_perm {n : Nat} {p p' : List Int} (h : p.Perm p') : freeI n p = freeI n p' := by
  unfold freeI
  refine List.filter_congr fun x _ => ?_
  congr 1
  rw [Bool.eq_iff_iff]
  simp [h.mem_iff]
theorem freeI_cons (n : Nat) (p : List Int) (s : Int) : freeI n (s :: p) = wo (freeI n p) s := by
  rw [← freeI_snoc]
  exact freeI_perm (List.perm_append_singleton s p).symm
/-- as many seats as people, none twice -/
structure PreO (n : Nat) (q : List (Option Int)) : Prop where
  len : q.length = n
  pre : Pre n (chs q)
theorem Pre.perm {n : Nat} {p p' : List Int} (h : Pre n p) (e : p'.Perm p) : Pre n p' := ⟨e.nodup_iff.mpr h.nd, fun s hs => h.rg s (e.mem_iff.mp hs)⟩
theorem Pre.cons {n : Nat} {p : List Int} (h : Pre n p) {s : Int} (hs : s ∈ freeI n p) : Pre n (s :: p) := by
  obtain ⟨h1, h2⟩ := mem_freeI.mp hs
  refine ⟨List.nodup_cons.mpr ⟨h2, h.nd⟩, fun x hx => ?_⟩
  rcases List.mem_cons.mp hx with rfl | hx
  · exact h1
  · exact h.rg x hx
theorem PreO.set {n : Nat} {q : List (Option Int)} (h : PreO n q) {p : Nat} (hp : q[p]? = some none) {s : Int} (hs : s ∈ freeI n (chs q)) : PreO n (q.set p (some s)) :=
  ⟨by rw [List.length_set]; exact h.len, (h.pre.cons hs).perm (chs_set s hp)⟩
theorem Nw_sum {n : Nat} {ms : List Int} (hl : ms.length = n) (hm : ∀ m ∈ ms, 0 ≤ m) (Rw : Int) (k : Nat) {q : List (Option Int)} (h : PreO n q) {p : Nat} (hp : q[p]? = some none) : sumOver (freeI n (chs q)) (fun s => Nw n ms Rw k (q.set p (some s))) = Nw n ms Rw k q := by
  have hpl : p < q.length := (List.getElem?_eq_some_iff.mp hp).1
  obtain ⟨m, e⟩ : ∃ m, ms[p]? = some m := ⟨_, List.getElem?_eq_getElem (by rw [hl, ← h.len]; exact hpl)⟩
  have h1 := freeI_len h.pre
  have h2 := open_len (ms := ms) (q := q) (by rw [hl, h.len])
  have hM : ∀ s, openM ms (q.set p (some s)) = openM ms (q.set p (some 0)) := by
    intro s
    have : ∀ (ms : List Int) (q : List (Option Int)) (p : Nat), openM ms (q.set p (some s)) = openM ms (q.set p (some 0)) := by
      intro ms
      induction ms with
      | nil => intro q p; cases q <;> cases p <;> rfl
      | cons m ms ih =>
        intro q p
        cases q with
        | nil => rfl
        | cons y q =>
          cases p with
          | zero => rfl
          | succ p =>
            cases y with
            | none => show m :: openM ms (q.set p _) = m :: _; rw [ih]
            | some y => exact ih q p
    exact this ms q p
  generalize hMe : openM ms (q.set p (some 0)) = M at hM
  have hperm : (openM ms q).Perm (m :: M) := by rw [← hMe]; exact openM_set 0 e hp
  have hk := one_more (A := freeI n (chs q)) (freeI_nodup n _) (lo := -1) (fun a ha => by have := (mem_freeI.mp ha).1; omega) (m := m) (M := isort M) (isort_asc _) (fun x hx => by
    have hx' : x ∈ openM ms q := hperm.mem_iff.mpr (List.mem_cons_of_mem _ ((isort_perm _).subset hx))
    have := hm x (openM_mem hx'); omega) (by
    have := hperm.length_eq
    rw [List.length_cons] at this
    rw [isort_len]
    have := h.len
    omega) k (Rw - wrO ms q)
  have e2 : Nw n ms Rw k q = T k (Rw - wrO ms q) (sw (ins m (isort M)) (freeI n (chs q))) := by
    unfold Nw
    congr 2
    exact asc_uniq (isort_asc _) (ins_asc m (isort_asc _)) ((isort_perm _).trans (hperm.trans (((ins_perm m _).trans ((isort_perm M).cons m)).symm)))
  rw [e2, ← hk]
  refine sumOver_congr fun s hs => ?_
  unfold Nw
  rw [wrO_set s e hp, hM, freeI_perm (chs_set s hp), freeI_cons]
  congr 1
  omega
/-- all seats are chosen -/
def fullS (ss : List Int) : List (Option Int) := ss.map some
theorem chs_full : ∀ ss : List Int, chs (fullS ss) = ss
  | [] => rfl
  | s :: ss => by show s :: chs (fullS ss) = _; rw [chs_full ss]
theorem openM_full : ∀ (ms ss : List Int), openM ms (fullS ss) = []
  | [], ss => by cases ss <;> rfl
  | _ :: _, [] => rfl
  | m :: ms, s :: ss => openM_full ms ss
theorem wrO_full : ∀ (ms ss : List Int), wrO ms (fullS ss) = wr ms ss
  | [], ss => by cases ss <;> rfl
  | _ :: _, [] => rfl
  | m :: ms, s :: ss => by show _ + wrO ms (fullS ss) = _ + wr ms ss; rw [wrO_full ms ss]
theorem Nw_full {n : Nat} {ms ss : List Int} (Rw : Int) (k : Nat) (hs : Pre n ss) (hl : ss.length = n) : Nw n ms Rw k (fullS ss) = sp k (Rw - wr ms ss) := by
  have h1 := freeI_len hs
  have h2 : freeI n ss = [] := List.length_eq_zero_iff.mp (by omega)
  unfold Nw
  rw [chs_full, h2, openM_full, wrO_full]
  show 1 * sp k _ + 0 = _
  omega
/-- how many seats are open -/
def opn (q : List (Option Int)) : Nat := (q.filter (·.isNone)).length
theorem opn_set : ∀ {q : List (Option Int)} {p : Nat} (s : Int), q[p]? = some none → opn (q.set p (some s)) + 1 = opn q
  | [], _, _, h => by simp at h
  | y :: q, 0, s, h => by
    have e : y = none := by simpa using h
    subst e
    simp [opn]
  | y :: q, p + 1, s, h => by
    have ih := opn_set (q := q) (p := p) s (by simpa using h)
    unfold opn at ih ⊢
    cases y with
    | none => simp only [List.set_cons_succ, List.filter_cons, Option.isNone_none, if_true, List.length_cons]; omega
    | some y => simpa [List.filter_cons] using ih
theorem opn_zero : ∀ {q : List (Option Int)}, opn q = 0 → ∃ ss, q = fullS ss
  | [], _ => ⟨[], rfl⟩
  | none :: q, h => by simp [opn] at h
  | some s :: q, h => by
    obtain ⟨ss, e⟩ := opn_zero (q := q) (by simpa [opn, List.filter_cons] using h)
    exact ⟨s :: ss, by rw [e]; rfl⟩
theorem opn_pos : ∀ {q : List (Option Int)}, opn q ≠ 0 → ∃ p : Nat, q[p]? = some none
  | [], h => absurd rfl h
  | none :: q, _ => ⟨0, rfl⟩
  | some s :: q, h => by
    obtain ⟨p, e⟩ := opn_pos (q := q) (by simpa [opn, List.filter_cons] using h)
    exact ⟨p + 1, by simpa using e⟩
theorem Nw_nonneg {n : Nat} {ms : List Int} (hl : ms.length = n) (hm : ∀ m ∈ ms, 0 ≤ m) (Rw : Int) (k : Nat) : ∀ (d : Nat) {q : List (Option Int)}, PreO n q → opn q = d → 0 ≤ Nw n ms Rw k q
  | 0, q, h, e => by
    obtain ⟨ss, rfl⟩ := opn_zero e
    have hp := h.pre
    rw [chs_full] at hp
    rw [Nw_full Rw k hp (by have := h.len; unfold fullS at this; simpa using this)]
    exact sp_nonneg _ _
  | d + 1, q, h, e => by
    obtain ⟨p, hp⟩ := opn_pos (q := q) (by omega)
    rw [← Nw_sum hl hm Rw k h hp]
    exact sumOver_nonneg fun s hs => Nw_nonneg hl hm Rw k d (h.set hp hs) (by have := opn_set s hp; omega)
end NM
namespace NM
section
variable {n : Nat} {ms : List Int} {Rw : Int} {k : Nat}
/-- the seats ss go on where q leaves off -/
structure Ext (q : List (Option Int)) (ss : List Int) : Prop where
  len : ss.length = q.length
  at_ : ∀ (p : Nat) (s : Int), q[p]? = some (some s) → ss[p]? = some s
theorem Ext.set {q : List (Option Int)} {ss : List Int} (h : Ext q ss) {p : Nat} {s : Int} (hs : ss[p]? = some s) : Ext (q.set p (some s)) ss := by
  refine ⟨by rw [List.length_set]; exact h.len, fun j t e => ?_⟩
  by_cases hj : p = j
  · subst hj
    have hp : p < q.length := by rw [← h.len]; exact (List.getElem?_eq_some_iff.mp hs).1
    rw [List.getElem?_set_self hp] at e
    have : s = t := by simpa using e
    rw [← this]; exact hs
  · rw [List.getElem?_set_ne hj] at e
    exact h.at_ j t e
theorem Ext.full {q : List (Option Int)} {ss : List Int} (h : Ext q ss) (ha : ∀ p : Nat, p < q.length → q[p]? ≠ some none) : q = fullS ss := by
  apply List.ext_getElem?
  intro j
  unfold fullS
  rw [List.getElem?_map]
  by_cases hj : j < q.length
  · cases e : q[j]? with
    | none => rw [List.getElem?_eq_none_iff] at e; omega
    | some y =>
      cases y with
      | none => exact absurd e (ha j hj)
      | some s => rw [h.at_ j s e]; rfl
  · rw [List.getElem?_eq_none (by omega), List.getElem?_eq_none (by rw [h.len]; omega)]; rfl
theorem Ext.free {q : List (Option Int)} {ss : List Int} (h : Ext q ss) (hs : Pre n ss) {p : Nat} {s : Int} (hp : q[p]? = some none) (e : ss[p]? = some s) : s ∈ freeI n (chs q) := by
  refine mem_freeI.mpr ⟨hs.rg s (List.mem_of_getElem? e), fun hc => ?_⟩
  obtain ⟨j, hj⟩ := List.getElem?_of_mem (mem_chs.mp hc)
  have h1 := h.at_ j s hj
  have hne : j ≠ p := fun z => by rw [z, hp] at hj; cases hj
  obtain ⟨a1, a2⟩ := List.getElem?_eq_some_iff.mp h1
  obtain ⟨b1, b2⟩ := List.getElem?_eq_some_iff.mp e
  exact hne ((List.getElem_inj hs.nd).mp (a2.trans b2.symm))
def lowW (n : Nat) (ms : List Int) (Rw : Int) (k : Nat) (q : List (Option Int)) (p : Nat) (s : Int) : Int := sumOver ((freeI n (chs q)).filter fun t => decide (t < s)) (fun t => Nw n ms Rw k (q.set p (some t)))
def rkW (n : Nat) (ms : List Int) (Rw : Int) (k : Nat) (ss : List Int) : Nat → Nat → List (Option Int) → Int
  | 0, _, _ => 0
  | d + 1, p, q => match q[p]? with
    | some none => lowW n ms Rw k q p (ss.getD p 0) + rkW n ms Rw k ss d (p + 1) (q.set p (some (ss.getD p 0)))
    | _ => rkW n ms Rw k ss d (p + 1) q
inductive WAt (n : Nat) (ms : List Int) (Rw : Int) (k : Nat) : Nat → List (Option Int) → Int → List (Option Int) → Int → Prop
  | done {p : Nat} {q : List (Option Int)} {b : Int} : p = n → WAt n ms Rw k p q b q b
  | skip {p : Nat} {q q' : List (Option Int)} {b r s : Int} : p < n → q[p]? = some (some s) → WAt n ms Rw k (p + 1) q b q' r → WAt n ms Rw k p q b q' r
  | pick {p : Nat} {q q' : List (Option Int)} {b r s : Int} : p < n → q[p]? = some none → s ∈ freeI n (chs q) → lowW n ms Rw k q p s ≤ b → b < lowW n ms Rw k q p s + Nw n ms Rw k (q.set p (some s)) → WAt n ms Rw k (p + 1) (q.set p (some s)) (b - lowW n ms Rw k q p s) q' r → WAt n ms Rw k p q b q' r
variable (hl : ms.length = n) (hm : ∀ m ∈ ms, 0 ≤ m)
include hl hm
theorem nn_w {q : List (Option Int)} (h : PreO n q) {p : Nat} (hp : q[p]? = some none) : ∀ t ∈ freeI n (chs q), 0 ≤ Nw n ms Rw k (q.set p (some t)) := fun t ht => Nw_nonneg hl hm Rw k _ (h.set hp ht) rfl
theorem lowW_le {q : List (Option Int)} (h : PreO n q) {p : Nat} (hp : q[p]? = some none) {s t : Int} (hs : s ∈ freeI n (chs q)) (ht : s < t) : lowW n ms Rw k q p s + Nw n ms Rw k (q.set p (some s)) ≤ lowW n ms Rw k q p t := by
  unfold lowW
  have hn := (freeI_nodup n (chs q)).sublist (List.filter_sublist (p := fun x => decide (x < t)))
  have e := split_at (f := fun t => Nw n ms Rw k (q.set p (some t))) hn (s := s) (by simp [hs, ht])
  rw [e, List.filter_filter, List.filter_filter]
  have e1 : (freeI n (chs q)).filter (fun a => decide (a < s) && decide (a < t)) = (freeI n (chs q)).filter fun a => decide (a < s) := by
    refine List.filter_congr fun x _ => ?_
    by_cases l : x < s
    · have : x < t := by omega
      simp [l, this]
    · simp [l]
  rw [e1]
  have := sumOver_nonneg (A := (freeI n (chs q)).filter fun a => decide (s < a) && decide (a < t)) (f := fun t => Nw n ms Rw k (q.set p (some t))) fun x hx => nn_w hl hm h hp x (List.mem_filter.mp hx).1
  omega
theorem lowW_nonneg {q : List (Option Int)} (h : PreO n q) {p : Nat} (hp : q[p]? = some none) (s : Int) : 0 ≤ lowW n ms Rw k q p s := sumOver_nonneg fun x hx => nn_w hl hm h hp x (List.mem_filter.mp hx).1
theorem lowW_top {q : List (Option Int)} (h : PreO n q) {p : Nat} (hp : q[p]? = some none) {s : Int} (hs : s ∈ freeI n (chs q)) : lowW n ms Rw k q p s + Nw n ms Rw k (q.set p (some s)) ≤ Nw n ms Rw k q := by
  rw [← Nw_sum hl hm Rw k h hp]
  unfold lowW
  rw [split_at (f := fun t => Nw n ms Rw k (q.set p (some t))) (freeI_nodup n _) hs]
  have := sumOver_nonneg (A := (freeI n (chs q)).filter fun a => decide (s < a)) (f := fun t => Nw n ms Rw k (q.set p (some t))) fun x hx => nn_w hl hm h hp x (List.mem_filter.mp hx).1
  omega
omit hl hm in
theorem getD_at {ss : List Int} {p : Nat} {s : Int} (h : ss[p]? = some s) : ss.getD p 0 = s := by rw [List.getD_eq_getElem?_getD, h]; rfl
omit hm in
theorem get_n {q : List (Option Int)} (h : PreO n q) {p : Nat} (hp : p < n) : (∃ s, q[p]? = some (some s)) ∨ q[p]? = some none := by
  have : p < q.length := by rw [h.len]; exact hp
  cases e : q[p] with
  | none => exact .inr (by rw [List.getElem?_eq_getElem this, e])
  | some s => exact .inl ⟨s, by rw [List.getElem?_eq_getElem this, e]⟩
omit hm in
theorem set_done {q : List (Option Int)} {p : Nat} (s : Int) (hd : ∀ j, j < p → q[j]? ≠ some none) : ∀ j, j < p + 1 → (q.set p (some s))[j]? ≠ some none := fun j hj e => by
  by_cases c : p = j
  · subst c
    by_cases hp : p < q.length
    · rw [List.getElem?_set_self hp] at e; cases e
    · rw [List.getElem?_eq_none (by simp; omega)] at e; cases e
  · rw [List.getElem?_set_ne c] at e
    exact hd j (by omega) e
omit hl hm in
theorem rkW_skip {ss : List Int} {d p : Nat} {q : List (Option Int)} {s : Int} (hs : q[p]? = some (some s)) : rkW n ms Rw k ss (d + 1) p q = rkW n ms Rw k ss d (p + 1) q := by
  rw [rkW, hs]
omit hl hm in
theorem rkW_pick {ss : List Int} {d p : Nat} {q : List (Option Int)} {c : Int} (hs : q[p]? = some none) (hc : ss[p]? = some c) : rkW n ms Rw k ss (d + 1) p q = lowW n ms Rw k q p c + rkW n ms Rw k ss d (p + 1) (q.set p (some c)) := by
  rw [rkW, hs]
  show lowW n ms Rw k q p (ss.getD p 0) + rkW n ms Rw k ss d (p + 1) (q.set p (some (ss.getD p 0))) = _
  rw [getD_at hc]
theorem WAt.spec {p : Nat} {q q' : List (Option Int)} {b r : Int} (w : WAt n ms Rw k p q b q' r) : PreO n q → p ≤ n → (∀ j, j < p → q[j]? ≠ some none) → 0 ≤ b → b < Nw n ms Rw k q → ∃ ss, q' = fullS ss ∧ Pre n ss ∧ Ext q ss ∧ b = rkW n ms Rw k ss (n - p) p q + r ∧ 0 ≤ r ∧ r < Nw n ms Rw k (fullS ss) := by
  induction w with
  | done e =>
    rename_i p q b
    intro h hp hd h0 h1
    have hq : ∃ ss, q = fullS ss := by
      have : opn q = 0 := by
        apply Classical.byContradiction
        intro c
        obtain ⟨j, hj⟩ := opn_pos c
        have : j < q.length := (List.getElem?_eq_some_iff.mp hj).1
        exact hd j (by rw [h.len] at this; omega) hj
      exact opn_zero this
    obtain ⟨ss, rfl⟩ := hq
    have hpre := h.pre
    rw [chs_full] at hpre
    refine ⟨ss, rfl, hpre, ⟨by simp [fullS], fun j s hj => ?_⟩, ?_, h0, h1⟩
    · unfold fullS at hj
      rw [List.getElem?_map] at hj
      cases e : ss[j]? with
      | none => rw [e] at hj; cases hj
      | some t => rw [e] at hj; have : t = s := by simpa using hj
                  rw [this]
    · rw [e, Nat.sub_self]
      show b = 0 + b
      omega
  | skip hp hs t ih =>
    rename_i p q q' b r s
    intro h _ hd h0 h1
    obtain ⟨ss, a1, a2, a3, a4, a5⟩ := ih h (by omega) (fun j hj => by
      by_cases c : j = p
      · subst c; rw [hs]; simp
      · exact hd j (by omega)) h0 h1
    refine ⟨ss, a1, a2, a3, ?_, a5⟩
    obtain ⟨d, hd'⟩ : ∃ d, n - p = d + 1 := ⟨n - p - 1, by omega⟩
    rw [hd']
    have e : n - (p + 1) = d := by omega
    rw [e] at a4
    show b = (match q[p]? with | some none => _ | _ => _) + r
    rw [hs]
    exact a4
  | pick hp hs hf c1 c2 t ih =>
    rename_i p q q' b r s
    intro h _ hd h0 h1
    obtain ⟨ss, a1, a2, a3, a4, a5⟩ := ih (h.set hs hf) (by omega) (set_done hl s hd) (by omega) (by omega)
    have hpq : p < q.length := (List.getElem?_eq_some_iff.mp hs).1
    have hsp : ss[p]? = some s := a3.at_ p s (List.getElem?_set_self hpq)
    refine ⟨ss, a1, a2, ⟨by have := a3.len; rw [List.length_set] at this; exact this, fun j x hj => ?_⟩, ?_, a5⟩
    · have : p ≠ j := fun z => by rw [← z, hs] at hj; cases hj
      exact a3.at_ j x (by rw [List.getElem?_set_ne this]; exact hj)
    · obtain ⟨d, hd'⟩ : ∃ d, n - p = d + 1 := ⟨n - p - 1, by omega⟩
      rw [hd']
      have e : n - (p + 1) = d := by omega
      rw [e] at a4
      show b = (match q[p]? with | some none => _ | _ => _) + r
      rw [hs]
      show b = lowW n ms Rw k q p (ss.getD p 0) + rkW n ms Rw k ss d (p + 1) (q.set p (some (ss.getD p 0))) + r
      rw [getD_at hsp]
      omega
theorem WAt.ex : ∀ (d : Nat) {p : Nat} {q : List (Option Int)} {b : Int}, PreO n q → p + d = n → 0 ≤ b → b < Nw n ms Rw k q → ∃ q' r, WAt n ms Rw k p q b q' r
  | 0, p, q, b, h, e, _, _ => ⟨q, b, .done (by omega)⟩
  | d + 1, p, q, b, h, e, h0, h1 => by
    rcases get_n hl h (show p < n by omega) with ⟨s, hs⟩ | hs
    · obtain ⟨q', r, t⟩ := WAt.ex d (p := p + 1) h (by omega) h0 h1
      exact ⟨q', r, .skip (by omega) hs t⟩
    · rw [← Nw_sum hl hm Rw k h hs] at h1
      obtain ⟨s, hf, q1, q2⟩ := find_at (asc_freeI n (chs q)) (nn_w hl hm h hs) h0 h1
      have q1 : lowW n ms Rw k q p s ≤ b := q1
      have q2 : b < lowW n ms Rw k q p s + Nw n ms Rw k (q.set p (some s)) := q2
      obtain ⟨q', r, t⟩ := WAt.ex d (p := p + 1) (h.set hs hf) (by omega) (b := b - lowW n ms Rw k q p s) (by omega) (by omega)
      exact ⟨q', r, .pick (by omega) hs hf q1 q2 t⟩
theorem WAt.uniq {p : Nat} {q q1 : List (Option Int)} {b r1 : Int} (w : WAt n ms Rw k p q b q1 r1) : ∀ {q2 : List (Option Int)} {r2 : Int}, PreO n q → WAt n ms Rw k p q b q2 r2 → q1 = q2 ∧ r1 = r2 := by
  induction w with
  | done e =>
    intro q2 r2 h u
    cases u with
    | done _ => exact ⟨rfl, rfl⟩
    | skip hp _ _ => omega
    | pick hp _ _ _ _ _ => omega
  | skip hp hs t ih =>
    intro q2 r2 h u
    cases u with
    | done e => omega
    | skip _ _ u => exact ih h u
    | pick _ hs' _ _ _ _ => rw [hs] at hs'; cases hs'
  | pick hp hs hf c1 c2 t ih =>
    rename_i p q q' b r s
    intro q2 r2 h u
    cases u with
    | done e => omega
    | skip _ hs' _ => rw [hs] at hs'; cases hs'
    | pick _ _ hf' d1 d2 u =>
      rename_i s' _ _
      have : s = s' := by
        by_cases c : s < s'
        · have := lowW_le (Rw := Rw) (k := k) hl hm h hs hf c; omega
        · by_cases d : s' < s
          · have := lowW_le (Rw := Rw) (k := k) hl hm h hs hf' d; omega
          · omega
      subst this
      exact ih (h.set hs hf) u
theorem rkW_bound {ss : List Int} (hss : Pre n ss) : ∀ (d : Nat) {p : Nat} {q : List (Option Int)}, PreO n q → p + d = n → (∀ j, j < p → q[j]? ≠ some none) → Ext q ss → 0 ≤ rkW n ms Rw k ss d p q ∧ rkW n ms Rw k ss d p q + Nw n ms Rw k (fullS ss) ≤ Nw n ms Rw k q
  | 0, p, q, h, e, hd, x => by
    have := x.full (fun j hj => hd j (by have := h.len; omega))
    rw [← this]
    show 0 ≤ (0 : Int) ∧ 0 + _ ≤ _
    omega
  | d + 1, p, q, h, e, hd, x => by
    rcases get_n hl h (show p < n by omega) with ⟨s, hs⟩ | hs
    · have := rkW_bound hss d (p := p + 1) h (by omega) (fun j hj => by
        by_cases c : j = p
        · subst c; rw [hs]; simp
        · exact hd j (by omega)) x
      rw [rkW_skip hs]
      exact this
    · obtain ⟨s, hsp⟩ : ∃ s, ss[p]? = some s := ⟨_, List.getElem?_eq_getElem (by rw [x.len, h.len]; omega)⟩
      have hf := x.free hss hs hsp
      have := rkW_bound hss d (p := p + 1) (h.set hs hf) (by omega) (set_done hl s hd) (x.set hsp)
      have a1 := lowW_nonneg (Rw := Rw) (k := k) hl hm h hs s
      have a2 := lowW_top (Rw := Rw) (k := k) hl hm h hs hf
      rw [rkW_pick hs hsp]
      omega
theorem WAt.of {ss : List Int} (hss : Pre n ss) {r : Int} (h0 : 0 ≤ r) (h1 : r < Nw n ms Rw k (fullS ss)) : ∀ (d : Nat) {p : Nat} {q : List (Option Int)}, PreO n q → p + d = n → (∀ j, j < p → q[j]? ≠ some none) → Ext q ss → WAt n ms Rw k p q (rkW n ms Rw k ss d p q + r) (fullS ss) r
  | 0, p, q, h, e, hd, x => by
    have e2 := x.full (fun j hj => hd j (by have := h.len; omega))
    have e3 : rkW n ms Rw k ss 0 p q + r = r := by show 0 + r = r; omega
    rw [e3, ← e2]
    exact .done (by omega)
  | d + 1, p, q, h, e, hd, x => by
    rcases get_n hl h (show p < n by omega) with ⟨s, hs⟩ | hs
    · have t := WAt.of hss h0 h1 d (p := p + 1) h (by omega) (fun j hj => by
        by_cases c : j = p
        · subst c; rw [hs]; simp
        · exact hd j (by omega)) x
      have e2 : rkW n ms Rw k ss (d + 1) p q = rkW n ms Rw k ss d (p + 1) q := by
        show (match q[p]? with | some none => _ | _ => _) = _
        rw [hs]
      rw [e2]
      exact .skip (by omega) hs t
    · obtain ⟨s, hsp⟩ : ∃ s, ss[p]? = some s := ⟨_, List.getElem?_eq_getElem (by rw [x.len, h.len]; omega)⟩
      have hf := x.free hss hs hsp
      have t := WAt.of hss h0 h1 d (p := p + 1) (h.set hs hf) (by omega) (set_done hl s hd) (x.set hsp)
      have bd := rkW_bound (Rw := Rw) (k := k) hl hm hss d (p := p + 1) (h.set hs hf) (by omega) (set_done hl s hd) (x.set hsp)
      have e2 : rkW n ms Rw k ss (d + 1) p q = lowW n ms Rw k q p s + rkW n ms Rw k ss d (p + 1) (q.set p (some s)) := by
        show (match q[p]? with | some none => lowW n ms Rw k q p (ss.getD p 0) + rkW n ms Rw k ss d (p + 1) (q.set p (some (ss.getD p 0))) | _ => _) = _
        rw [hs]
        show lowW n ms Rw k q p (ss.getD p 0) + rkW n ms Rw k ss d (p + 1) (q.set p (some (ss.getD p 0))) = _
        rw [getD_at hsp]
      rw [e2]
      refine .pick (by omega) hs hf (by omega) (by omega) ?_
      have e3 : lowW n ms Rw k q p s + rkW n ms Rw k ss d (p + 1) (q.set p (some s)) + r - lowW n ms Rw k q p s = rkW n ms Rw k ss d (p + 1) (q.set p (some s)) + r := by omega
      rw [e3]
      exact t
omit hl hm in
theorem Lex.at : ∀ {ss tt : List Int}, Lex ss tt → ∃ (j : Nat) (a b : Int), ss[j]? = some a ∧ tt[j]? = some b ∧ a < b ∧ ∀ i : Nat, i < j → ss[i]? = tt[i]?
  | _, _, .here h => ⟨0, _, _, rfl, rfl, h, fun i hi => by omega⟩
  | _, _, .there t => by
    obtain ⟨j, a, b, h1, h2, h3, h4⟩ := Lex.at t
    refine ⟨j + 1, a, b, by simpa using h1, by simpa using h2, h3, fun i hi => ?_⟩
    cases i with
    | zero => rfl
    | succ i => simpa using h4 i (by omega)
end
end NM
namespace DL
namespace B
open PySem PySem.Spec L2 DL DL.C
theorem max_ii {i j : Int} {M : Mem} : maxV [.d (.int i), .d (.int j)] M = .ok (.d (.int (max i j))) M := by
  show Res.ok (Vl.d (.int (if j > i then j else i))) M = _
  have : (if j > i then j else i) = max i j := by split <;> omega
  rw [this]
theorem one_pass_ok {n : Nat} {y : Vl} {cs : List Nat} {M : Mem} (h2 : 2 ≤ n) (hn : n ≤ 1000) (hc : ∀ c ∈ cs, c < n) (hy : walkOf y = some (cs.map nD)) :
    m_one_pass [.d (nD n), y] M = .ok (.d (.tuple [.tuple ((backL (opL n cs).1).map nD), .list (intsD (opL n cs).2.1), .list (intsD (opL n cs).2.2)])) M := by
  have hsz : sizeLine = 2 ^ 24 := rfl
  let E (v5 v6 v7 v8 : Option Vl) : Env := [some (.d (nD n)), some y, some (.h M.length), some (.h (M.length + 1)), some (.h (M.length + 2)), v5, v6, v7, v8]
  let Z (j : Nat) := opL n (cs.take j)
  let MJ (j : Nat) : Mem := M ++ [.lst ((Z j).1.map nD), .lst (intsD (Z j).2.1), .lst (intsD (Z j).2.2)]
  obtain ⟨e', M', el, v5, v6, v7, v8, rfl, rfl⟩ := forL_all (γ := setT 5) (g := (seqS (setS 6 (op2 modV (op2 addV (getV 5) (cst (.d (.int 1)))) (getV 0))) (seqS (parS 7 8 (consA (op2 ixV (getV 2) (getV 5)) (consA (op2 ixV (getV 2) (getV 6)) nilA))) (seqS (asgS (callE maxV (consA (op2 ixV (getV 4) (getV 7)) (consA (op2 subV (cst (.d (.int 1))) (op2 ixV (getV 3) (getV 7))) nilA))) (subT (getV 4) (getV 7))) (seqS (augSubS (fun i j => i - j) (getV 3) (getV 7) (cst (.d (.int 1)))) (seqS (augSubS (fun i j => i + j) (getV 3) (getV 8) (cst (.d (.int 1)))) (asgS (tupE (consA (getV 8) (consA (getV 7) nilA))) (seqT 2 (consT (subT (getV 2) (getV 5)) (consT (subT (getV 2) (getV 6)) nilT))))))))))
    (fun j e N => ∃ v5 v6 v7 v8 : Option Vl, e = E v5 v6 v7 v8 ∧ MJ j = N)
    (xs := cs.map nD) (e := E none none none none) (M := MJ 0)
    (by
      rintro j z e N hz ⟨v5, v6, v7, v8, rfl, rfl⟩
      rw [List.getElem?_map] at hz
      obtain ⟨c, hcj, rfl⟩ := Option.map_eq_some_iff.mp hz
      have hcn := hc c (List.mem_of_getElem? hcj)
      have O := opL_ok h2 _ (cs.take j) rfl fun x hx => hc x (List.mem_of_mem_take hx)
      obtain ⟨a, t, ga, gt, ma, ha, ht, hga, hgt, hma, hat, eo, _⟩ := O.opS h2 hcn
      have hZ : Z (j + 1) = opS n (Z j) c := by
        show opL n (cs.take (j + 1)) = _
        rw [show cs.take (j + 1) = cs.take j ++ [c] by rw [List.take_succ, hcj]; rfl, opL_snoc]
      have hM1 : MJ (j + 1) = M ++ [.lst ((((Z j).1.set c t).set ((c + 1) % n) a).map nD), .lst (intsD (((Z j).2.1.set a (ga - 1)).set t (gt + 1))), .lst (intsD ((Z j).2.2.set a (max ma (1 - ga))))] := by
        show M ++ [MO.lst ((Z (j + 1)).1.map nD), .lst (intsD (Z (j + 1)).2.1), .lst (intsD (Z (j + 1)).2.2)] = _
        rw [hZ, show Z j = ((Z j).1, (Z j).2.1, (Z j).2.2) from rfl, eo]
      have hM0 : MJ j = M ++ [.lst ((Z j).1.map nD), .lst (intsD (Z j).2.1), .lst (intsD (Z j).2.2)] := rfl
      rw [hM1, hM0]
      have hpl : (Z j).1.length = n := by rw [O.perm.length_eq, List.length_range]
      obtain ⟨hne, hlt⟩ := next_ne h2 hcn
      have ha : (Z j).1[c]? = some a := ha
      have ht : (Z j).1[(c + 1) % n]? = some t := ht
      have hga : (Z j).2.1[a]? = some ga := hga
      have hgt : (Z j).2.1[t]? = some gt := hgt
      have hma : (Z j).2.2[a]? = some ma := hma
      clear hM1 hM0 hZ eo
      generalize (Z j).1 = P at *
      generalize (Z j).2.1 = G at *
      generalize (Z j).2.2 = K at *
      have hmod : ∀ N : Mem, modV (.d (.int (((c : Nat) : Int) + 1))) (.d (.int (n : Nat))) N = .ok (.d (nD ((c + 1) % n))) N := fun N => by
        rw [mod_ii (by omega)]
        have : ((c : Int) + 1) % (n : Nat) = (((c + 1) % n : Nat) : Int) := by simp
        rw [this]
      generalize (c + 1) % n = b at *
      have y1 : ixV (.h M.length) (.d (.int (c : Nat))) (M ++ [.lst (P.map nD), .lst (intsD G), .lst (intsD K)]) = _ := jx (k := 0) rfl rfl (getN ha)
      have y2 : ixV (.h M.length) (.d (.int (b : Nat))) (M ++ [.lst (P.map nD), .lst (intsD G), .lst (intsD K)]) = _ := jx (k := 0) rfl rfl (getN ht)
      have y3 : ixV (.h (M.length + 2)) (.d (.int (a : Nat))) (M ++ [.lst (P.map nD), .lst (intsD G), .lst (intsD K)]) = _ := jx (k := 2) rfl rfl (getI hma)
      have y4 : ixV (.h (M.length + 1)) (.d (.int (a : Nat))) (M ++ [.lst (P.map nD), .lst (intsD G), .lst (intsD K)]) = _ := jx (k := 1) rfl rfl (getI hga)
      have p1 : ∀ e : Env, putV (.h (M.length + 2)) (.d (.int (a : Nat))) (.d (.int (max ma (1 - ga)))) e (M ++ [.lst (P.map nD), .lst (intsD G), .lst (intsD K)]) = .ok e (M ++ [.lst (P.map nD), .lst (intsD G), .lst (intsD (K.set a (max ma (1 - ga))))]) := fun e => by
        rw [jput (L := M.length + 2) (k := 2) rfl rfl (by have := lt_of_getL hma; simpa using this), setI]
        rfl
      generalize hK2 : K.set a (max ma (1 - ga)) = K2
      rw [hK2] at p1
      have a1 : augSubS (fun i j => i - j) (getV 3) (getV 7) (cst (.d (.int 1))) (E (some (.d (nD c))) (some (.d (nD b))) (some (.d (nD a))) (some (.d (nD t)))) (M ++ [.lst (P.map nD), .lst (intsD G), .lst (intsD K2)]) = .go .nx (E (some (.d (nD c))) (some (.d (nD b))) (some (.d (nD a))) (some (.d (nD t)))) (M ++ [.lst (P.map nD), .lst (intsD (G.set a (ga - 1))), .lst (intsD K2)]) := by
        rw [augSub_a (p := M.length + 1) (k := a) (xs := intsD G) (a := ga) (b := 1) (by simp only [defM, startE, seqS_a, setS_a, bindS_ok, bindS_er, then_nx, then_rt, then_er, ifS_a, ifK_t, ifK_f, retS_a, dropS_a, asgS_a, asK_a, goG_ok, subT_a, nopS_a, getV_0, getV_s, cst_a, op2_a, o2a_ok, o2b_ok, opT_a, oTa_ok, oTb_ok, consA_a, cAa_ok, cAb_ok, nilA_a, callF_a, cFa_ok, callE_a, cEa_ok, newE_a, nwa_ok, datE_a, dta_ok, dispE_a, tupE_a, tpa_ok, asDs_a, datas, bind_ok, pur_ok, bool_b, leave_d, leave_nx, leave_er, ifE_a, ifa_t, ifa_f, notT_a, nta_ok, andT_a, ana_t, ana_f, orT_a, ora_t, ora_f, tstE_a, tsa_b, andE_a, aEa_t, aEa_f, orE_a, oEa_t, oEa_f, notE_a, nEa_ok, add_ii, sub_ii, gt_ii, lt_ii, ge_ii, le_ii, setT_a, consT_a, cTa_ok, nilT_a, tupT_a, seqT_t, seqT_l, forS_a, List.map_cons, List.map_nil, List.length_cons, List.length_nil, Nat.reduceAdd, Nat.reduceSub, Nat.zero_add, Nat.add_zero, List.replicate, List.cons_append, List.nil_append, List.append_nil, List.getElem?_cons_zero, List.getElem?_cons_succ, List.set_cons_zero, List.set_cons_succ, List.getElem?_nil, Option.map_some, Option.map_none, Option.bind_some, if_true, if_false, ite_true, ite_false, eq_self_iff_true, and_self, and_true, true_and, decide_true, decide_false, Bool.false_eq_true, Bool.not_true, Bool.not_false, sizeLine, Nat.reducePow, Nat.reduceLeDiff, Nat.zero_le, pow_7, pow_18, pow_40, E]) (by simp only [defM, startE, seqS_a, setS_a, bindS_ok, bindS_er, then_nx, then_rt, then_er, ifS_a, ifK_t, ifK_f, retS_a, dropS_a, asgS_a, asK_a, goG_ok, subT_a, nopS_a, getV_0, getV_s, cst_a, op2_a, o2a_ok, o2b_ok, opT_a, oTa_ok, oTb_ok, consA_a, cAa_ok, cAb_ok, nilA_a, callF_a, cFa_ok, callE_a, cEa_ok, newE_a, nwa_ok, datE_a, dta_ok, dispE_a, tupE_a, tpa_ok, asDs_a, datas, bind_ok, pur_ok, bool_b, leave_d, leave_nx, leave_er, ifE_a, ifa_t, ifa_f, notT_a, nta_ok, andT_a, ana_t, ana_f, orT_a, ora_t, ora_f, tstE_a, tsa_b, andE_a, aEa_t, aEa_f, orE_a, oEa_t, oEa_f, notE_a, nEa_ok, add_ii, sub_ii, gt_ii, lt_ii, ge_ii, le_ii, setT_a, consT_a, cTa_ok, nilT_a, tupT_a, seqT_t, seqT_l, forS_a, List.map_cons, List.map_nil, List.length_cons, List.length_nil, Nat.reduceAdd, Nat.reduceSub, Nat.zero_add, Nat.add_zero, List.replicate, List.cons_append, List.nil_append, List.append_nil, List.getElem?_cons_zero, List.getElem?_cons_succ, List.set_cons_zero, List.set_cons_succ, List.getElem?_nil, Option.map_some, Option.map_none, Option.bind_some, if_true, if_false, ite_true, ite_false, eq_self_iff_true, and_self, and_true, true_and, decide_true, decide_false, Bool.false_eq_true, Bool.not_true, Bool.not_false, sizeLine, Nat.reducePow, Nat.reduceLeDiff, Nat.zero_le, pow_7, pow_18, pow_40, E]) (j_get (k := 1) rfl rfl) (getI hga) (by simp only [defM, startE, seqS_a, setS_a, bindS_ok, bindS_er, then_nx, then_rt, then_er, ifS_a, ifK_t, ifK_f, retS_a, dropS_a, asgS_a, asK_a, goG_ok, subT_a, nopS_a, getV_0, getV_s, cst_a, op2_a, o2a_ok, o2b_ok, opT_a, oTa_ok, oTb_ok, consA_a, cAa_ok, cAb_ok, nilA_a, callF_a, cFa_ok, callE_a, cEa_ok, newE_a, nwa_ok, datE_a, dta_ok, dispE_a, tupE_a, tpa_ok, asDs_a, datas, bind_ok, pur_ok, bool_b, leave_d, leave_nx, leave_er, ifE_a, ifa_t, ifa_f, notT_a, nta_ok, andT_a, ana_t, ana_f, orT_a, ora_t, ora_f, tstE_a, tsa_b, andE_a, aEa_t, aEa_f, orE_a, oEa_t, oEa_f, notE_a, nEa_ok, add_ii, sub_ii, gt_ii, lt_ii, ge_ii, le_ii, setT_a, consT_a, cTa_ok, nilT_a, tupT_a, seqT_t, seqT_l, forS_a, List.map_cons, List.map_nil, List.length_cons, List.length_nil, Nat.reduceAdd, Nat.reduceSub, Nat.zero_add, Nat.add_zero, List.replicate, List.cons_append, List.nil_append, List.append_nil, List.getElem?_cons_zero, List.getElem?_cons_succ, List.set_cons_zero, List.set_cons_succ, List.getElem?_nil, Option.map_some, Option.map_none, Option.bind_some, if_true, if_false, ite_true, ite_false, eq_self_iff_true, and_self, and_true, true_and, decide_true, decide_false, Bool.false_eq_true, Bool.not_true, Bool.not_false, sizeLine, Nat.reducePow, Nat.reduceLeDiff, Nat.zero_le, pow_7, pow_18, pow_40]), j_set (L := M.length + 1) (k := 1) rfl, setI]
        rfl
      have hgt2 : (G.set a (ga - 1))[t]? = some gt := by rw [List.getElem?_set_ne hat]; exact hgt
      have a2 : augSubS (fun i j => i + j) (getV 3) (getV 8) (cst (.d (.int 1))) (E (some (.d (nD c))) (some (.d (nD b))) (some (.d (nD a))) (some (.d (nD t)))) (M ++ [.lst (P.map nD), .lst (intsD (G.set a (ga - 1))), .lst (intsD K2)]) = .go .nx (E (some (.d (nD c))) (some (.d (nD b))) (some (.d (nD a))) (some (.d (nD t)))) (M ++ [.lst (P.map nD), .lst (intsD ((G.set a (ga - 1)).set t (gt + 1))), .lst (intsD K2)]) := by
        rw [augSub_a (p := M.length + 1) (k := t) (xs := intsD (G.set a (ga - 1))) (a := gt) (b := 1) (by simp only [defM, startE, seqS_a, setS_a, bindS_ok, bindS_er, then_nx, then_rt, then_er, ifS_a, ifK_t, ifK_f, retS_a, dropS_a, asgS_a, asK_a, goG_ok, subT_a, nopS_a, getV_0, getV_s, cst_a, op2_a, o2a_ok, o2b_ok, opT_a, oTa_ok, oTb_ok, consA_a, cAa_ok, cAb_ok, nilA_a, callF_a, cFa_ok, callE_a, cEa_ok, newE_a, nwa_ok, datE_a, dta_ok, dispE_a, tupE_a, tpa_ok, asDs_a, datas, bind_ok, pur_ok, bool_b, leave_d, leave_nx, leave_er, ifE_a, ifa_t, ifa_f, notT_a, nta_ok, andT_a, ana_t, ana_f, orT_a, ora_t, ora_f, tstE_a, tsa_b, andE_a, aEa_t, aEa_f, orE_a, oEa_t, oEa_f, notE_a, nEa_ok, add_ii, sub_ii, gt_ii, lt_ii, ge_ii, le_ii, setT_a, consT_a, cTa_ok, nilT_a, tupT_a, seqT_t, seqT_l, forS_a, List.map_cons, List.map_nil, List.length_cons, List.length_nil, Nat.reduceAdd, Nat.reduceSub, Nat.zero_add, Nat.add_zero, List.replicate, List.cons_append, List.nil_append, List.append_nil, List.getElem?_cons_zero, List.getElem?_cons_succ, List.set_cons_zero, List.set_cons_succ, List.getElem?_nil, Option.map_some, Option.map_none, Option.bind_some, if_true, if_false, ite_true, ite_false, eq_self_iff_true, and_self, and_true, true_and, decide_true, decide_false, Bool.false_eq_true, Bool.not_true, Bool.not_false, sizeLine, Nat.reducePow, Nat.reduceLeDiff, Nat.zero_le, pow_7, pow_18, pow_40, E]) (by simp only [defM, startE, seqS_a, setS_a, bindS_ok, bindS_er, then_nx, then_rt, then_er, ifS_a, ifK_t, ifK_f, retS_a, dropS_a, asgS_a, asK_a, goG_ok, subT_a, nopS_a, getV_0, getV_s, cst_a, op2_a, o2a_ok, o2b_ok, opT_a, oTa_ok, oTb_ok, consA_a, cAa_ok, cAb_ok, nilA_a, callF_a, cFa_ok, callE_a, cEa_ok, newE_a, nwa_ok, datE_a, dta_ok, dispE_a, tupE_a, tpa_ok, asDs_a, datas, bind_ok, pur_ok, bool_b, leave_d, leave_nx, leave_er, ifE_a, ifa_t, ifa_f, notT_a, nta_ok, andT_a, ana_t, ana_f, orT_a, ora_t, ora_f, tstE_a, tsa_b, andE_a, aEa_t, aEa_f, orE_a, oEa_t, oEa_f, notE_a, nEa_ok, add_ii, sub_ii, gt_ii, lt_ii, ge_ii, le_ii, setT_a, consT_a, cTa_ok, nilT_a, tupT_a, seqT_t, seqT_l, forS_a, List.map_cons, List.map_nil, List.length_cons, List.length_nil, Nat.reduceAdd, Nat.reduceSub, Nat.zero_add, Nat.add_zero, List.replicate, List.cons_append, List.nil_append, List.append_nil, List.getElem?_cons_zero, List.getElem?_cons_succ, List.set_cons_zero, List.set_cons_succ, List.getElem?_nil, Option.map_some, Option.map_none, Option.bind_some, if_true, if_false, ite_true, ite_false, eq_self_iff_true, and_self, and_true, true_and, decide_true, decide_false, Bool.false_eq_true, Bool.not_true, Bool.not_false, sizeLine, Nat.reducePow, Nat.reduceLeDiff, Nat.zero_le, pow_7, pow_18, pow_40, E]) (j_get (k := 1) rfl rfl) (getI hgt2) (by simp only [defM, startE, seqS_a, setS_a, bindS_ok, bindS_er, then_nx, then_rt, then_er, ifS_a, ifK_t, ifK_f, retS_a, dropS_a, asgS_a, asK_a, goG_ok, subT_a, nopS_a, getV_0, getV_s, cst_a, op2_a, o2a_ok, o2b_ok, opT_a, oTa_ok, oTb_ok, consA_a, cAa_ok, cAb_ok, nilA_a, callF_a, cFa_ok, callE_a, cEa_ok, newE_a, nwa_ok, datE_a, dta_ok, dispE_a, tupE_a, tpa_ok, asDs_a, datas, bind_ok, pur_ok, bool_b, leave_d, leave_nx, leave_er, ifE_a, ifa_t, ifa_f, notT_a, nta_ok, andT_a, ana_t, ana_f, orT_a, ora_t, ora_f, tstE_a, tsa_b, andE_a, aEa_t, aEa_f, orE_a, oEa_t, oEa_f, notE_a, nEa_ok, add_ii, sub_ii, gt_ii, lt_ii, ge_ii, le_ii, setT_a, consT_a, cTa_ok, nilT_a, tupT_a, seqT_t, seqT_l, forS_a, List.map_cons, List.map_nil, List.length_cons, List.length_nil, Nat.reduceAdd, Nat.reduceSub, Nat.zero_add, Nat.add_zero, List.replicate, List.cons_append, List.nil_append, List.append_nil, List.getElem?_cons_zero, List.getElem?_cons_succ, List.set_cons_zero, List.set_cons_succ, List.getElem?_nil, Option.map_some, Option.map_none, Option.bind_some, if_true, if_false, ite_true, ite_false, eq_self_iff_true, and_self, and_true, true_and, decide_true, decide_false, Bool.false_eq_true, Bool.not_true, Bool.not_false, sizeLine, Nat.reducePow, Nat.reduceLeDiff, Nat.zero_le, pow_7, pow_18, pow_40]), j_set (L := M.length + 1) (k := 1) rfl, setI]
        rfl
      generalize (G.set a (ga - 1)).set t (gt + 1) = G2 at *
      have p2 : ∀ e : Env, putV (.h M.length) (.d (.int (c : Nat))) (.d (nD t)) e (M ++ [.lst (P.map nD), .lst (intsD G2), .lst (intsD K2)]) = .ok e (M ++ [.lst ((P.set c t).map nD), .lst (intsD G2), .lst (intsD K2)]) := fun e => by
        rw [jput (L := M.length) (k := 0) rfl rfl (by simp; omega), set_nD]
        rfl
      have p3 : ∀ e : Env, putV (.h M.length) (.d (.int (b : Nat))) (.d (nD a)) e (M ++ [.lst ((P.set c t).map nD), .lst (intsD G2), .lst (intsD K2)]) = .ok e (M ++ [.lst (((P.set c t).set b a).map nD), .lst (intsD G2), .lst (intsD K2)]) := fun e => by
        rw [jput (L := M.length) (k := 0) rfl rfl (by simp; omega), set_nD]
        rfl
      simp only [E] at a1 a2
      refine ⟨E (some (.d (nD c))) v6 v7 v8, M ++ [.lst (P.map nD), .lst (intsD G), .lst (intsD K)], E (some (.d (nD c))) (some (.d (nD b))) (some (.d (nD a))) (some (.d (nD t))), M ++ [.lst (((P.set c t).set b a).map nD), .lst (intsD G2), .lst (intsD K2)], ?_, ?_, _, _, _, _, rfl, rfl⟩
      · simp only [defM, startE, seqS_a, setS_a, bindS_ok, bindS_er, then_nx, then_rt, then_er, ifS_a, ifK_t, ifK_f, retS_a, dropS_a, asgS_a, asK_a, goG_ok, subT_a, nopS_a, getV_0, getV_s, cst_a, op2_a, o2a_ok, o2b_ok, opT_a, oTa_ok, oTb_ok, consA_a, cAa_ok, cAb_ok, nilA_a, callF_a, cFa_ok, callE_a, cEa_ok, newE_a, nwa_ok, datE_a, dta_ok, dispE_a, tupE_a, tpa_ok, asDs_a, datas, bind_ok, pur_ok, bool_b, leave_d, leave_nx, leave_er, ifE_a, ifa_t, ifa_f, notT_a, nta_ok, andT_a, ana_t, ana_f, orT_a, ora_t, ora_f, tstE_a, tsa_b, andE_a, aEa_t, aEa_f, orE_a, oEa_t, oEa_f, notE_a, nEa_ok, add_ii, sub_ii, gt_ii, lt_ii, ge_ii, le_ii, setT_a, consT_a, cTa_ok, nilT_a, tupT_a, seqT_t, seqT_l, forS_a, List.map_cons, List.map_nil, List.length_cons, List.length_nil, Nat.reduceAdd, Nat.reduceSub, Nat.zero_add, Nat.add_zero, List.replicate, List.cons_append, List.nil_append, List.append_nil, List.getElem?_cons_zero, List.getElem?_cons_succ, List.set_cons_zero, List.set_cons_succ, List.getElem?_nil, Option.map_some, Option.map_none, Option.bind_some, if_true, if_false, ite_true, ite_false, eq_self_iff_true, and_self, and_true, true_and, decide_true, decide_false, Bool.false_eq_true, Bool.not_true, Bool.not_false, sizeLine, Nat.reducePow, Nat.reduceLeDiff, Nat.zero_le, pow_7, pow_18, pow_40, E]
      · simp only [defM, startE, seqS_a, setS_a, bindS_ok, bindS_er, then_nx, then_rt, then_er, ifS_a, ifK_t, ifK_f, retS_a, dropS_a, asgS_a, asK_a, goG_ok, subT_a, nopS_a, getV_0, getV_s, cst_a, op2_a, o2a_ok, o2b_ok, opT_a, oTa_ok, oTb_ok, consA_a, cAa_ok, cAb_ok, nilA_a, callF_a, cFa_ok, callE_a, cEa_ok, newE_a, nwa_ok, datE_a, dta_ok, dispE_a, tupE_a, tpa_ok, asDs_a, datas, bind_ok, pur_ok, bool_b, leave_d, leave_nx, leave_er, ifE_a, ifa_t, ifa_f, notT_a, nta_ok, andT_a, ana_t, ana_f, orT_a, ora_t, ora_f, tstE_a, tsa_b, andE_a, aEa_t, aEa_f, orE_a, oEa_t, oEa_f, notE_a, nEa_ok, add_ii, sub_ii, gt_ii, lt_ii, ge_ii, le_ii, setT_a, consT_a, cTa_ok, nilT_a, tupT_a, seqT_t, seqT_l, forS_a, List.map_cons, List.map_nil, List.length_cons, List.length_nil, Nat.reduceAdd, Nat.reduceSub, Nat.zero_add, Nat.add_zero, List.replicate, List.cons_append, List.nil_append, List.append_nil, List.getElem?_cons_zero, List.getElem?_cons_succ, List.set_cons_zero, List.set_cons_succ, List.getElem?_nil, Option.map_some, Option.map_none, Option.bind_some, if_true, if_false, ite_true, ite_false, eq_self_iff_true, and_self, and_true, true_and, decide_true, decide_false, Bool.false_eq_true, Bool.not_true, Bool.not_false, sizeLine, Nat.reducePow, Nat.reduceLeDiff, Nat.zero_le, pow_7, pow_18, pow_40, E, hmod, parS_a, y1, y2, y3, y4, max_ii, p1, a1, a2, p2, p3])
    ⟨none, none, none, none, rfl, rfl⟩
  rw [List.length_map] at el
  have hZ0 : MJ 0 = M ++ [.lst ((List.range n).map nD), .lst (List.replicate n (.int 0)), .lst (List.replicate n (.int 0))] := by
    show M ++ [MO.lst ((List.range n).map nD), .lst (intsD (List.replicate n 0)), .lst (intsD (List.replicate n 0))] = _
    unfold intsD
    rw [List.map_replicate]
  have O := opL_ok h2 _ cs rfl hc
  have hZn : MJ cs.length = M ++ [.lst ((opL n cs).1.map nD), .lst (intsD (opL n cs).2.1), .lst (intsD (opL n cs).2.2)] := by
    show M ++ [MO.lst ((opL n (cs.take cs.length)).1.map nD), .lst (intsD (opL n (cs.take cs.length)).2.1), .lst (intsD (opL n (cs.take cs.length)).2.2)] = _
    rw [List.take_length]
  rw [hZ0, hZn] at el
  clear hZ0 hZn
  have hst : Stt n (opL n cs).1 (List.replicate n 0) := ⟨O.perm, by simp, fun p hp => by rw [List.eq_of_mem_replicate hp]; exact Int.le_refl _⟩
  generalize (opL n cs).1 = P at *
  generalize (opL n cs).2.1 = G at *
  generalize (opL n cs).2.2 = K at *
  have hsq : ∀ N : Mem, seqI (getV 1) (E none none none none) N = .ok (cs.map nD) N := fun N => seqI_a (x := y) (by simp only [defM, startE, seqS_a, setS_a, bindS_ok, bindS_er, then_nx, then_rt, then_er, ifS_a, ifK_t, ifK_f, retS_a, dropS_a, asgS_a, asK_a, goG_ok, subT_a, nopS_a, getV_0, getV_s, cst_a, op2_a, o2a_ok, o2b_ok, opT_a, oTa_ok, oTb_ok, consA_a, cAa_ok, cAb_ok, nilA_a, callF_a, cFa_ok, callE_a, cEa_ok, newE_a, nwa_ok, datE_a, dta_ok, dispE_a, tupE_a, tpa_ok, asDs_a, datas, bind_ok, pur_ok, bool_b, leave_d, leave_nx, leave_er, ifE_a, ifa_t, ifa_f, notT_a, nta_ok, andT_a, ana_t, ana_f, orT_a, ora_t, ora_f, tstE_a, tsa_b, andE_a, aEa_t, aEa_f, orE_a, oEa_t, oEa_f, notE_a, nEa_ok, add_ii, sub_ii, gt_ii, lt_ii, ge_ii, le_ii, setT_a, consT_a, cTa_ok, nilT_a, tupT_a, seqT_t, seqT_l, forS_a, List.map_cons, List.map_nil, List.length_cons, List.length_nil, Nat.reduceAdd, Nat.reduceSub, Nat.zero_add, Nat.add_zero, List.replicate, List.cons_append, List.nil_append, List.append_nil, List.getElem?_cons_zero, List.getElem?_cons_succ, List.set_cons_zero, List.set_cons_succ, List.getElem?_nil, Option.map_some, Option.map_none, Option.bind_some, if_true, if_false, ite_true, ite_false, eq_self_iff_true, and_self, and_true, true_and, decide_true, decide_false, Bool.false_eq_true, Bool.not_true, Bool.not_false, sizeLine, Nat.reducePow, Nat.reduceLeDiff, Nat.zero_le, pow_7, pow_18, pow_40, E]) hy
  have hrg : rgE1 (getV 0) [some (.d (nD n)), some y, none, none, none, none, none, none, none] M = .ok ((List.range n).map nD) M := by
    rw [← rangeD_nat]
    exact rgE1_a (i := (n : Int)) (by simp only [defM, startE, seqS_a, setS_a, bindS_ok, bindS_er, then_nx, then_rt, then_er, ifS_a, ifK_t, ifK_f, retS_a, dropS_a, asgS_a, asK_a, goG_ok, subT_a, nopS_a, getV_0, getV_s, cst_a, op2_a, o2a_ok, o2b_ok, opT_a, oTa_ok, oTb_ok, consA_a, cAa_ok, cAb_ok, nilA_a, callF_a, cFa_ok, callE_a, cEa_ok, newE_a, nwa_ok, datE_a, dta_ok, dispE_a, tupE_a, tpa_ok, asDs_a, datas, bind_ok, pur_ok, bool_b, leave_d, leave_nx, leave_er, ifE_a, ifa_t, ifa_f, notT_a, nta_ok, andT_a, ana_t, ana_f, orT_a, ora_t, ora_f, tstE_a, tsa_b, andE_a, aEa_t, aEa_f, orE_a, oEa_t, oEa_f, notE_a, nEa_ok, add_ii, sub_ii, gt_ii, lt_ii, ge_ii, le_ii, setT_a, consT_a, cTa_ok, nilT_a, tupT_a, seqT_t, seqT_l, forS_a, List.map_cons, List.map_nil, List.length_cons, List.length_nil, Nat.reduceAdd, Nat.reduceSub, Nat.zero_add, Nat.add_zero, List.replicate, List.cons_append, List.nil_append, List.append_nil, List.getElem?_cons_zero, List.getElem?_cons_succ, List.set_cons_zero, List.set_cons_succ, List.getElem?_nil, Option.map_some, Option.map_none, Option.bind_some, if_true, if_false, ite_true, ite_false, eq_self_iff_true, and_self, and_true, true_and, decide_true, decide_false, Bool.false_eq_true, Bool.not_true, Bool.not_false, sizeLine, Nat.reducePow, Nat.reduceLeDiff, Nat.zero_le, pow_7, pow_18, pow_40]) (by omega) (by omega)
  have hrp : ∀ (v3 v4 : Option Vl) (N : Mem), repE (datE (dispE (consA (cst (.d (.int 0))) nilA))) (getV 0) [some (.d (nD n)), some y, some (.h M.length), v3, v4, none, none, none, none] N = .ok (List.replicate n (.int 0)) N := fun v3 v4 N => rep_a (by simp only [defM, startE, seqS_a, setS_a, bindS_ok, bindS_er, then_nx, then_rt, then_er, ifS_a, ifK_t, ifK_f, retS_a, dropS_a, asgS_a, asK_a, goG_ok, subT_a, nopS_a, getV_0, getV_s, cst_a, op2_a, o2a_ok, o2b_ok, opT_a, oTa_ok, oTb_ok, consA_a, cAa_ok, cAb_ok, nilA_a, callF_a, cFa_ok, callE_a, cEa_ok, newE_a, nwa_ok, datE_a, dta_ok, dispE_a, tupE_a, tpa_ok, asDs_a, datas, bind_ok, pur_ok, bool_b, leave_d, leave_nx, leave_er, ifE_a, ifa_t, ifa_f, notT_a, nta_ok, andT_a, ana_t, ana_f, orT_a, ora_t, ora_f, tstE_a, tsa_b, andE_a, aEa_t, aEa_f, orE_a, oEa_t, oEa_f, notE_a, nEa_ok, add_ii, sub_ii, gt_ii, lt_ii, ge_ii, le_ii, setT_a, consT_a, cTa_ok, nilT_a, tupT_a, seqT_t, seqT_l, forS_a, List.map_cons, List.map_nil, List.length_cons, List.length_nil, Nat.reduceAdd, Nat.reduceSub, Nat.zero_add, Nat.add_zero, List.replicate, List.cons_append, List.nil_append, List.append_nil, List.getElem?_cons_zero, List.getElem?_cons_succ, List.set_cons_zero, List.set_cons_succ, List.getElem?_nil, Option.map_some, Option.map_none, Option.bind_some, if_true, if_false, ite_true, ite_false, eq_self_iff_true, and_self, and_true, true_and, decide_true, decide_false, Bool.false_eq_true, Bool.not_true, Bool.not_false, sizeLine, Nat.reducePow, Nat.reduceLeDiff, Nat.zero_le, pow_7, pow_18, pow_40]) (by omega)
  have f1 : freeze 2 (E v5 v6 v7 v8) (M ++ [.lst (P.map nD), .lst (intsD G), .lst (intsD K)]) = _ := jfz (L := M.length) (k := 0) rfl rfl rfl
  have f2 : freeze 3 [some (.d (nD n)), some y, some (.d (.list (P.map nD))), some (.h (M.length + 1)), some (.h (M.length + 2)), v5, v6, v7, v8] (M ++ [.gone, .lst (intsD G), .lst (intsD K)]) = _ := jfz (L := M.length + 1) (k := 1) rfl rfl rfl
  have f3 : freeze 4 [some (.d (nD n)), some y, some (.d (.list (P.map nD))), some (.d (.list (intsD G))), some (.h (M.length + 2)), v5, v6, v7, v8] (M ++ [.gone, .gone, .lst (intsD K)]) = _ := jfz (L := M.length + 2) (k := 2) rfl rfl rfl
  have hinv : ∀ N : Mem, C.m_inverse [.d (.list (P.map nD))] N = .ok (.d (.tuple ((backL P).map nD))) N := fun N => by
    obtain ⟨ls, e, hi⟩ := inverse_ok (M := N) (x := .d (.list (P.map nD))) (.inl rfl) (PN.of_perm hst.perm) (by rw [hst.slen]; exact hn)
    rw [e, inv2_back hst hi]
  simp only [E] at el hsq f1
  unfold m_one_pass g_one_pass
  simp only [defM, startE, seqS_a, setS_a, bindS_ok, bindS_er, then_nx, then_rt, then_er, ifS_a, ifK_t, ifK_f, retS_a, dropS_a, asgS_a, asK_a, goG_ok, subT_a, nopS_a, getV_0, getV_s, cst_a, op2_a, o2a_ok, o2b_ok, opT_a, oTa_ok, oTb_ok, consA_a, cAa_ok, cAb_ok, nilA_a, callF_a, cFa_ok, callE_a, cEa_ok, newE_a, nwa_ok, datE_a, dta_ok, dispE_a, tupE_a, tpa_ok, asDs_a, datas, bind_ok, pur_ok, bool_b, leave_d, leave_nx, leave_er, ifE_a, ifa_t, ifa_f, notT_a, nta_ok, andT_a, ana_t, ana_f, orT_a, ora_t, ora_f, tstE_a, tsa_b, andE_a, aEa_t, aEa_f, orE_a, oEa_t, oEa_f, notE_a, nEa_ok, add_ii, sub_ii, gt_ii, lt_ii, ge_ii, le_ii, setT_a, consT_a, cTa_ok, nilT_a, tupT_a, seqT_t, seqT_l, forS_a, List.map_cons, List.map_nil, List.length_cons, List.length_nil, Nat.reduceAdd, Nat.reduceSub, Nat.zero_add, Nat.add_zero, List.replicate, List.cons_append, List.nil_append, List.append_nil, List.getElem?_cons_zero, List.getElem?_cons_succ, List.set_cons_zero, List.set_cons_succ, List.getElem?_nil, Option.map_some, Option.map_none, Option.bind_some, if_true, if_false, ite_true, ite_false, eq_self_iff_true, and_self, and_true, true_and, decide_true, decide_false, Bool.false_eq_true, Bool.not_true, Bool.not_false, sizeLine, Nat.reducePow, Nat.reduceLeDiff, Nat.zero_le, pow_7, pow_18, pow_40, hrg, parS_a, hrp, List.append_assoc, List.length_append, hsq, el, f1, f2, f3, hinv]
  rw [List.take_append_of_le_length (by simp), take_all (by simp)]
end B
end DL
namespace DL
namespace B
open PySem PySem.Spec L2 DL DL.C
theorem gain_ok {is : List Nat} {G : List Int} {M : Mem} (hi : ∀ i ∈ is, i < G.length) (hl : is.length ≤ 1000) : m_gain_of [.d (.list (is.map nD)), .d (.list (intsD G))] M = .ok (.d (.int ((is.map fun i => G.getD i 0).sum))) M := by
  have hsz : sizeLine = 2 ^ 24 := rfl
  have hlc : (lcE [2] (seqI (getV 0)) (setT 2) (fun _ M => .ok true M) (op2 ixV (getV 1) (getV 2))) [some (.d (.list (is.map nD))), some (.d (.list (intsD G))), none] M = .ok (intsD (is.map fun i => G.getD i 0)) M := by
    rw [lcE_at (seqI_a (x := .d (.list (is.map nD))) (M1 := M) (by simp only [defM, startE, seqS_a, setS_a, bindS_ok, bindS_er, then_nx, then_rt, then_er, ifS_a, ifK_t, ifK_f, retS_a, dropS_a, asgS_a, asK_a, goG_ok, subT_a, nopS_a, getV_0, getV_s, cst_a, op2_a, o2a_ok, o2b_ok, opT_a, oTa_ok, oTb_ok, consA_a, cAa_ok, cAb_ok, nilA_a, callF_a, cFa_ok, callE_a, cEa_ok, newE_a, nwa_ok, datE_a, dta_ok, dispE_a, tupE_a, tpa_ok, asDs_a, datas, bind_ok, pur_ok, bool_b, leave_d, leave_nx, leave_er, ifE_a, ifa_t, ifa_f, notT_a, nta_ok, andT_a, ana_t, ana_f, orT_a, ora_t, ora_f, tstE_a, tsa_b, andE_a, aEa_t, aEa_f, orE_a, oEa_t, oEa_f, notE_a, nEa_ok, add_ii, sub_ii, gt_ii, lt_ii, ge_ii, le_ii, setT_a, consT_a, cTa_ok, nilT_a, tupT_a, seqT_t, seqT_l, forS_a, List.map_cons, List.map_nil, List.length_cons, List.length_nil, Nat.reduceAdd, Nat.reduceSub, Nat.zero_add, Nat.add_zero, List.replicate, List.cons_append, List.nil_append, List.append_nil, List.getElem?_cons_zero, List.getElem?_cons_succ, List.set_cons_zero, List.set_cons_succ, List.getElem?_nil, Option.map_some, Option.map_none, Option.bind_some, if_true, if_false, ite_true, ite_false, eq_self_iff_true, and_self, and_true, true_and, decide_true, decide_false, Bool.false_eq_true, Bool.not_true, Bool.not_false, sizeLine, Nat.reducePow, Nat.reduceLeDiff, Nat.zero_le, pow_7, pow_18, pow_40]) rfl)]
    refine (lcL_map (fun x => match x with | .int z => .int (G.getD z.toNat 0) | x => x) (is.map nD) [] (by rw [hsz]; simp; omega) fun z hz => ?_).trans ?_
    · obtain ⟨i, hi', rfl⟩ := List.mem_map.mp hz
      obtain ⟨g, hg⟩ := get_some (hi i hi')
      have y1 : ∀ N : Mem, ixV (.d (.list (intsD G))) (.d (.int (i : Nat))) N = .ok (.d (.int g)) N := fun N => ixV_l (atI_some (getI hg))
      refine ⟨[some (.d (.list (is.map nD))), some (.d (.list (intsD G))), some (.d (nD i))], rfl, rfl, ?_⟩
      simp only [defM, startE, seqS_a, setS_a, bindS_ok, bindS_er, then_nx, then_rt, then_er, ifS_a, ifK_t, ifK_f, retS_a, dropS_a, asgS_a, asK_a, goG_ok, subT_a, nopS_a, getV_0, getV_s, cst_a, op2_a, o2a_ok, o2b_ok, opT_a, oTa_ok, oTb_ok, consA_a, cAa_ok, cAb_ok, nilA_a, callF_a, cFa_ok, callE_a, cEa_ok, newE_a, nwa_ok, datE_a, dta_ok, dispE_a, tupE_a, tpa_ok, asDs_a, datas, bind_ok, pur_ok, bool_b, leave_d, leave_nx, leave_er, ifE_a, ifa_t, ifa_f, notT_a, nta_ok, andT_a, ana_t, ana_f, orT_a, ora_t, ora_f, tstE_a, tsa_b, andE_a, aEa_t, aEa_f, orE_a, oEa_t, oEa_f, notE_a, nEa_ok, add_ii, sub_ii, gt_ii, lt_ii, ge_ii, le_ii, setT_a, consT_a, cTa_ok, nilT_a, tupT_a, seqT_t, seqT_l, forS_a, List.map_cons, List.map_nil, List.length_cons, List.length_nil, Nat.reduceAdd, Nat.reduceSub, Nat.zero_add, Nat.add_zero, List.replicate, List.cons_append, List.nil_append, List.append_nil, List.getElem?_cons_zero, List.getElem?_cons_succ, List.set_cons_zero, List.set_cons_succ, List.getElem?_nil, Option.map_some, Option.map_none, Option.bind_some, if_true, if_false, ite_true, ite_false, eq_self_iff_true, and_self, and_true, true_and, decide_true, decide_false, Bool.false_eq_true, Bool.not_true, Bool.not_false, sizeLine, Nat.reducePow, Nat.reduceLeDiff, Nat.zero_le, pow_7, pow_18, pow_40, y1, Int.toNat_natCast]
      rw [getD_of hg]
    · rw [List.nil_append]
      refine congrArg (fun l => Res.ok l M) ?_
      unfold intsD
      rw [List.map_map, List.map_map]
      refine List.map_congr_left fun i _ => ?_
      show PyData.int (G.getD ((i : Nat) : Int).toNat 0) = PyData.int (G.getD i 0)
      rw [Int.toNat_natCast]
  unfold m_gain_of g_gain_of
  simp only [defM, startE, seqS_a, setS_a, bindS_ok, bindS_er, then_nx, then_rt, then_er, ifS_a, ifK_t, ifK_f, retS_a, dropS_a, asgS_a, asK_a, goG_ok, subT_a, nopS_a, getV_0, getV_s, cst_a, op2_a, o2a_ok, o2b_ok, opT_a, oTa_ok, oTb_ok, consA_a, cAa_ok, cAb_ok, nilA_a, callF_a, cFa_ok, callE_a, cEa_ok, newE_a, nwa_ok, datE_a, dta_ok, dispE_a, tupE_a, tpa_ok, asDs_a, datas, bind_ok, pur_ok, bool_b, leave_d, leave_nx, leave_er, ifE_a, ifa_t, ifa_f, notT_a, nta_ok, andT_a, ana_t, ana_f, orT_a, ora_t, ora_f, tstE_a, tsa_b, andE_a, aEa_t, aEa_f, orE_a, oEa_t, oEa_f, notE_a, nEa_ok, add_ii, sub_ii, gt_ii, lt_ii, ge_ii, le_ii, setT_a, consT_a, cTa_ok, nilT_a, tupT_a, seqT_t, seqT_l, forS_a, List.map_cons, List.map_nil, List.length_cons, List.length_nil, Nat.reduceAdd, Nat.reduceSub, Nat.zero_add, Nat.add_zero, List.replicate, List.cons_append, List.nil_append, List.append_nil, List.getElem?_cons_zero, List.getElem?_cons_succ, List.set_cons_zero, List.set_cons_succ, List.getElem?_nil, Option.map_some, Option.map_none, Option.bind_some, if_true, if_false, ite_true, ite_false, eq_self_iff_true, and_self, and_true, true_and, decide_true, decide_false, Bool.false_eq_true, Bool.not_true, Bool.not_false, sizeLine, Nat.reducePow, Nat.reduceLeDiff, Nat.zero_le, pow_7, pow_18, pow_40, hlc, sum_l]
  rw [take_all (by simp)]
/-- the circuit of a seat -/
def pathL (E : List Nat) (a L : Nat) : List Nat := (List.range L).map fun i => fI E i a
theorem path_snoc (E : List Nat) (a k : Nat) : pathL E a (k + 1) = pathL E a k ++ [fI E k a] := by
  unfold pathL
  rw [List.range_succ, List.map_append]
  rfl
theorem circuit_ok {n a L : Nat} {E : List Nat} {M : Mem} (hE : EP n E) (hl : E.length = n) (hn : n ≤ 1000) (ha : a < n) (h : Circ n E a L) : m_circuit [.d (.tuple (E.map nD)), .d (nD a)] M = .ok (.d (.list ((pathL E a L).map nD))) M := by
  have hsz : sizeLine = 2 ^ 24 := rfl
  have at_ : ∀ k, ∀ N : Mem, ixV (.d (.tuple (E.map nD))) (.d (nD (fI E k a))) N = .ok (.d (nD (fI E (k + 1) a))) N := fun k N => by
    have hk := hE.fI_lt ha k
    obtain ⟨x, hx⟩ := get_some (show fI E k a < E.length by omega)
    have e : fI E (k + 1) a = x := getD_of hx
    rw [e]
    exact ixV_t (atI_some (getN hx))
  have ng : ∀ (e : Env) (N : Mem), negE (cst (.d (.int 1))) e N = .ok (.d (.int (-1))) N := fun _ _ => Eq.trans rfl rfl
  have loop : ∀ (m k f : Nat), L - (k + 1) = m → k < L → m < f → whileL (opT neV (op2 ixV (getV 0) (op2 ixV (getV 2) (negE (cst (.d (.int 1)))))) (getV 1)) (dropS (methE appM (getV 2) (consA (op2 ixV (getV 0) (op2 ixV (getV 2) (negE (cst (.d (.int 1)))))) nilA))) f [some (.d (.tuple (E.map nD))), some (.d (nD a)), some (.h M.length)] (M ++ [.lst ((pathL E a (k + 1)).map nD)]) = .go .nx [some (.d (.tuple (E.map nD))), some (.d (nD a)), some (.h M.length)] (M ++ [.lst ((pathL E a L).map nD)]) := by
    intro m
    induction m with
    | zero =>
      intro k f hm hk hf
      obtain ⟨f, rfl⟩ : ∃ g, f = g + 1 := ⟨f - 1, by omega⟩
      obtain rfl : L = k + 1 := by omega
      have hix : ixV (.h M.length) (.d (.int (-1))) (M ++ [.lst ((pathL E a (k + 1)).map nD)]) = .ok (.d (nD (fI E k a))) (M ++ [.lst ((pathL E a (k + 1)).map nD)]) := ixV_h (m1_a rfl) (by rw [path_snoc, List.map_append]; exact atI_last)
      exact while_end (by simp only [defM, startE, seqS_a, setS_a, bindS_ok, bindS_er, then_nx, then_rt, then_er, ifS_a, ifK_t, ifK_f, retS_a, dropS_a, asgS_a, asK_a, goG_ok, subT_a, nopS_a, getV_0, getV_s, cst_a, op2_a, o2a_ok, o2b_ok, opT_a, oTa_ok, oTb_ok, consA_a, cAa_ok, cAb_ok, nilA_a, callF_a, cFa_ok, callE_a, cEa_ok, newE_a, nwa_ok, datE_a, dta_ok, dispE_a, tupE_a, tpa_ok, asDs_a, datas, bind_ok, pur_ok, bool_b, leave_d, leave_nx, leave_er, ifE_a, ifa_t, ifa_f, notT_a, nta_ok, andT_a, ana_t, ana_f, orT_a, ora_t, ora_f, tstE_a, tsa_b, andE_a, aEa_t, aEa_f, orE_a, oEa_t, oEa_f, notE_a, nEa_ok, add_ii, sub_ii, gt_ii, lt_ii, ge_ii, le_ii, setT_a, consT_a, cTa_ok, nilT_a, tupT_a, seqT_t, seqT_l, forS_a, List.map_cons, List.map_nil, List.length_cons, List.length_nil, Nat.reduceAdd, Nat.reduceSub, Nat.zero_add, Nat.add_zero, List.replicate, List.cons_append, List.nil_append, List.append_nil, List.getElem?_cons_zero, List.getElem?_cons_succ, List.set_cons_zero, List.set_cons_succ, List.getElem?_nil, Option.map_some, Option.map_none, Option.bind_some, if_true, if_false, ite_true, ite_false, eq_self_iff_true, and_self, and_true, true_and, decide_true, decide_false, Bool.false_eq_true, Bool.not_true, Bool.not_false, sizeLine, Nat.reducePow, Nat.reduceLeDiff, Nat.zero_le, pow_7, pow_18, pow_40, ng, hix, at_, h.back, ne_ii, beq_self_eq_true])
    | succ m ih =>
      intro k f hm hk hf
      obtain ⟨f, rfl⟩ : ∃ g, f = g + 1 := ⟨f - 1, by omega⟩
      have hix : ixV (.h M.length) (.d (.int (-1))) (M ++ [.lst ((pathL E a (k + 1)).map nD)]) = .ok (.d (nD (fI E k a))) (M ++ [.lst ((pathL E a (k + 1)).map nD)]) := ixV_h (m1_a rfl) (by rw [path_snoc, List.map_append]; exact atI_last)
      have hne : (((fI E (k + 1) a : Nat) : Int) == ((a : Nat) : Int)) = false := by
        have := h.first (k + 1) (by omega) (by omega)
        simp
        omega
      have happ : methE appM (getV 2) (consA (op2 ixV (getV 0) (op2 ixV (getV 2) (negE (cst (.d (.int 1)))))) nilA) [some (.d (.tuple (E.map nD))), some (.d (nD a)), some (.h M.length)] (M ++ [.lst ((pathL E a (k + 1)).map nD)]) = .ok (.d .none) (M ++ [.lst ((pathL E a (k + 2)).map nD)]) := by
        rw [methE_at (i := M.length) (xs0 := (pathL E a (k + 1)).map nD) (xs := (pathL E a (k + 1)).map nD) (ys := [.d (nD (fI E (k + 1) a))]) (M2 := M ++ [.lst ((pathL E a (k + 1)).map nD)]) (by simp only [defM, startE, seqS_a, setS_a, bindS_ok, bindS_er, then_nx, then_rt, then_er, ifS_a, ifK_t, ifK_f, retS_a, dropS_a, asgS_a, asK_a, goG_ok, subT_a, nopS_a, getV_0, getV_s, cst_a, op2_a, o2a_ok, o2b_ok, opT_a, oTa_ok, oTb_ok, consA_a, cAa_ok, cAb_ok, nilA_a, callF_a, cFa_ok, callE_a, cEa_ok, newE_a, nwa_ok, datE_a, dta_ok, dispE_a, tupE_a, tpa_ok, asDs_a, datas, bind_ok, pur_ok, bool_b, leave_d, leave_nx, leave_er, ifE_a, ifa_t, ifa_f, notT_a, nta_ok, andT_a, ana_t, ana_f, orT_a, ora_t, ora_f, tstE_a, tsa_b, andE_a, aEa_t, aEa_f, orE_a, oEa_t, oEa_f, notE_a, nEa_ok, add_ii, sub_ii, gt_ii, lt_ii, ge_ii, le_ii, setT_a, consT_a, cTa_ok, nilT_a, tupT_a, seqT_t, seqT_l, forS_a, List.map_cons, List.map_nil, List.length_cons, List.length_nil, Nat.reduceAdd, Nat.reduceSub, Nat.zero_add, Nat.add_zero, List.replicate, List.cons_append, List.nil_append, List.append_nil, List.getElem?_cons_zero, List.getElem?_cons_succ, List.set_cons_zero, List.set_cons_succ, List.getElem?_nil, Option.map_some, Option.map_none, Option.bind_some, if_true, if_false, ite_true, ite_false, eq_self_iff_true, and_self, and_true, true_and, decide_true, decide_false, Bool.false_eq_true, Bool.not_true, Bool.not_false, sizeLine, Nat.reducePow, Nat.reduceLeDiff, Nat.zero_le, pow_7, pow_18, pow_40]) (m1_a rfl) (by simp only [defM, startE, seqS_a, setS_a, bindS_ok, bindS_er, then_nx, then_rt, then_er, ifS_a, ifK_t, ifK_f, retS_a, dropS_a, asgS_a, asK_a, goG_ok, subT_a, nopS_a, getV_0, getV_s, cst_a, op2_a, o2a_ok, o2b_ok, opT_a, oTa_ok, oTb_ok, consA_a, cAa_ok, cAb_ok, nilA_a, callF_a, cFa_ok, callE_a, cEa_ok, newE_a, nwa_ok, datE_a, dta_ok, dispE_a, tupE_a, tpa_ok, asDs_a, datas, bind_ok, pur_ok, bool_b, leave_d, leave_nx, leave_er, ifE_a, ifa_t, ifa_f, notT_a, nta_ok, andT_a, ana_t, ana_f, orT_a, ora_t, ora_f, tstE_a, tsa_b, andE_a, aEa_t, aEa_f, orE_a, oEa_t, oEa_f, notE_a, nEa_ok, add_ii, sub_ii, gt_ii, lt_ii, ge_ii, le_ii, setT_a, consT_a, cTa_ok, nilT_a, tupT_a, seqT_t, seqT_l, forS_a, List.map_cons, List.map_nil, List.length_cons, List.length_nil, Nat.reduceAdd, Nat.reduceSub, Nat.zero_add, Nat.add_zero, List.replicate, List.cons_append, List.nil_append, List.append_nil, List.getElem?_cons_zero, List.getElem?_cons_succ, List.set_cons_zero, List.set_cons_succ, List.getElem?_nil, Option.map_some, Option.map_none, Option.bind_some, if_true, if_false, ite_true, ite_false, eq_self_iff_true, and_self, and_true, true_and, decide_true, decide_false, Bool.false_eq_true, Bool.not_true, Bool.not_false, sizeLine, Nat.reducePow, Nat.reduceLeDiff, Nat.zero_le, pow_7, pow_18, pow_40, ng, hix, at_]) (m1_a rfl), app_at (by have := h.le; unfold pathL; rw [hsz]; simp; omega), m1_sa rfl, path_snoc E a (k + 1), List.map_append]
        rfl
      rw [while_step (M1 := M ++ [.lst ((pathL E a (k + 1)).map nD)]) (e2 := [some (.d (.tuple (E.map nD))), some (.d (nD a)), some (.h M.length)]) (M2 := M ++ [.lst ((pathL E a (k + 2)).map nD)]) (by simp only [defM, startE, seqS_a, setS_a, bindS_ok, bindS_er, then_nx, then_rt, then_er, ifS_a, ifK_t, ifK_f, retS_a, dropS_a, asgS_a, asK_a, goG_ok, subT_a, nopS_a, getV_0, getV_s, cst_a, op2_a, o2a_ok, o2b_ok, opT_a, oTa_ok, oTb_ok, consA_a, cAa_ok, cAb_ok, nilA_a, callF_a, cFa_ok, callE_a, cEa_ok, newE_a, nwa_ok, datE_a, dta_ok, dispE_a, tupE_a, tpa_ok, asDs_a, datas, bind_ok, pur_ok, bool_b, leave_d, leave_nx, leave_er, ifE_a, ifa_t, ifa_f, notT_a, nta_ok, andT_a, ana_t, ana_f, orT_a, ora_t, ora_f, tstE_a, tsa_b, andE_a, aEa_t, aEa_f, orE_a, oEa_t, oEa_f, notE_a, nEa_ok, add_ii, sub_ii, gt_ii, lt_ii, ge_ii, le_ii, setT_a, consT_a, cTa_ok, nilT_a, tupT_a, seqT_t, seqT_l, forS_a, List.map_cons, List.map_nil, List.length_cons, List.length_nil, Nat.reduceAdd, Nat.reduceSub, Nat.zero_add, Nat.add_zero, List.replicate, List.cons_append, List.nil_append, List.append_nil, List.getElem?_cons_zero, List.getElem?_cons_succ, List.set_cons_zero, List.set_cons_succ, List.getElem?_nil, Option.map_some, Option.map_none, Option.bind_some, if_true, if_false, ite_true, ite_false, eq_self_iff_true, and_self, and_true, true_and, decide_true, decide_false, Bool.false_eq_true, Bool.not_true, Bool.not_false, sizeLine, Nat.reducePow, Nat.reduceLeDiff, Nat.zero_le, pow_7, pow_18, pow_40, ng, hix, at_, ne_ii, hne]) (by simp only [defM, startE, seqS_a, setS_a, bindS_ok, bindS_er, then_nx, then_rt, then_er, ifS_a, ifK_t, ifK_f, retS_a, dropS_a, asgS_a, asK_a, goG_ok, subT_a, nopS_a, getV_0, getV_s, cst_a, op2_a, o2a_ok, o2b_ok, opT_a, oTa_ok, oTb_ok, consA_a, cAa_ok, cAb_ok, nilA_a, callF_a, cFa_ok, callE_a, cEa_ok, newE_a, nwa_ok, datE_a, dta_ok, dispE_a, tupE_a, tpa_ok, asDs_a, datas, bind_ok, pur_ok, bool_b, leave_d, leave_nx, leave_er, ifE_a, ifa_t, ifa_f, notT_a, nta_ok, andT_a, ana_t, ana_f, orT_a, ora_t, ora_f, tstE_a, tsa_b, andE_a, aEa_t, aEa_f, orE_a, oEa_t, oEa_f, notE_a, nEa_ok, add_ii, sub_ii, gt_ii, lt_ii, ge_ii, le_ii, setT_a, consT_a, cTa_ok, nilT_a, tupT_a, seqT_t, seqT_l, forS_a, List.map_cons, List.map_nil, List.length_cons, List.length_nil, Nat.reduceAdd, Nat.reduceSub, Nat.zero_add, Nat.add_zero, List.replicate, List.cons_append, List.nil_append, List.append_nil, List.getElem?_cons_zero, List.getElem?_cons_succ, List.set_cons_zero, List.set_cons_succ, List.getElem?_nil, Option.map_some, Option.map_none, Option.bind_some, if_true, if_false, ite_true, ite_false, eq_self_iff_true, and_self, and_true, true_and, decide_true, decide_false, Bool.false_eq_true, Bool.not_true, Bool.not_false, sizeLine, Nat.reducePow, Nat.reduceLeDiff, Nat.zero_le, pow_7, pow_18, pow_40, happ])]
      exact ih (k + 1) f (by omega) (by omega) (by omega)
  have hw : (whileS (opT neV (op2 ixV (getV 0) (op2 ixV (getV 2) (negE (cst (.d (.int 1)))))) (getV 1)) (dropS (methE appM (getV 2) (consA (op2 ixV (getV 0) (op2 ixV (getV 2) (negE (cst (.d (.int 1)))))) nilA))) (fun _ _ => 2000)) [some (.d (.tuple (E.map nD))), some (.d (nD a)), some (.h M.length)] (M ++ [.lst [nD a]]) = _ := whileS_at rfl (loop (L - 1) 0 2000 (by omega) h.pos (by have := h.le; omega))
  have fz : freeze 2 [some (.d (.tuple (E.map nD))), some (.d (nD a)), some (.h M.length)] (M ++ [.lst ((pathL E a L).map nD)]) = _ := jfz (L := M.length) (k := 0) rfl rfl rfl
  unfold m_circuit g_circuit
  simp only [defM, startE, seqS_a, setS_a, bindS_ok, bindS_er, then_nx, then_rt, then_er, ifS_a, ifK_t, ifK_f, retS_a, dropS_a, asgS_a, asK_a, goG_ok, subT_a, nopS_a, getV_0, getV_s, cst_a, op2_a, o2a_ok, o2b_ok, opT_a, oTa_ok, oTb_ok, consA_a, cAa_ok, cAb_ok, nilA_a, callF_a, cFa_ok, callE_a, cEa_ok, newE_a, nwa_ok, datE_a, dta_ok, dispE_a, tupE_a, tpa_ok, asDs_a, datas, bind_ok, pur_ok, bool_b, leave_d, leave_nx, leave_er, ifE_a, ifa_t, ifa_f, notT_a, nta_ok, andT_a, ana_t, ana_f, orT_a, ora_t, ora_f, tstE_a, tsa_b, andE_a, aEa_t, aEa_f, orE_a, oEa_t, oEa_f, notE_a, nEa_ok, add_ii, sub_ii, gt_ii, lt_ii, ge_ii, le_ii, setT_a, consT_a, cTa_ok, nilT_a, tupT_a, seqT_t, seqT_l, forS_a, List.map_cons, List.map_nil, List.length_cons, List.length_nil, Nat.reduceAdd, Nat.reduceSub, Nat.zero_add, Nat.add_zero, List.replicate, List.cons_append, List.nil_append, List.append_nil, List.getElem?_cons_zero, List.getElem?_cons_succ, List.set_cons_zero, List.set_cons_succ, List.getElem?_nil, Option.map_some, Option.map_none, Option.bind_some, if_true, if_false, ite_true, ite_false, eq_self_iff_true, and_self, and_true, true_and, decide_true, decide_false, Bool.false_eq_true, Bool.not_true, Bool.not_false, sizeLine, Nat.reducePow, Nat.reduceLeDiff, Nat.zero_le, pow_7, pow_18, pow_40, hw, fz]
  rw [List.take_append_of_le_length (by simp), take_all (by simp)]
theorem path_sum (E : List Nat) (G : List Int) (a : Nat) : ∀ k, ((pathL E a k).map fun i => G.getD i 0).sum = cI E G k a
  | 0 => rfl
  | k + 1 => by
    rw [path_snoc, List.map_append, List.sum_append, path_sum E G a k]
    show cI E G k a + (G.getD (fI E k a) 0 + 0) = cI E G k a + G.getD (fI E k a) 0
    rw [Int.add_zero]
end B
end DL
namespace DL
namespace B
open PySem PySem.Spec L2 DL DL.C
theorem cI_bound {E : List Nat} {G : List Int} {B : Int} (hB : 0 ≤ B) (hG : ∀ g ∈ G, -B ≤ g ∧ g ≤ B) (a : Nat) : ∀ k : Nat, -(B * k) ≤ cI E G k a ∧ cI E G k a ≤ B * k
  | 0 => by show -(B * ((0 : Nat) : Int)) ≤ 0 ∧ 0 ≤ B * ((0 : Nat) : Int); simp
  | k + 1 => by
    obtain ⟨h1, h2⟩ := cI_bound (E := E) hB hG a k
    have h3 : -B ≤ G.getD (fI E k a) 0 ∧ G.getD (fI E k a) 0 ≤ B := by
      rw [List.getD_eq_getElem?_getD]
      cases q : G[fI E k a]? with
      | none => exact ⟨by show -B ≤ 0; omega, hB⟩
      | some g => exact hG g (List.mem_of_getElem? q)
    show -(B * ((k + 1 : Nat) : Int)) ≤ cI E G k a + G.getD (fI E k a) 0 ∧ cI E G k a + G.getD (fI E k a) 0 ≤ B * ((k + 1 : Nat) : Int)
    push_cast
    rw [Int.mul_add, Int.mul_one]
    omega
theorem minDE_a {f : Ev} {e : Env} {M M1 : Mem} {xs : List Int} (h : f e M = .ok (.d (.list (intsD xs))) M1) : minDE f e M = .ok (.d (minDD xs)) M1 := by
  unfold minDE
  rw [h, bind_ok]
  unfold minDV
  rw [show (rdOf M1 (.d (.list (intsD xs)))).bind intsOf = some xs by show intsOf (intsD xs) = some xs; exact intsOf_map xs]
  cases xs <;> rfl
theorem paid_ok {n a L : Nat} {E : List Nat} {G N : List Int} {c : Int} {M : Mem} (hE : EP n E) (hG : G.length = n) (hN : N.length = n) (hb : ∀ g ∈ G, -(2 ^ 20) ≤ g ∧ g ≤ 2 ^ 20) (hn : n ≤ 1000) (ha : a < n) (h : Circ n E a L) :
    m_passes_paid [.d (.int c), .d (.list ((pathL E a L).map nD)), .d (.list (intsD G)), .d (.list (intsD N))] M = .ok (.d (minDD ((List.range L).filterMap (foundI E G N a L c)))) M := by
  have hsz : sizeLine = 2 ^ 24 := rfl
  have hL := h.le
  have hpl : (pathL E a L).length = L := by unfold pathL; simp
  have hgo : ∀ P : Mem, m_gain_of [.d (.list ((pathL E a L).map nD)), .d (.list (intsD G))] P = .ok (.d (.int (cI E G L a))) P := fun P => by
    rw [gain_ok (fun i hi => by
      unfold pathL at hi
      obtain ⟨k, _, rfl⟩ := List.mem_map.mp hi
      rw [hG]
      exact hE.fI_lt ha k) (by omega), path_sum]
  have hlost := cI_bound (E := E) (G := G) (B := 2 ^ 20) (by decide) hb a L
  have hle : ∀ P : Mem, lenV [.d (.list ((pathL E a L).map nD))] P = .ok (.d (.int (L : Nat))) P := fun P => by rw [len_l, List.length_map, hpl]
  let fo (j : Nat) : List Int := (List.range j).filterMap (foundI E G N a L c)
  have fo_s : ∀ j, fo (j + 1) = fo j ++ (foundI E G N a L c j).toList := fun j => by
    show List.filterMap _ (List.range (j + 1)) = _
    rw [List.range_succ, List.filterMap_append]
    refine congrArg (fun l => fo j ++ l) ?_
    cases q : foundI E G N a L c j with
    | none => rw [List.filterMap_cons_none q]; rfl
    | some d => rw [List.filterMap_cons_some q]; rfl
  have fo_len : ∀ j, (fo j).length ≤ j := fun j => Nat.le_trans (List.length_filterMap_le _ _) (by simp)
  obtain ⟨lo, hlo⟩ : ∃ lo : Int, cI E G L a = lo := ⟨_, rfl⟩
  rw [hlo] at hlost
  have hgo : ∀ P : Mem, m_gain_of [.d (.list ((pathL E a L).map nD)), .d (.list (intsD G))] P = .ok (.d (.int lo)) P := fun P => by rw [hgo, hlo]
  let Ev (v5 v7 v8 v9 : Option Vl) : Env := [some (.d (.int c)), some (.d (.list ((pathL E a L).map nD))), some (.d (.list (intsD G))), some (.d (.list (intsD N))), some (.d (.int (-lo))), v5, some (.h M.length), v7, v8, v9]
  have hen : ∀ P : Mem, enumI (getV 1) (Ev (some (.d (.int c))) none none none) P = .ok (numD ((pathL E a L).map nD)) P := fun P => C.enumI_a (x := .d (.list ((pathL E a L).map nD))) (by simp only [defM, startE, seqS_a, setS_a, bindS_ok, bindS_er, then_nx, then_rt, then_er, ifS_a, ifK_t, ifK_f, retS_a, dropS_a, asgS_a, asK_a, goG_ok, subT_a, nopS_a, getV_0, getV_s, cst_a, op2_a, o2a_ok, o2b_ok, opT_a, oTa_ok, oTb_ok, consA_a, cAa_ok, cAb_ok, nilA_a, callF_a, cFa_ok, callE_a, cEa_ok, newE_a, nwa_ok, datE_a, dta_ok, dispE_a, tupE_a, tpa_ok, asDs_a, datas, bind_ok, pur_ok, bool_b, leave_d, leave_nx, leave_er, ifE_a, ifa_t, ifa_f, notT_a, nta_ok, andT_a, ana_t, ana_f, orT_a, ora_t, ora_f, tstE_a, tsa_b, andE_a, aEa_t, aEa_f, orE_a, oEa_t, oEa_f, notE_a, nEa_ok, add_ii, sub_ii, gt_ii, lt_ii, ge_ii, le_ii, setT_a, consT_a, cTa_ok, nilT_a, tupT_a, seqT_t, seqT_l, forS_a, List.map_cons, List.map_nil, List.length_cons, List.length_nil, Nat.reduceAdd, Nat.reduceSub, Nat.zero_add, Nat.add_zero, List.replicate, List.cons_append, List.nil_append, List.append_nil, List.getElem?_cons_zero, List.getElem?_cons_succ, List.set_cons_zero, List.set_cons_succ, List.getElem?_nil, Option.map_some, Option.map_none, Option.bind_some, if_true, if_false, ite_true, ite_false, eq_self_iff_true, and_self, and_true, true_and, decide_true, decide_false, Bool.false_eq_true, Bool.not_true, Bool.not_false, sizeLine, Nat.reducePow, Nat.reduceLeDiff, Nat.zero_le, pow_7, pow_18, pow_40, Ev]) rfl (by rw [List.length_map, hpl]; omega)
  obtain ⟨e', M', el, v7, v8, v9, rfl, rfl⟩ := forL_all (γ := tupT 2 (consT (setT 7) (consT (setT 8) nilT))) (g := (seqS (setS 9 (op2 subV (getV 5) (op2 ixV (getV 3) (getV 8)))) (seqS (ifS (opT ltV (getV 9) (cst (.d (.int 0)))) (dropS (methE appM (getV 6) (consA (getV 7) nilA))) (ifS (opT gtV (getV 4) (cst (.d (.int 0)))) (dropS (methE appM (getV 6) (consA (op2 addV (op2 mulV (op2 addV (op2 fdivV (getV 9) (getV 4)) (cst (.d (.int 1)))) (callE lenV (consA (getV 1) nilA))) (getV 7)) nilA))) nopS)) (augS (fun i j => i + j) 5 (op2 ixV (getV 2) (getV 8))))))
    (fun j e P => ∃ v7 v8 v9 : Option Vl, e = Ev (some (.d (.int (c + cI E G j a)))) v7 v8 v9 ∧ M ++ [.lst (intsD (fo j))] = P)
    (xs := numD ((pathL E a L).map nD)) (e := Ev (some (.d (.int c))) none none none) (M := M ++ [.lst []])
    (by
      rintro j z e P hz ⟨v7, v8, v9, rfl, rfl⟩
      obtain ⟨d, hd, rfl⟩ := C.numD_get hz
      have hj : j < L := by have := lt_of_getL hd; rwa [List.length_map, hpl] at this
      have hdj : d = nD (fI E j a) := by
        unfold pathL at hd
        rw [List.getElem?_map, List.getElem?_map, List.getElem?_range hj] at hd
        exact (Option.some.inj hd).symm
      subst hdj
      have hs := hE.fI_lt ha j
      obtain ⟨g, hg⟩ := get_some (show fI E j a < G.length by omega)
      obtain ⟨m, hm⟩ := get_some (show fI E j a < N.length by omega)
      have y1 : ∀ P : Mem, ixV (.d (.list (intsD N))) (.d (nD (fI E j a))) P = .ok (.d (.int m)) P := fun P => ixV_l (atI_some (getI hm))
      have y2 : ∀ P : Mem, ixV (.d (.list (intsD G))) (.d (nD (fI E j a))) P = .ok (.d (.int g)) P := fun P => ixV_l (atI_some (getI hg))
      have ec : c + cI E G (j + 1) a = c + cI E G j a + g := by
        show c + (cI E G j a + G.getD (fI E j a) 0) = _
        rw [getD_of hg]
        omega
      have hf := fo_s j
      unfold foundI at hf
      rw [getD_of hm, hlo] at hf
      rw [ec]
      have hfl := fo_len j
      generalize hF : fo j = F at *
      generalize fo (j + 1) = F2 at *
      generalize c + cI E G j a = pr at *
      generalize hsp : pr - m = s at *
      have app : ∀ v : Int, appM M.length (intsD F) [.d (.int v)] (M ++ [.lst (intsD F)]) = .ok (.d .none) (M ++ [.lst (intsD (F ++ [v]))]) := fun v => by
        rw [app_at (by rw [hsz]; simp; omega), m1_sa rfl]
        unfold intsD
        rw [List.map_append]
        rfl
      refine ⟨Ev (some (.d (.int pr))) (some (.d (nD j))) (some (.d (nD (fI E j a)))) v9, M ++ [.lst (intsD F)], Ev (some (.d (.int (pr + g)))) (some (.d (nD j))) (some (.d (nD (fI E j a)))) (some (.d (.int s))), M ++ [.lst (intsD F2)], ?_, ?_, _, _, _, rfl, rfl⟩
      · simp only [defM, startE, seqS_a, setS_a, bindS_ok, bindS_er, then_nx, then_rt, then_er, ifS_a, ifK_t, ifK_f, retS_a, dropS_a, asgS_a, asK_a, goG_ok, subT_a, nopS_a, getV_0, getV_s, cst_a, op2_a, o2a_ok, o2b_ok, opT_a, oTa_ok, oTb_ok, consA_a, cAa_ok, cAb_ok, nilA_a, callF_a, cFa_ok, callE_a, cEa_ok, newE_a, nwa_ok, datE_a, dta_ok, dispE_a, tupE_a, tpa_ok, asDs_a, datas, bind_ok, pur_ok, bool_b, leave_d, leave_nx, leave_er, ifE_a, ifa_t, ifa_f, notT_a, nta_ok, andT_a, ana_t, ana_f, orT_a, ora_t, ora_f, tstE_a, tsa_b, andE_a, aEa_t, aEa_f, orE_a, oEa_t, oEa_f, notE_a, nEa_ok, add_ii, sub_ii, gt_ii, lt_ii, ge_ii, le_ii, setT_a, consT_a, cTa_ok, nilT_a, tupT_a, seqT_t, seqT_l, forS_a, List.map_cons, List.map_nil, List.length_cons, List.length_nil, Nat.reduceAdd, Nat.reduceSub, Nat.zero_add, Nat.add_zero, List.replicate, List.cons_append, List.nil_append, List.append_nil, List.getElem?_cons_zero, List.getElem?_cons_succ, List.set_cons_zero, List.set_cons_succ, List.getElem?_nil, Option.map_some, Option.map_none, Option.bind_some, if_true, if_false, ite_true, ite_false, eq_self_iff_true, and_self, and_true, true_and, decide_true, decide_false, Bool.false_eq_true, Bool.not_true, Bool.not_false, sizeLine, Nat.reducePow, Nat.reduceLeDiff, Nat.zero_le, pow_7, pow_18, pow_40, Ev]
      · by_cases h1 : s < 0
        · rw [if_pos h1] at hf
          have hme : methE appM (getV 6) (consA (getV 7) nilA) [some (.d (.int c)), some (.d (.list ((pathL E a L).map nD))), some (.d (.list (intsD G))), some (.d (.list (intsD N))), some (.d (.int (-lo))), some (.d (.int pr)), some (.h M.length), some (.d (nD j)), some (.d (nD (fI E j a))), some (.d (.int s))] (M ++ [.lst (intsD F)]) = .ok (.d .none) (M ++ [.lst (intsD F2)]) := by
            rw [methE_at (i := M.length) (xs0 := intsD F) (xs := intsD F) (ys := [.d (.int (j : Nat))]) (M2 := M ++ [.lst (intsD F)]) (by simp only [defM, startE, seqS_a, setS_a, bindS_ok, bindS_er, then_nx, then_rt, then_er, ifS_a, ifK_t, ifK_f, retS_a, dropS_a, asgS_a, asK_a, goG_ok, subT_a, nopS_a, getV_0, getV_s, cst_a, op2_a, o2a_ok, o2b_ok, opT_a, oTa_ok, oTb_ok, consA_a, cAa_ok, cAb_ok, nilA_a, callF_a, cFa_ok, callE_a, cEa_ok, newE_a, nwa_ok, datE_a, dta_ok, dispE_a, tupE_a, tpa_ok, asDs_a, datas, bind_ok, pur_ok, bool_b, leave_d, leave_nx, leave_er, ifE_a, ifa_t, ifa_f, notT_a, nta_ok, andT_a, ana_t, ana_f, orT_a, ora_t, ora_f, tstE_a, tsa_b, andE_a, aEa_t, aEa_f, orE_a, oEa_t, oEa_f, notE_a, nEa_ok, add_ii, sub_ii, gt_ii, lt_ii, ge_ii, le_ii, setT_a, consT_a, cTa_ok, nilT_a, tupT_a, seqT_t, seqT_l, forS_a, List.map_cons, List.map_nil, List.length_cons, List.length_nil, Nat.reduceAdd, Nat.reduceSub, Nat.zero_add, Nat.add_zero, List.replicate, List.cons_append, List.nil_append, List.append_nil, List.getElem?_cons_zero, List.getElem?_cons_succ, List.set_cons_zero, List.set_cons_succ, List.getElem?_nil, Option.map_some, Option.map_none, Option.bind_some, if_true, if_false, ite_true, ite_false, eq_self_iff_true, and_self, and_true, true_and, decide_true, decide_false, Bool.false_eq_true, Bool.not_true, Bool.not_false, sizeLine, Nat.reducePow, Nat.reduceLeDiff, Nat.zero_le, pow_7, pow_18, pow_40]) (m1_a rfl) (by simp only [defM, startE, seqS_a, setS_a, bindS_ok, bindS_er, then_nx, then_rt, then_er, ifS_a, ifK_t, ifK_f, retS_a, dropS_a, asgS_a, asK_a, goG_ok, subT_a, nopS_a, getV_0, getV_s, cst_a, op2_a, o2a_ok, o2b_ok, opT_a, oTa_ok, oTb_ok, consA_a, cAa_ok, cAb_ok, nilA_a, callF_a, cFa_ok, callE_a, cEa_ok, newE_a, nwa_ok, datE_a, dta_ok, dispE_a, tupE_a, tpa_ok, asDs_a, datas, bind_ok, pur_ok, bool_b, leave_d, leave_nx, leave_er, ifE_a, ifa_t, ifa_f, notT_a, nta_ok, andT_a, ana_t, ana_f, orT_a, ora_t, ora_f, tstE_a, tsa_b, andE_a, aEa_t, aEa_f, orE_a, oEa_t, oEa_f, notE_a, nEa_ok, add_ii, sub_ii, gt_ii, lt_ii, ge_ii, le_ii, setT_a, consT_a, cTa_ok, nilT_a, tupT_a, seqT_t, seqT_l, forS_a, List.map_cons, List.map_nil, List.length_cons, List.length_nil, Nat.reduceAdd, Nat.reduceSub, Nat.zero_add, Nat.add_zero, List.replicate, List.cons_append, List.nil_append, List.append_nil, List.getElem?_cons_zero, List.getElem?_cons_succ, List.set_cons_zero, List.set_cons_succ, List.getElem?_nil, Option.map_some, Option.map_none, Option.bind_some, if_true, if_false, ite_true, ite_false, eq_self_iff_true, and_self, and_true, true_and, decide_true, decide_false, Bool.false_eq_true, Bool.not_true, Bool.not_false, sizeLine, Nat.reducePow, Nat.reduceLeDiff, Nat.zero_le, pow_7, pow_18, pow_40]) (m1_a rfl), app, hf]
            rfl
          simp only [defM, startE, seqS_a, setS_a, bindS_ok, bindS_er, then_nx, then_rt, then_er, ifS_a, ifK_t, ifK_f, retS_a, dropS_a, asgS_a, asK_a, goG_ok, subT_a, nopS_a, getV_0, getV_s, cst_a, op2_a, o2a_ok, o2b_ok, opT_a, oTa_ok, oTb_ok, consA_a, cAa_ok, cAb_ok, nilA_a, callF_a, cFa_ok, callE_a, cEa_ok, newE_a, nwa_ok, datE_a, dta_ok, dispE_a, tupE_a, tpa_ok, asDs_a, datas, bind_ok, pur_ok, bool_b, leave_d, leave_nx, leave_er, ifE_a, ifa_t, ifa_f, notT_a, nta_ok, andT_a, ana_t, ana_f, orT_a, ora_t, ora_f, tstE_a, tsa_b, andE_a, aEa_t, aEa_f, orE_a, oEa_t, oEa_f, notE_a, nEa_ok, add_ii, sub_ii, gt_ii, lt_ii, ge_ii, le_ii, setT_a, consT_a, cTa_ok, nilT_a, tupT_a, seqT_t, seqT_l, forS_a, List.map_cons, List.map_nil, List.length_cons, List.length_nil, Nat.reduceAdd, Nat.reduceSub, Nat.zero_add, Nat.add_zero, List.replicate, List.cons_append, List.nil_append, List.append_nil, List.getElem?_cons_zero, List.getElem?_cons_succ, List.set_cons_zero, List.set_cons_succ, List.getElem?_nil, Option.map_some, Option.map_none, Option.bind_some, if_true, if_false, ite_true, ite_false, eq_self_iff_true, and_self, and_true, true_and, decide_true, decide_false, Bool.false_eq_true, Bool.not_true, Bool.not_false, sizeLine, Nat.reducePow, Nat.reduceLeDiff, Nat.zero_le, pow_7, pow_18, pow_40, Ev, y1, hsp, h1, hme, augS, lift_eq, y2]
        · rw [if_neg h1] at hf
          by_cases h2 : 0 < -lo
          · rw [if_pos h2] at hf
            have hdv : ∀ P : Mem, fdivV (.d (.int s)) (.d (.int (-lo))) P = .ok (.d (.int (s / -lo))) P := fun P => fdiv_ii h2 (by omega)
            have hmu : ∀ P : Mem, mulV (.d (.int (s / -lo + 1))) (.d (.int (L : Nat))) P = .ok (.d (.int ((s / -lo + 1) * (L : Nat)))) P := fun P => mul_ii (.inr (by omega))
            have hme : (methE appM (getV 6) (consA (op2 addV (op2 mulV (op2 addV (op2 fdivV (getV 9) (getV 4)) (cst (.d (.int 1)))) (callE lenV (consA (getV 1) nilA))) (getV 7)) nilA)) [some (.d (.int c)), some (.d (.list ((pathL E a L).map nD))), some (.d (.list (intsD G))), some (.d (.list (intsD N))), some (.d (.int (-lo))), some (.d (.int pr)), some (.h M.length), some (.d (nD j)), some (.d (nD (fI E j a))), some (.d (.int s))] (M ++ [.lst (intsD F)]) = .ok (.d .none) (M ++ [.lst (intsD F2)]) := by
              rw [methE_at (i := M.length) (xs0 := intsD F) (xs := intsD F) (ys := [.d (.int ((s / -lo + 1) * (L : Nat) + (j : Nat)))]) (M2 := M ++ [.lst (intsD F)]) (by simp only [defM, startE, seqS_a, setS_a, bindS_ok, bindS_er, then_nx, then_rt, then_er, ifS_a, ifK_t, ifK_f, retS_a, dropS_a, asgS_a, asK_a, goG_ok, subT_a, nopS_a, getV_0, getV_s, cst_a, op2_a, o2a_ok, o2b_ok, opT_a, oTa_ok, oTb_ok, consA_a, cAa_ok, cAb_ok, nilA_a, callF_a, cFa_ok, callE_a, cEa_ok, newE_a, nwa_ok, datE_a, dta_ok, dispE_a, tupE_a, tpa_ok, asDs_a, datas, bind_ok, pur_ok, bool_b, leave_d, leave_nx, leave_er, ifE_a, ifa_t, ifa_f, notT_a, nta_ok, andT_a, ana_t, ana_f, orT_a, ora_t, ora_f, tstE_a, tsa_b, andE_a, aEa_t, aEa_f, orE_a, oEa_t, oEa_f, notE_a, nEa_ok, add_ii, sub_ii, gt_ii, lt_ii, ge_ii, le_ii, setT_a, consT_a, cTa_ok, nilT_a, tupT_a, seqT_t, seqT_l, forS_a, List.map_cons, List.map_nil, List.length_cons, List.length_nil, Nat.reduceAdd, Nat.reduceSub, Nat.zero_add, Nat.add_zero, List.replicate, List.cons_append, List.nil_append, List.append_nil, List.getElem?_cons_zero, List.getElem?_cons_succ, List.set_cons_zero, List.set_cons_succ, List.getElem?_nil, Option.map_some, Option.map_none, Option.bind_some, if_true, if_false, ite_true, ite_false, eq_self_iff_true, and_self, and_true, true_and, decide_true, decide_false, Bool.false_eq_true, Bool.not_true, Bool.not_false, sizeLine, Nat.reducePow, Nat.reduceLeDiff, Nat.zero_le, pow_7, pow_18, pow_40]) (m1_a rfl) (by simp only [defM, startE, seqS_a, setS_a, bindS_ok, bindS_er, then_nx, then_rt, then_er, ifS_a, ifK_t, ifK_f, retS_a, dropS_a, asgS_a, asK_a, goG_ok, subT_a, nopS_a, getV_0, getV_s, cst_a, op2_a, o2a_ok, o2b_ok, opT_a, oTa_ok, oTb_ok, consA_a, cAa_ok, cAb_ok, nilA_a, callF_a, cFa_ok, callE_a, cEa_ok, newE_a, nwa_ok, datE_a, dta_ok, dispE_a, tupE_a, tpa_ok, asDs_a, datas, bind_ok, pur_ok, bool_b, leave_d, leave_nx, leave_er, ifE_a, ifa_t, ifa_f, notT_a, nta_ok, andT_a, ana_t, ana_f, orT_a, ora_t, ora_f, tstE_a, tsa_b, andE_a, aEa_t, aEa_f, orE_a, oEa_t, oEa_f, notE_a, nEa_ok, add_ii, sub_ii, gt_ii, lt_ii, ge_ii, le_ii, setT_a, consT_a, cTa_ok, nilT_a, tupT_a, seqT_t, seqT_l, forS_a, List.map_cons, List.map_nil, List.length_cons, List.length_nil, Nat.reduceAdd, Nat.reduceSub, Nat.zero_add, Nat.add_zero, List.replicate, List.cons_append, List.nil_append, List.append_nil, List.getElem?_cons_zero, List.getElem?_cons_succ, List.set_cons_zero, List.set_cons_succ, List.getElem?_nil, Option.map_some, Option.map_none, Option.bind_some, if_true, if_false, ite_true, ite_false, eq_self_iff_true, and_self, and_true, true_and, decide_true, decide_false, Bool.false_eq_true, Bool.not_true, Bool.not_false, sizeLine, Nat.reducePow, Nat.reduceLeDiff, Nat.zero_le, pow_7, pow_18, pow_40, hdv, hle, hmu]) (m1_a rfl), app, hf]
              rfl
            simp only [defM, startE, seqS_a, setS_a, bindS_ok, bindS_er, then_nx, then_rt, then_er, ifS_a, ifK_t, ifK_f, retS_a, dropS_a, asgS_a, asK_a, goG_ok, subT_a, nopS_a, getV_0, getV_s, cst_a, op2_a, o2a_ok, o2b_ok, opT_a, oTa_ok, oTb_ok, consA_a, cAa_ok, cAb_ok, nilA_a, callF_a, cFa_ok, callE_a, cEa_ok, newE_a, nwa_ok, datE_a, dta_ok, dispE_a, tupE_a, tpa_ok, asDs_a, datas, bind_ok, pur_ok, bool_b, leave_d, leave_nx, leave_er, ifE_a, ifa_t, ifa_f, notT_a, nta_ok, andT_a, ana_t, ana_f, orT_a, ora_t, ora_f, tstE_a, tsa_b, andE_a, aEa_t, aEa_f, orE_a, oEa_t, oEa_f, notE_a, nEa_ok, add_ii, sub_ii, gt_ii, lt_ii, ge_ii, le_ii, setT_a, consT_a, cTa_ok, nilT_a, tupT_a, seqT_t, seqT_l, forS_a, List.map_cons, List.map_nil, List.length_cons, List.length_nil, Nat.reduceAdd, Nat.reduceSub, Nat.zero_add, Nat.add_zero, List.replicate, List.cons_append, List.nil_append, List.append_nil, List.getElem?_cons_zero, List.getElem?_cons_succ, List.set_cons_zero, List.set_cons_succ, List.getElem?_nil, Option.map_some, Option.map_none, Option.bind_some, if_true, if_false, ite_true, ite_false, eq_self_iff_true, and_self, and_true, true_and, decide_true, decide_false, Bool.false_eq_true, Bool.not_true, Bool.not_false, sizeLine, Nat.reducePow, Nat.reduceLeDiff, Nat.zero_le, pow_7, pow_18, pow_40, Ev, y1, hsp, h1, h2, hme, augS, lift_eq, y2]
          · rw [if_neg h2] at hf
            have hf : F2 = F := by rw [hf]; exact List.append_nil F
            rw [hf]
            simp only [defM, startE, seqS_a, setS_a, bindS_ok, bindS_er, then_nx, then_rt, then_er, ifS_a, ifK_t, ifK_f, retS_a, dropS_a, asgS_a, asK_a, goG_ok, subT_a, nopS_a, getV_0, getV_s, cst_a, op2_a, o2a_ok, o2b_ok, opT_a, oTa_ok, oTb_ok, consA_a, cAa_ok, cAb_ok, nilA_a, callF_a, cFa_ok, callE_a, cEa_ok, newE_a, nwa_ok, datE_a, dta_ok, dispE_a, tupE_a, tpa_ok, asDs_a, datas, bind_ok, pur_ok, bool_b, leave_d, leave_nx, leave_er, ifE_a, ifa_t, ifa_f, notT_a, nta_ok, andT_a, ana_t, ana_f, orT_a, ora_t, ora_f, tstE_a, tsa_b, andE_a, aEa_t, aEa_f, orE_a, oEa_t, oEa_f, notE_a, nEa_ok, add_ii, sub_ii, gt_ii, lt_ii, ge_ii, le_ii, setT_a, consT_a, cTa_ok, nilT_a, tupT_a, seqT_t, seqT_l, forS_a, List.map_cons, List.map_nil, List.length_cons, List.length_nil, Nat.reduceAdd, Nat.reduceSub, Nat.zero_add, Nat.add_zero, List.replicate, List.cons_append, List.nil_append, List.append_nil, List.getElem?_cons_zero, List.getElem?_cons_succ, List.set_cons_zero, List.set_cons_succ, List.getElem?_nil, Option.map_some, Option.map_none, Option.bind_some, if_true, if_false, ite_true, ite_false, eq_self_iff_true, and_self, and_true, true_and, decide_true, decide_false, Bool.false_eq_true, Bool.not_true, Bool.not_false, sizeLine, Nat.reducePow, Nat.reduceLeDiff, Nat.zero_le, pow_7, pow_18, pow_40, Ev, y1, hsp, h1, h2, augS, lift_eq, y2])
    ⟨none, none, none, by show _ = Ev (some (.d (.int (c + 0)))) _ _ _; rw [Int.add_zero], rfl⟩
  have hnl : (numD ((pathL E a L).map nD)).length = L := by rw [numD_len, List.length_map, hpl]
  rw [hnl] at el
  have fz : freeze 6 (Ev (some (.d (.int (c + cI E G L a)))) v7 v8 v9) (M ++ [.lst (intsD (fo L))]) = _ := jfz (L := M.length) (k := 0) rfl rfl rfl
  simp only [Ev] at el fz hen
  have hmi : ∀ (e : Env) (P : Mem), getV 6 e P = .ok (.d (.list (intsD (fo L)))) P → minDE (getV 6) e P = .ok (.d (minDD (fo L))) P := fun e P he => minDE_a he
  have hng : ∀ (e : Env) (P : Mem), callF 2 m_gain_of (consA (getV 1) (consA (getV 2) nilA)) e P = .ok (.d (.int lo)) P → negE (callF 2 m_gain_of (consA (getV 1) (consA (getV 2) nilA))) e P = .ok (.d (.int (-lo))) P := fun e P he => by
    unfold negE
    rw [he, bind_ok]
  have hn1 := hng [some (.d (.int c)), some (.d (.list ((pathL E a L).map nD))), some (.d (.list (intsD G))), some (.d (.list (intsD N))), none, none, none, none, none, none] M (by simp only [defM, startE, seqS_a, setS_a, bindS_ok, bindS_er, then_nx, then_rt, then_er, ifS_a, ifK_t, ifK_f, retS_a, dropS_a, asgS_a, asK_a, goG_ok, subT_a, nopS_a, getV_0, getV_s, cst_a, op2_a, o2a_ok, o2b_ok, opT_a, oTa_ok, oTb_ok, consA_a, cAa_ok, cAb_ok, nilA_a, callF_a, cFa_ok, callE_a, cEa_ok, newE_a, nwa_ok, datE_a, dta_ok, dispE_a, tupE_a, tpa_ok, asDs_a, datas, bind_ok, pur_ok, bool_b, leave_d, leave_nx, leave_er, ifE_a, ifa_t, ifa_f, notT_a, nta_ok, andT_a, ana_t, ana_f, orT_a, ora_t, ora_f, tstE_a, tsa_b, andE_a, aEa_t, aEa_f, orE_a, oEa_t, oEa_f, notE_a, nEa_ok, add_ii, sub_ii, gt_ii, lt_ii, ge_ii, le_ii, setT_a, consT_a, cTa_ok, nilT_a, tupT_a, seqT_t, seqT_l, forS_a, List.map_cons, List.map_nil, List.length_cons, List.length_nil, Nat.reduceAdd, Nat.reduceSub, Nat.zero_add, Nat.add_zero, List.replicate, List.cons_append, List.nil_append, List.append_nil, List.getElem?_cons_zero, List.getElem?_cons_succ, List.set_cons_zero, List.set_cons_succ, List.getElem?_nil, Option.map_some, Option.map_none, Option.bind_some, if_true, if_false, ite_true, ite_false, eq_self_iff_true, and_self, and_true, true_and, decide_true, decide_false, Bool.false_eq_true, Bool.not_true, Bool.not_false, sizeLine, Nat.reducePow, Nat.reduceLeDiff, Nat.zero_le, pow_7, pow_18, pow_40, hgo])
  have hm1 := fun v7 v8 v9 => hmi [some (.d (.int c)), some (.d (.list ((pathL E a L).map nD))), some (.d (.list (intsD G))), some (.d (.list (intsD N))), some (.d (.int (-lo))), some (.d (.int (c + cI E G L a))), some (.d (.list (intsD (fo L)))), v7, v8, v9] (M ++ [.gone]) (by simp only [defM, startE, seqS_a, setS_a, bindS_ok, bindS_er, then_nx, then_rt, then_er, ifS_a, ifK_t, ifK_f, retS_a, dropS_a, asgS_a, asK_a, goG_ok, subT_a, nopS_a, getV_0, getV_s, cst_a, op2_a, o2a_ok, o2b_ok, opT_a, oTa_ok, oTb_ok, consA_a, cAa_ok, cAb_ok, nilA_a, callF_a, cFa_ok, callE_a, cEa_ok, newE_a, nwa_ok, datE_a, dta_ok, dispE_a, tupE_a, tpa_ok, asDs_a, datas, bind_ok, pur_ok, bool_b, leave_d, leave_nx, leave_er, ifE_a, ifa_t, ifa_f, notT_a, nta_ok, andT_a, ana_t, ana_f, orT_a, ora_t, ora_f, tstE_a, tsa_b, andE_a, aEa_t, aEa_f, orE_a, oEa_t, oEa_f, notE_a, nEa_ok, add_ii, sub_ii, gt_ii, lt_ii, ge_ii, le_ii, setT_a, consT_a, cTa_ok, nilT_a, tupT_a, seqT_t, seqT_l, forS_a, List.map_cons, List.map_nil, List.length_cons, List.length_nil, Nat.reduceAdd, Nat.reduceSub, Nat.zero_add, Nat.add_zero, List.replicate, List.cons_append, List.nil_append, List.append_nil, List.getElem?_cons_zero, List.getElem?_cons_succ, List.set_cons_zero, List.set_cons_succ, List.getElem?_nil, Option.map_some, Option.map_none, Option.bind_some, if_true, if_false, ite_true, ite_false, eq_self_iff_true, and_self, and_true, true_and, decide_true, decide_false, Bool.false_eq_true, Bool.not_true, Bool.not_false, sizeLine, Nat.reducePow, Nat.reduceLeDiff, Nat.zero_le, pow_7, pow_18, pow_40])
  show m_passes_paid _ M = .ok (.d (minDD (fo L))) M
  unfold m_passes_paid g_passes_paid
  simp only [defM, startE, seqS_a, setS_a, bindS_ok, bindS_er, then_nx, then_rt, then_er, ifS_a, ifK_t, ifK_f, retS_a, dropS_a, asgS_a, asK_a, goG_ok, subT_a, nopS_a, getV_0, getV_s, cst_a, op2_a, o2a_ok, o2b_ok, opT_a, oTa_ok, oTb_ok, consA_a, cAa_ok, cAb_ok, nilA_a, callF_a, cFa_ok, callE_a, cEa_ok, newE_a, nwa_ok, datE_a, dta_ok, dispE_a, tupE_a, tpa_ok, asDs_a, datas, bind_ok, pur_ok, bool_b, leave_d, leave_nx, leave_er, ifE_a, ifa_t, ifa_f, notT_a, nta_ok, andT_a, ana_t, ana_f, orT_a, ora_t, ora_f, tstE_a, tsa_b, andE_a, aEa_t, aEa_f, orE_a, oEa_t, oEa_f, notE_a, nEa_ok, add_ii, sub_ii, gt_ii, lt_ii, ge_ii, le_ii, setT_a, consT_a, cTa_ok, nilT_a, tupT_a, seqT_t, seqT_l, forS_a, List.map_cons, List.map_nil, List.length_cons, List.length_nil, Nat.reduceAdd, Nat.reduceSub, Nat.zero_add, Nat.add_zero, List.replicate, List.cons_append, List.nil_append, List.append_nil, List.getElem?_cons_zero, List.getElem?_cons_succ, List.set_cons_zero, List.set_cons_succ, List.getElem?_nil, Option.map_some, Option.map_none, Option.bind_some, if_true, if_false, ite_true, ite_false, eq_self_iff_true, and_self, and_true, true_and, decide_true, decide_false, Bool.false_eq_true, Bool.not_true, Bool.not_false, sizeLine, Nat.reducePow, Nat.reduceLeDiff, Nat.zero_le, pow_7, pow_18, pow_40, hn1, parS_a, hen, el, fz, hm1]
  rw [List.take_append_of_le_length (by simp), take_all (by simp)]
end B
end DL
namespace DL
namespace B
open PySem PySem.Spec L2 DL DL.C
/-- ends, gains and needs of a row -/
abbrev oE (n : Nat) (cs : List Nat) : List Nat := backL (opL n cs).1
abbrev oG (n : Nat) (cs : List Nat) : List Int := (opL n cs).2.1
abbrev oN (n : Nat) (cs : List Nat) : List Int := (opL n cs).2.2
theorem inv_back {n : Nat} {P : List Nat} (h : P.Perm (List.range n)) : Inv2 P (backL P) := by
  have hst : Stt n P (List.replicate n 0) := ⟨h, by simp, fun p hp => by rw [List.eq_of_mem_replicate hp]; exact Int.le_refl _⟩
  exact ⟨backL_len, fun k x hx => back_at hst hx⟩
theorem numOD_list : ∀ ds : List PyData, (∀ d ∈ ds, d = .none ∨ ∃ v, d = .int v) → ds.filter (fun z => !noneB z) = intsD (ds.filterMap numOD)
  | [], _ => rfl
  | d :: ds, h => by
    have ih := numOD_list ds fun x hx => h x (List.mem_cons_of_mem _ hx)
    rcases h d List.mem_cons_self with rfl | ⟨v, rfl⟩
    · rw [List.filterMap_cons_none (f := numOD) rfl]
      exact ih
    · rw [List.filterMap_cons_some (f := numOD) (b := v) rfl]
      show PyData.int v :: ds.filter _ = PyData.int v :: _
      rw [ih]
theorem many_ok {n : Nat} {cs ss : List Nat} {ps : List Int} {x y : Vl} {M : Mem} (h : Stt n ss ps) (h2 : 2 ≤ n) (hn : n ≤ 1000) (hc : ∀ c ∈ cs, c < n) (hl : cs.length ≤ 1000) (hx : StV x ss ps) (hy : walkOf y = some (cs.map nD)) :
    m_passes_many [x, y] M = .ok (.d (minDD (manyL n (oE n cs) (oG n cs) (oN n cs) ss ps))) M := by
  have hsz : sizeLine = 2 ^ 24 := rfl
  have hsl := h.slen
  have O := opL_ok h2 _ cs rfl hc
  have hop := one_pass_ok (M := M) h2 hn hc hy
  have hE : EP n (backL (opL n cs).1) := EP.of O.perm (inv_back O.perm)
  have hEl : (backL (opL n cs).1).length = n := by show (backL _).length = n; rw [backL_len, O.perm.length_eq, List.length_range]
  have hG := O.gl
  have hN := O.nl
  have hb : ∀ g ∈ (opL n cs).2.1, -(2 ^ 20) ≤ g ∧ g ≤ 2 ^ 20 := fun g hg => by
    have := opL_bound h2 _ cs rfl hc g hg
    omega
  show m_passes_many [x, y] M = .ok (.d (minDD (manyL n (backL (opL n cs).1) (opL n cs).2.1 (opL n cs).2.2 ss ps))) M
  have hop : m_one_pass [.d (nD n), y] M = .ok (.d (.tuple [.tuple ((backL (opL n cs).1).map nD), .list (intsD (opL n cs).2.1), .list (intsD (opL n cs).2.2)])) M := hop
  generalize backL (opL n cs).1 = E at *
  generalize (opL n cs).2.1 = G at *
  generalize (opL n cs).2.2 = K at *
  obtain ⟨A, B, hu, hA, hB, _⟩ := hx.two
  have hle : ∀ N : Mem, lenV [.d A] N = .ok (.d (.int (n : Nat))) N := fun N => by rw [hA.len, List.length_map, hsl]
  let F : PyData → PyData := fun z => match z with | .tuple [.int a, .int c] => minDD (firstL n E G K a.toNat c) | z => z
  have hlc1 : (lcE [8, 9] (zipI (getV 2) (getV 3)) (tupT 2 (consT (setT 8) (consT (setT 9) nilT))) (fun _ M => .ok true M) (callF 4 m_passes_paid (consA (getV 9) (consA (callF 2 m_circuit (consA (getV 4) (consA (getV 8) nilA))) (consA (getV 5) (consA (getV 6) nilA)))))) [some x, some y, some (.d A), some (.d B), some (.d (.tuple (E.map nD))), some (.d (.list (intsD G))), some (.d (.list (intsD K))), none, none, none, none] M = .ok ((zipD (ss.map nD) (intsD ps)).map F) M := by
    rw [lcE_at (zipI_a (x := .d A) (y := .d B) (p := (ss.map nD, intsD ps)) (M1 := M) (M2 := M) (by simp only [defM, startE, seqS_a, setS_a, bindS_ok, bindS_er, then_nx, then_rt, then_er, ifS_a, ifK_t, ifK_f, retS_a, dropS_a, asgS_a, asK_a, goG_ok, subT_a, nopS_a, getV_0, getV_s, cst_a, op2_a, o2a_ok, o2b_ok, opT_a, oTa_ok, oTb_ok, consA_a, cAa_ok, cAb_ok, nilA_a, callF_a, cFa_ok, callE_a, cEa_ok, newE_a, nwa_ok, datE_a, dta_ok, dispE_a, tupE_a, tpa_ok, asDs_a, datas, bind_ok, pur_ok, bool_b, leave_d, leave_nx, leave_er, ifE_a, ifa_t, ifa_f, notT_a, nta_ok, andT_a, ana_t, ana_f, orT_a, ora_t, ora_f, tstE_a, tsa_b, andE_a, aEa_t, aEa_f, orE_a, oEa_t, oEa_f, notE_a, nEa_ok, add_ii, sub_ii, gt_ii, lt_ii, ge_ii, le_ii, setT_a, consT_a, cTa_ok, nilT_a, tupT_a, seqT_t, seqT_l, forS_a, List.map_cons, List.map_nil, List.length_cons, List.length_nil, Nat.reduceAdd, Nat.reduceSub, Nat.zero_add, Nat.add_zero, List.replicate, List.cons_append, List.nil_append, List.append_nil, List.getElem?_cons_zero, List.getElem?_cons_succ, List.set_cons_zero, List.set_cons_succ, List.getElem?_nil, Option.map_some, Option.map_none, Option.bind_some, if_true, if_false, ite_true, ite_false, eq_self_iff_true, and_self, and_true, true_and, decide_true, decide_false, Bool.false_eq_true, Bool.not_true, Bool.not_false, sizeLine, Nat.reducePow, Nat.reduceLeDiff, Nat.zero_le, pow_7, pow_18, pow_40]) (by simp only [defM, startE, seqS_a, setS_a, bindS_ok, bindS_er, then_nx, then_rt, then_er, ifS_a, ifK_t, ifK_f, retS_a, dropS_a, asgS_a, asK_a, goG_ok, subT_a, nopS_a, getV_0, getV_s, cst_a, op2_a, o2a_ok, o2b_ok, opT_a, oTa_ok, oTb_ok, consA_a, cAa_ok, cAb_ok, nilA_a, callF_a, cFa_ok, callE_a, cEa_ok, newE_a, nwa_ok, datE_a, dta_ok, dispE_a, tupE_a, tpa_ok, asDs_a, datas, bind_ok, pur_ok, bool_b, leave_d, leave_nx, leave_er, ifE_a, ifa_t, ifa_f, notT_a, nta_ok, andT_a, ana_t, ana_f, orT_a, ora_t, ora_f, tstE_a, tsa_b, andE_a, aEa_t, aEa_f, orE_a, oEa_t, oEa_f, notE_a, nEa_ok, add_ii, sub_ii, gt_ii, lt_ii, ge_ii, le_ii, setT_a, consT_a, cTa_ok, nilT_a, tupT_a, seqT_t, seqT_l, forS_a, List.map_cons, List.map_nil, List.length_cons, List.length_nil, Nat.reduceAdd, Nat.reduceSub, Nat.zero_add, Nat.add_zero, List.replicate, List.cons_append, List.nil_append, List.append_nil, List.getElem?_cons_zero, List.getElem?_cons_succ, List.set_cons_zero, List.set_cons_succ, List.getElem?_nil, Option.map_some, Option.map_none, Option.bind_some, if_true, if_false, ite_true, ite_false, eq_self_iff_true, and_self, and_true, true_and, decide_true, decide_false, Bool.false_eq_true, Bool.not_true, Bool.not_false, sizeLine, Nat.reducePow, Nat.reduceLeDiff, Nat.zero_le, pow_7, pow_18, pow_40]) (SeqV.zip hA hB))]
    refine lcL_map F _ [] (by rw [hsz, zipD_len]; simp [hsl]; omega) fun z hz => ?_
    unfold zipD at hz
    obtain ⟨⟨u, v⟩, hp, rfl⟩ := List.mem_map.mp hz
    obtain ⟨a, ha, rfl⟩ := List.mem_map.mp (List.of_mem_zip hp).1
    obtain ⟨c, _, rfl⟩ := List.mem_map.mp (List.of_mem_zip hp).2
    obtain ⟨k, hk⟩ := List.getElem?_of_mem ha
    have han := h.lt hk
    have q1 : ∀ N : Mem, m_circuit [.d (.tuple (E.map nD)), .d (nD a)] N = .ok (.d (.list ((pathL E a (cl n E a)).map nD))) N := fun N => circuit_ok hE hEl hn han (hE.cl han)
    have q2 : ∀ N : Mem, m_passes_paid [.d (.int c), .d (.list ((pathL E a (cl n E a)).map nD)), .d (.list (intsD G)), .d (.list (intsD K))] N = .ok (.d (minDD (firstL n E G K a c))) N := fun N => paid_ok hE hG hN hb hn han (hE.cl han)
    refine ⟨[some x, some y, some (.d A), some (.d B), some (.d (.tuple (E.map nD))), some (.d (.list (intsD G))), some (.d (.list (intsD K))), none, some (.d (nD a)), some (.d (.int c)), none], ?_, rfl, ?_⟩
    · show tupT 2 _ _ [some x, some y, some (.d A), some (.d B), some (.d (.tuple (E.map nD))), some (.d (.list (intsD G))), some (.d (.list (intsD K))), none, none, none, none] M = _
      simp only [defM, startE, seqS_a, setS_a, bindS_ok, bindS_er, then_nx, then_rt, then_er, ifS_a, ifK_t, ifK_f, retS_a, dropS_a, asgS_a, asK_a, goG_ok, subT_a, nopS_a, getV_0, getV_s, cst_a, op2_a, o2a_ok, o2b_ok, opT_a, oTa_ok, oTb_ok, consA_a, cAa_ok, cAb_ok, nilA_a, callF_a, cFa_ok, callE_a, cEa_ok, newE_a, nwa_ok, datE_a, dta_ok, dispE_a, tupE_a, tpa_ok, asDs_a, datas, bind_ok, pur_ok, bool_b, leave_d, leave_nx, leave_er, ifE_a, ifa_t, ifa_f, notT_a, nta_ok, andT_a, ana_t, ana_f, orT_a, ora_t, ora_f, tstE_a, tsa_b, andE_a, aEa_t, aEa_f, orE_a, oEa_t, oEa_f, notE_a, nEa_ok, add_ii, sub_ii, gt_ii, lt_ii, ge_ii, le_ii, setT_a, consT_a, cTa_ok, nilT_a, tupT_a, seqT_t, seqT_l, forS_a, List.map_cons, List.map_nil, List.length_cons, List.length_nil, Nat.reduceAdd, Nat.reduceSub, Nat.zero_add, Nat.add_zero, List.replicate, List.cons_append, List.nil_append, List.append_nil, List.getElem?_cons_zero, List.getElem?_cons_succ, List.set_cons_zero, List.set_cons_succ, List.getElem?_nil, Option.map_some, Option.map_none, Option.bind_some, if_true, if_false, ite_true, ite_false, eq_self_iff_true, and_self, and_true, true_and, decide_true, decide_false, Bool.false_eq_true, Bool.not_true, Bool.not_false, sizeLine, Nat.reducePow, Nat.reduceLeDiff, Nat.zero_le, pow_7, pow_18, pow_40]
    · simp only [defM, startE, seqS_a, setS_a, bindS_ok, bindS_er, then_nx, then_rt, then_er, ifS_a, ifK_t, ifK_f, retS_a, dropS_a, asgS_a, asK_a, goG_ok, subT_a, nopS_a, getV_0, getV_s, cst_a, op2_a, o2a_ok, o2b_ok, opT_a, oTa_ok, oTb_ok, consA_a, cAa_ok, cAb_ok, nilA_a, callF_a, cFa_ok, callE_a, cEa_ok, newE_a, nwa_ok, datE_a, dta_ok, dispE_a, tupE_a, tpa_ok, asDs_a, datas, bind_ok, pur_ok, bool_b, leave_d, leave_nx, leave_er, ifE_a, ifa_t, ifa_f, notT_a, nta_ok, andT_a, ana_t, ana_f, orT_a, ora_t, ora_f, tstE_a, tsa_b, andE_a, aEa_t, aEa_f, orE_a, oEa_t, oEa_f, notE_a, nEa_ok, add_ii, sub_ii, gt_ii, lt_ii, ge_ii, le_ii, setT_a, consT_a, cTa_ok, nilT_a, tupT_a, seqT_t, seqT_l, forS_a, List.map_cons, List.map_nil, List.length_cons, List.length_nil, Nat.reduceAdd, Nat.reduceSub, Nat.zero_add, Nat.add_zero, List.replicate, List.cons_append, List.nil_append, List.append_nil, List.getElem?_cons_zero, List.getElem?_cons_succ, List.set_cons_zero, List.set_cons_succ, List.getElem?_nil, Option.map_some, Option.map_none, Option.bind_some, if_true, if_false, ite_true, ite_false, eq_self_iff_true, and_self, and_true, true_and, decide_true, decide_false, Bool.false_eq_true, Bool.not_true, Bool.not_false, sizeLine, Nat.reducePow, Nat.reduceLeDiff, Nat.zero_le, pow_7, pow_18, pow_40, q1, q2, F, Int.toNat_natCast]
  have hlc2 : ∀ ds : List PyData, ds.length ≤ 1000 → (lcE [10] (seqI (getV 7)) (setT 10) (opT isntV (getV 10) (cst (.d .none))) (getV 10)) [some x, some y, some (.d A), some (.d B), some (.d (.tuple (E.map nD))), some (.d (.list (intsD G))), some (.d (.list (intsD K))), some (.d (.list ds)), none, none, none] M = .ok (ds.filter fun z => !noneB z) M := fun ds hd => by
    rw [lcE_at (seqI_a (x := .d (.list ds)) (M1 := M) (by simp only [defM, startE, seqS_a, setS_a, bindS_ok, bindS_er, then_nx, then_rt, then_er, ifS_a, ifK_t, ifK_f, retS_a, dropS_a, asgS_a, asK_a, goG_ok, subT_a, nopS_a, getV_0, getV_s, cst_a, op2_a, o2a_ok, o2b_ok, opT_a, oTa_ok, oTb_ok, consA_a, cAa_ok, cAb_ok, nilA_a, callF_a, cFa_ok, callE_a, cEa_ok, newE_a, nwa_ok, datE_a, dta_ok, dispE_a, tupE_a, tpa_ok, asDs_a, datas, bind_ok, pur_ok, bool_b, leave_d, leave_nx, leave_er, ifE_a, ifa_t, ifa_f, notT_a, nta_ok, andT_a, ana_t, ana_f, orT_a, ora_t, ora_f, tstE_a, tsa_b, andE_a, aEa_t, aEa_f, orE_a, oEa_t, oEa_f, notE_a, nEa_ok, add_ii, sub_ii, gt_ii, lt_ii, ge_ii, le_ii, setT_a, consT_a, cTa_ok, nilT_a, tupT_a, seqT_t, seqT_l, forS_a, List.map_cons, List.map_nil, List.length_cons, List.length_nil, Nat.reduceAdd, Nat.reduceSub, Nat.zero_add, Nat.add_zero, List.replicate, List.cons_append, List.nil_append, List.append_nil, List.getElem?_cons_zero, List.getElem?_cons_succ, List.set_cons_zero, List.set_cons_succ, List.getElem?_nil, Option.map_some, Option.map_none, Option.bind_some, if_true, if_false, ite_true, ite_false, eq_self_iff_true, and_self, and_true, true_and, decide_true, decide_false, Bool.false_eq_true, Bool.not_true, Bool.not_false, sizeLine, Nat.reducePow, Nat.reduceLeDiff, Nat.zero_le, pow_7, pow_18, pow_40]) rfl)]
    rw [lcL_filter (fun z => !noneB z) id ds [] (by rw [hsz]; simp; omega) (fun z hz => ⟨[some x, some y, some (.d A), some (.d B), some (.d (.tuple (E.map nD))), some (.d (.list (intsD G))), some (.d (.list (intsD K))), some (.d (.list ds)), none, none, some (.d z)], rfl, by simp only [defM, startE, seqS_a, setS_a, bindS_ok, bindS_er, then_nx, then_rt, then_er, ifS_a, ifK_t, ifK_f, retS_a, dropS_a, asgS_a, asK_a, goG_ok, subT_a, nopS_a, getV_0, getV_s, cst_a, op2_a, o2a_ok, o2b_ok, opT_a, oTa_ok, oTb_ok, consA_a, cAa_ok, cAb_ok, nilA_a, callF_a, cFa_ok, callE_a, cEa_ok, newE_a, nwa_ok, datE_a, dta_ok, dispE_a, tupE_a, tpa_ok, asDs_a, datas, bind_ok, pur_ok, bool_b, leave_d, leave_nx, leave_er, ifE_a, ifa_t, ifa_f, notT_a, nta_ok, andT_a, ana_t, ana_f, orT_a, ora_t, ora_f, tstE_a, tsa_b, andE_a, aEa_t, aEa_f, orE_a, oEa_t, oEa_f, notE_a, nEa_ok, add_ii, sub_ii, gt_ii, lt_ii, ge_ii, le_ii, setT_a, consT_a, cTa_ok, nilT_a, tupT_a, seqT_t, seqT_l, forS_a, List.map_cons, List.map_nil, List.length_cons, List.length_nil, Nat.reduceAdd, Nat.reduceSub, Nat.zero_add, Nat.add_zero, List.replicate, List.cons_append, List.nil_append, List.append_nil, List.getElem?_cons_zero, List.getElem?_cons_succ, List.set_cons_zero, List.set_cons_succ, List.getElem?_nil, Option.map_some, Option.map_none, Option.bind_some, if_true, if_false, ite_true, ite_false, eq_self_iff_true, and_self, and_true, true_and, decide_true, decide_false, Bool.false_eq_true, Bool.not_true, Bool.not_false, sizeLine, Nat.reducePow, Nat.reduceLeDiff, Nat.zero_le, pow_7, pow_18, pow_40, isnt_n], fun _ => by simp only [defM, startE, seqS_a, setS_a, bindS_ok, bindS_er, then_nx, then_rt, then_er, ifS_a, ifK_t, ifK_f, retS_a, dropS_a, asgS_a, asK_a, goG_ok, subT_a, nopS_a, getV_0, getV_s, cst_a, op2_a, o2a_ok, o2b_ok, opT_a, oTa_ok, oTb_ok, consA_a, cAa_ok, cAb_ok, nilA_a, callF_a, cFa_ok, callE_a, cEa_ok, newE_a, nwa_ok, datE_a, dta_ok, dispE_a, tupE_a, tpa_ok, asDs_a, datas, bind_ok, pur_ok, bool_b, leave_d, leave_nx, leave_er, ifE_a, ifa_t, ifa_f, notT_a, nta_ok, andT_a, ana_t, ana_f, orT_a, ora_t, ora_f, tstE_a, tsa_b, andE_a, aEa_t, aEa_f, orE_a, oEa_t, oEa_f, notE_a, nEa_ok, add_ii, sub_ii, gt_ii, lt_ii, ge_ii, le_ii, setT_a, consT_a, cTa_ok, nilT_a, tupT_a, seqT_t, seqT_l, forS_a, List.map_cons, List.map_nil, List.length_cons, List.length_nil, Nat.reduceAdd, Nat.reduceSub, Nat.zero_add, Nat.add_zero, List.replicate, List.cons_append, List.nil_append, List.append_nil, List.getElem?_cons_zero, List.getElem?_cons_succ, List.set_cons_zero, List.set_cons_succ, List.getElem?_nil, Option.map_some, Option.map_none, Option.bind_some, if_true, if_false, ite_true, ite_false, eq_self_iff_true, and_self, and_true, true_and, decide_true, decide_false, Bool.false_eq_true, Bool.not_true, Bool.not_false, sizeLine, Nat.reducePow, Nat.reduceLeDiff, Nat.zero_le, pow_7, pow_18, pow_40, id_eq]⟩)]
    rw [List.map_id, List.nil_append]
  have hds : ((zipD (ss.map nD) (intsD ps)).map F).filter (fun z => !noneB z) = intsD (manyL n E G K ss ps) := by
    rw [numOD_list]
    · unfold manyL zipD
      rw [List.filterMap_map, List.filterMap_map, List.zip_map, List.filterMap_map]
      refine congrArg (fun f => intsD ((ss.zip ps).filterMap f)) (funext fun z => ?_)
      show numOD (minDD (firstL n E G K ((z.1 : Nat) : Int).toNat z.2)) = _
      rw [Int.toNat_natCast]
    · intro d hd
      obtain ⟨z, hz, rfl⟩ := List.mem_map.mp hd
      unfold zipD at hz
      obtain ⟨⟨u, v⟩, hp, rfl⟩ := List.mem_map.mp hz
      obtain ⟨a, _, rfl⟩ := List.mem_map.mp (List.of_mem_zip hp).1
      obtain ⟨c, _, rfl⟩ := List.mem_map.mp (List.of_mem_zip hp).2
      show minDD (firstL n E G K ((a : Nat) : Int).toNat c) = .none ∨ ∃ v, minDD (firstL n E G K ((a : Nat) : Int).toNat c) = .int v
      rcases minDD_spec (firstL n E G K ((a : Nat) : Int).toNat c) with ⟨_, e⟩ | ⟨m, e, _⟩
      · exact .inl e
      · exact .inr ⟨m, e⟩
  have hdl : ((zipD (ss.map nD) (intsD ps)).map F).length ≤ 1000 := by rw [List.length_map, zipD_len]; simp [hsl]; omega
  generalize (zipD (ss.map nD) (intsD ps)).map F = ds at *
  have hmin : minDE (datE ((lcE [10] (seqI (getV 7)) (setT 10) (opT isntV (getV 10) (cst (.d .none))) (getV 10)))) [some x, some y, some (.d A), some (.d B), some (.d (.tuple (E.map nD))), some (.d (.list (intsD G))), some (.d (.list (intsD K))), some (.d (.list ds)), none, none, none] M = .ok (.d (minDD (manyL n E G K ss ps))) M := minDE_a (by
    unfold datE
    rw [hlc2 ds hdl, bind_ok, hds])
  have hs3 : ∀ (δ : Tgs) (e : Env) (N : Mem), seqT 3 δ (.d (.tuple [.tuple (E.map nD), .list (intsD G), .list (intsD K)])) e N = δ [.tuple (E.map nD), .list (intsD G), .list (intsD K)] e N := fun δ e N => seqT_t rfl
  unfold m_passes_many g_passes_many
  simp only [defM, startE, seqS_a, setS_a, bindS_ok, bindS_er, then_nx, then_rt, then_er, ifS_a, ifK_t, ifK_f, retS_a, dropS_a, asgS_a, asK_a, goG_ok, subT_a, nopS_a, getV_0, getV_s, cst_a, op2_a, o2a_ok, o2b_ok, opT_a, oTa_ok, oTb_ok, consA_a, cAa_ok, cAb_ok, nilA_a, callF_a, cFa_ok, callE_a, cEa_ok, newE_a, nwa_ok, datE_a, dta_ok, dispE_a, tupE_a, tpa_ok, asDs_a, datas, bind_ok, pur_ok, bool_b, leave_d, leave_nx, leave_er, ifE_a, ifa_t, ifa_f, notT_a, nta_ok, andT_a, ana_t, ana_f, orT_a, ora_t, ora_f, tstE_a, tsa_b, andE_a, aEa_t, aEa_f, orE_a, oEa_t, oEa_f, notE_a, nEa_ok, add_ii, sub_ii, gt_ii, lt_ii, ge_ii, le_ii, setT_a, consT_a, cTa_ok, nilT_a, tupT_a, seqT_t, seqT_l, forS_a, List.map_cons, List.map_nil, List.length_cons, List.length_nil, Nat.reduceAdd, Nat.reduceSub, Nat.zero_add, Nat.add_zero, List.replicate, List.cons_append, List.nil_append, List.append_nil, List.getElem?_cons_zero, List.getElem?_cons_succ, List.set_cons_zero, List.set_cons_succ, List.getElem?_nil, Option.map_some, Option.map_none, Option.bind_some, if_true, if_false, ite_true, ite_false, eq_self_iff_true, and_self, and_true, true_and, decide_true, decide_false, Bool.false_eq_true, Bool.not_true, Bool.not_false, sizeLine, Nat.reducePow, Nat.reduceLeDiff, Nat.zero_le, pow_7, pow_18, pow_40, hu, hle, hop, hs3, hlc1, hmin]
  rw [take_all (by simp)]
end B
end DL
namespace DL
end DL
namespace DL
end DL
namespace DL
namespace B
open PySem PySem.Spec L2 DL
open DL.C (Bx getM Bx.mono)
theorem box_ok {ns : List Int} {k : Nat} (hk : k ≤ 1000) (hl : ns.length ≤ 1000) {M : Mem} : ∃ o, m_box [.s (ns.map PyData.int), .d (.int (k : Nat))] M = .ok (.h M.length) (M ++ [o]) ∧ Bx 0 o := by
  have key : ∀ c : Int, ∃ o, (∀ (v : Ev) , v = v) ∧ Bx 0 o ∧ o = .lst [.int ((if c < 0 then -c else c) * (if (decide (1000000000000000000 ≤ (if c < 0 then -c else c))) = true then (1 : Int) else 0)), .int (c % 2147483629 + 7919 * (k : Int) + 55), .int 0] := fun c => by
    refine ⟨_, fun _ => rfl, ⟨_, _, _, rfl, Int.mul_nonneg (by split <;> omega) (by split <;> omega), by omega, by omega, by omega, by omega⟩, rfl⟩
  by_cases h : k < ns.length
  · obtain ⟨c, hc⟩ := get_some h
    have hix : ∀ N : Mem, ixV (.s (ns.map PyData.int)) (.d (.int (k : Nat))) N = .ok (.d (.int c)) N := fun N => ixV_s (atI_some (by rw [List.getElem?_map, hc]; rfl))
    have hlt : (k : Int) < ((ns.length : Nat) : Int) := by omega
    obtain ⟨o, _, B, rfl⟩ := key c
    refine ⟨_, ?_, B⟩
    generalize hA : (if c < 0 then -c else c) = A
    generalize hb : (if (decide (1000000000000000000 ≤ A)) = true then (1 : Int) else 0) = b
    have hb0 : 0 ≤ b ∧ b ≤ 1 := by rw [← hb]; split <;> omega
    unfold m_box g_box
    simp only [defM, startE, seqS_a, setS_a, bindS_ok, bindS_er, then_nx, then_rt, then_er, ifS_a, ifK_t, ifK_f, retS_a, dropS_a, asgS_a, asK_a, goG_ok, subT_a, nopS_a, getV_0, getV_s, cst_a, op2_a, o2a_ok, o2b_ok, opT_a, oTa_ok, oTb_ok, consA_a, cAa_ok, cAb_ok, nilA_a, callF_a, cFa_ok, callE_a, cEa_ok, newE_a, nwa_ok, datE_a, dta_ok, dispE_a, tupE_a, tpa_ok, asDs_a, datas, bind_ok, pur_ok, bool_b, leave_d, leave_nx, leave_er, ifE_a, ifa_t, ifa_f, notT_a, nta_ok, andT_a, ana_t, ana_f, orT_a, ora_t, ora_f, tstE_a, tsa_b, andE_a, aEa_t, aEa_f, orE_a, oEa_t, oEa_f, notE_a, nEa_ok, add_ii, sub_ii, gt_ii, lt_ii, ge_ii, le_ii, setT_a, consT_a, cTa_ok, nilT_a, tupT_a, seqT_t, seqT_l, forS_a, List.map_cons, List.map_nil, List.length_cons, List.length_nil, Nat.reduceAdd, Nat.reduceSub, Nat.zero_add, Nat.add_zero, List.replicate, List.cons_append, List.nil_append, List.append_nil, List.getElem?_cons_zero, List.getElem?_cons_succ, List.set_cons_zero, List.set_cons_succ, List.getElem?_nil, Option.map_some, Option.map_none, Option.bind_some, if_true, if_false, ite_true, ite_false, eq_self_iff_true, and_self, and_true, true_and, decide_true, decide_false, Bool.false_eq_true, Bool.not_true, Bool.not_false, sizeLine, Nat.reducePow, Nat.reduceLeDiff, Nat.zero_le, pow_7, pow_18, pow_40, len_s, List.length_map, hlt, hix, abs_i, int_b, hA, hb, mul_ii (i := A) (j := b) (.inr (by omega)), mod_ii (show (0 : Int) < 2147483629 by decide), mul_ii (i := 7919) (j := (k : Int)) (.inl (by decide))]
    rw [leave_h (by omega), take_all (by simp)]
  · have hlt : ¬ (k : Int) < ((ns.length : Nat) : Int) := by omega
    obtain ⟨o, _, B, rfl⟩ := key 0
    refine ⟨_, ?_, B⟩
    generalize hA : (if (0 : Int) < 0 then -(0 : Int) else 0) = A
    generalize hb : (if (decide (1000000000000000000 ≤ A)) = true then (1 : Int) else 0) = b
    have hb0 : 0 ≤ b ∧ b ≤ 1 := by rw [← hb]; split <;> omega
    have hab : ∀ N : Mem, DL.absV [.d (.int 0)] N = .ok (.d (.int A)) N := fun N => by rw [abs_i, hA]
    unfold m_box g_box
    simp only [defM, startE, seqS_a, setS_a, bindS_ok, bindS_er, then_nx, then_rt, then_er, ifS_a, ifK_t, ifK_f, retS_a, dropS_a, asgS_a, asK_a, goG_ok, subT_a, nopS_a, getV_0, getV_s, cst_a, op2_a, o2a_ok, o2b_ok, opT_a, oTa_ok, oTb_ok, consA_a, cAa_ok, cAb_ok, nilA_a, callF_a, cFa_ok, callE_a, cEa_ok, newE_a, nwa_ok, datE_a, dta_ok, dispE_a, tupE_a, tpa_ok, asDs_a, datas, bind_ok, pur_ok, bool_b, leave_d, leave_nx, leave_er, ifE_a, ifa_t, ifa_f, notT_a, nta_ok, andT_a, ana_t, ana_f, orT_a, ora_t, ora_f, tstE_a, tsa_b, andE_a, aEa_t, aEa_f, orE_a, oEa_t, oEa_f, notE_a, nEa_ok, add_ii, sub_ii, gt_ii, lt_ii, ge_ii, le_ii, setT_a, consT_a, cTa_ok, nilT_a, tupT_a, seqT_t, seqT_l, forS_a, List.map_cons, List.map_nil, List.length_cons, List.length_nil, Nat.reduceAdd, Nat.reduceSub, Nat.zero_add, Nat.add_zero, List.replicate, List.cons_append, List.nil_append, List.append_nil, List.getElem?_cons_zero, List.getElem?_cons_succ, List.set_cons_zero, List.set_cons_succ, List.getElem?_nil, Option.map_some, Option.map_none, Option.bind_some, if_true, if_false, ite_true, ite_false, eq_self_iff_true, and_self, and_true, true_and, decide_true, decide_false, Bool.false_eq_true, Bool.not_true, Bool.not_false, sizeLine, Nat.reducePow, Nat.reduceLeDiff, Nat.zero_le, pow_7, pow_18, pow_40, len_s, List.length_map, hlt, hab, int_b, hb, mul_ii (i := A) (j := b) (.inr (by omega)), mod_ii (show (0 : Int) < 2147483629 by decide), mul_ii (i := 7919) (j := (k : Int)) (.inl (by decide))]
    rw [leave_h (by omega), take_all (by simp)]
end B
end DL
namespace DL
end DL
namespace DL
end DL
namespace DL
end DL
namespace DL
end DL
namespace DL
open PySem PySem.Spec L2
def sK (E : List Nat) (k : Nat) (ss : List Nat) : List Nat := ss.map fun a => fI E k a
def pK (E : List Nat) (G : List Int) (k : Nat) (ss : List Nat) (ps : List Int) : List Int := (ss.zip ps).map fun z => z.2 + cI E G k z.1
section
variable {n : Nat} {cs P E : List Nat} {G N : List Int}
theorem Paid.le {ss : List Nat} {ps : List Int} {k j : Nat} (h : Paid E G N ss ps k) (hj : j ≤ k) : Paid E G N ss ps j := fun i x a p m hi => h i x a p m (by omega)
/-- what is behind k passes -/
theorem OneP.run (O : OneP n cs P G N) (V : Inv2 P E) (h2 : 2 ≤ n) {ss : List Nat} {ps : List Int} (h : Stt n ss ps) {k : Nat} (H : Paid E G N ss ps k) : Run n ss ps (repR cs k) (sK E k ss) (pK E G k ss ps) := by
  obtain ⟨s, p, R, S, C⟩ := O.many V h2 h k H
  obtain ⟨h1, _⟩ := R.ok h h2
  have e1 : s = sK E k ss := by
    apply ext_of
    intro j
    unfold sK
    by_cases hj : j < n
    · obtain ⟨a, ha⟩ := get_some (show j < ss.length by rw [h.slen]; exact hj)
      rw [S j a ha, List.getElem?_map, ha]
      rfl
    · rw [List.getElem?_eq_none (by have := h1.slen; omega), List.getElem?_eq_none (by simp; have := h.slen; omega)]
  have e2 : p = pK E G k ss ps := by
    apply ext_of
    intro j
    unfold pK
    by_cases hj : j < n
    · obtain ⟨a, ha⟩ := get_some (show j < ss.length by rw [h.slen]; exact hj)
      obtain ⟨q, hq⟩ := get_some (show j < ps.length by rw [h.len]; exact hj)
      rw [C j a q ha hq, List.getElem?_map, (List.getElem?_zip_eq_some (z := (a, q))).mpr ⟨ha, hq⟩]
      rfl
    · rw [List.getElem?_eq_none (by have := h1.len; omega), List.getElem?_eq_none (by simp; have := h.slen; have := h.len; omega)]
  rw [← e1, ← e2]
  exact R
theorem OneP.stt (O : OneP n cs P G N) (V : Inv2 P E) (h2 : 2 ≤ n) {ss : List Nat} {ps : List Int} (h : Stt n ss ps) {k : Nat} (H : Paid E G N ss ps k) : Stt n (sK E k ss) (pK E G k ss ps) ∧ Lot ss ps (sK E k ss) (pK E G k ss ps) := (O.run V h2 h H).ok h h2
end
end DL
namespace DL
open PySem PySem.Spec L2
end DL
namespace DL
open PySem PySem.Spec L2
namespace B
open PySem PySem.Spec L2 DL
section
variable {n m j a : Nat} {cs ss : List Nat} {ps : List Int} {r : PyData}
/-- where the passes stop: the pass behind the m-th, the exchange j, the person a -/
structure Halt (n : Nat) (cs ss : List Nat) (ps : List Int) (m j a : Nat) : Prop where
  ex : ∃ (c : Nat) (s1 : List Nat) (p1 : List Int), Paid (oE n cs) (oG n cs) (oN n cs) ss ps m ∧ cs[j]? = some c ∧ Run n (sK (oE n cs) m ss) (pK (oE n cs) (oG n cs) m ss ps) (cs.take j) s1 p1 ∧ s1[a]? = some c ∧ p1[a]? = some 0
def Ever (n : Nat) (cs ss : List Nat) (ps : List Int) : Prop := ∀ k, Paid (oE n cs) (oG n cs) (oN n cs) ss ps k
theorem Halt.no (H : Halt n cs ss ps m j a) (h : Stt n ss ps) (h2 : 2 ≤ n) (hc : ∀ c ∈ cs, c < n) : ¬ Paid (oE n cs) (oG n cs) (oN n cs) ss ps (m + 1) := by
  intro P1
  obtain ⟨c, s1, p1, P0, hj, R, ha, h0⟩ := H.ex
  have O := opL_ok h2 _ cs rfl hc
  have V := inv_back O.perm
  obtain ⟨s3, p3, R1, R2⟩ := Run.splitP (O.run V h2 h P1 : Run n ss ps (repR cs m ++ cs) _ _)
  obtain ⟨e1, e2⟩ := R1.det h h2 (O.run V h2 h P0)
  subst e1 e2
  obtain ⟨h1, _⟩ := R1.ok h h2
  obtain ⟨s4, p4, R4⟩ := R2.upto (j + 1)
  rw [List.take_succ, hj] at R4
  obtain ⟨s5, p5, R5, X⟩ := Run.last (l := cs.take j) (c := c) R4
  obtain ⟨e1, e2⟩ := R5.det h1 h2 R
  subst e1 e2
  obtain ⟨h5, _⟩ := R5.ok h1 h2
  obtain ⟨x, y, p, q, a1, _, a3, a4, _⟩ := X.ex
  have := h5.inj a1 ha
  subst this
  rw [a3] at h0
  cases h0
  omega
theorem Halt.many (H : Halt n cs ss ps m j a) (h : Stt n ss ps) (h2 : 2 ≤ n) (hc : ∀ c ∈ cs, c < n) : minDD (manyL n (oE n cs) (oG n cs) (oN n cs) ss ps) = nD m := by
  have no := H.no h h2 hc
  obtain ⟨c, s1, p1, P0, _⟩ := H.ex
  have O := opL_ok h2 _ cs rfl hc
  have hE : EP n (oE n cs) := EP.of O.perm (inv_back O.perm)
  rcases many_spec (G := oG n cs) (N := oN n cs) hE O.nl h with ⟨_, H⟩ | ⟨k, e, H1, H2⟩
  · exact absurd (H _) no
  · have : k = m := by
      by_cases h1 : m < k
      · exact absurd (H1.le h1) no
      · by_cases h3 : k < m
        · exact absurd (P0.le h3) H2
        · omega
    rw [e, this]
theorem Ever.many (H : Ever n cs ss ps) (h : Stt n ss ps) (h2 : 2 ≤ n) (hc : ∀ c ∈ cs, c < n) : minDD (manyL n (oE n cs) (oG n cs) (oN n cs) ss ps) = .none := by
  have O := opL_ok h2 _ cs rfl hc
  have hE : EP n (oE n cs) := EP.of O.perm (inv_back O.perm)
  rcases many_spec (G := oG n cs) (N := oN n cs) hE O.nl h with ⟨e, _⟩ | ⟨k, e, H1, H2⟩
  · exact e
  · exact absurd (H _) H2
end
end B
end DL
namespace DL
end DL
namespace NM
theorem mc_sym : ∀ (k z : Nat), mc (k + 1) z = mc (z + 1) k
  | 0, z => by
    have : ∀ z : Nat, mc 1 z = 1 := fun z => by
      have := sp_one (z := (z : Int)) (by omega)
      rw [sp_nat] at this
      omega
    rw [this, mc_zero]
  | k + 1, 0 => by
    have : mc 1 (k + 1) = 1 := by
      have := sp_one (z := ((k + 1 : Nat) : Int)) (by omega)
      rw [sp_nat] at this
      omega
    rw [mc_zero, this]
  | k + 1, z + 1 => by
    show mc (k + 2) z + mc (k + 1) (z + 1) = mc (z + 2) k + mc (z + 1) (k + 1)
    have h1 : mc (k + 2) z = mc (z + 1) (k + 1) := mc_sym (k + 1) z
    have h2 : mc (k + 1) (z + 1) = mc (z + 2) k := mc_sym k (z + 1)
    omega
theorem mc_le : ∀ (k z : Nat), mc (k + 1) z ≤ (z + 1) ^ k
  | 0, z => by
    rw [mc_sym, mc_zero]; simp
  | k + 1, 0 => by rw [mc_zero]; simp
  | k + 1, z + 1 => by
    show mc (k + 2) z + mc (k + 1) (z + 1) ≤ _
    have h1 : mc (k + 2) z ≤ (z + 1) ^ (k + 1) := mc_le (k + 1) z
    have h2 : mc (k + 1) (z + 1) ≤ (z + 2) ^ k := mc_le k (z + 1)
    have h3 : (z + 1) ^ (k + 1) ≤ (z + 1) * (z + 2) ^ k := by
      rw [Nat.pow_succ, Nat.mul_comm]
      exact Nat.mul_le_mul_left _ (Nat.pow_le_pow_left (by omega) k)
    have h4 : (z + 1 + 1) ^ (k + 1) = (z + 1) * (z + 2) ^ k + (z + 2) ^ k := by
      rw [Nat.pow_succ, Nat.mul_comm, show z + 1 + 1 = z + 2 from rfl]
      rw [show z + 2 = (z + 1) + 1 from rfl, Nat.add_mul, Nat.one_mul]
    omega
open PySem in
abbrev fp := Builtin.Math.fallingProduct
theorem fp_succ (n : Int) (k : Nat) : fp n (k + 1) = fp n k * (n - (k : Int)) := PySem.W.mc_fp_succ n k
theorem fp_head (a : Int) : ∀ m : Nat, fp (a + 1) (m + 1) = (a + 1) * fp a m
  | 0 => by
    show 1 * (a + 1 - ((0 : Nat) : Int)) = (a + 1) * 1
    omega
  | m + 1 => by
    rw [fp_succ (a + 1) (m + 1), fp_head a m, fp_succ a m, Int.mul_assoc]
    congr 2
    push_cast
    omega
theorem fp_mc (n : Nat) : ∀ m : Nat, fp ((n + m : Nat) : Int) m = (mc (n + 1) m : Nat) * fp (m : Nat) m
  | 0 => by rw [mc_zero]; rfl
  | m + 1 => by
    have e1 : ((n + (m + 1) : Nat) : Int) = ((n + m : Nat) : Int) + 1 := by push_cast; omega
    have e2 : ((m + 1 : Nat) : Int) = (m : Int) + 1 := by push_cast; omega
    rw [e1, fp_head, fp_mc n m, e2, fp_head]
    have a := absorb n ((m + 1 : Nat) : Int)
    have s := sp_step n ((m + 1 : Nat) : Int)
    have e3 : ((m + 1 : Nat) : Int) - 1 = (m : Nat) := by omega
    rw [e3] at a s
    rw [sp_nat, sp_nat] at s
    rw [sp_nat] at a
    have key : ((mc (n + 1) (m + 1) : Nat) : Int) * ((m : Int) + 1) = (((n + m : Nat) : Int) + 1) * (mc (n + 1) m : Nat) := by
      rw [s, Int.add_mul, Int.mul_comm (sp n _), ← e2, ← a, e2, Int.mul_comm, ← Int.add_mul]
      congr 1
      push_cast
      omega
    rw [← Int.mul_assoc, ← Int.mul_assoc, ← key]
theorem fp_pos : ∀ m : Nat, 0 < fp (m : Nat) m
  | 0 => by show (0 : Int) < 1; decide
  | m + 1 => by
    have e2 : ((m + 1 : Nat) : Int) = (m : Int) + 1 := by push_cast; omega
    rw [e2, fp_head]
    exact Int.mul_pos (by omega) (fp_pos m)
theorem comb_sp (k z : Nat) : DL.combI ((z + k : Nat) : Int) (k : Nat) = (mc (k + 1) z : Nat) := by
  unfold DL.combI
  rw [if_neg (by omega)]
  have em : min ((k : Nat) : Int) (((z + k : Nat) : Int) - (k : Nat)) = ((min k z : Nat) : Int) := by omega
  rw [em, Int.toNat_natCast]
  show fp _ _ / fp _ _ = _
  by_cases h : k ≤ z
  · rw [Nat.min_eq_left h, fp_mc z k, Int.mul_ediv_cancel _ (Int.ne_of_gt (fp_pos k)), mc_sym]
  · rw [Nat.min_eq_right (by omega), Nat.add_comm z k, fp_mc k z, Int.mul_ediv_cancel _ (Int.ne_of_gt (fp_pos z))]
end NM
namespace DL
namespace N
open PySem PySem.Spec L2 DL NM
theorem sp_big {k : Nat} {z : Int} (hk : k ≤ 1000) (hz : z.natAbs ≤ 2 ^ 250) : (sp k z).natAbs < 2 ^ 300000 := by
  have hp : (0 : Nat) < 2 ^ 300000 := Nat.pow_pos (by decide)
  by_cases h : z < 0
  · rw [sp_neg h]; exact hp
  · obtain ⟨n, rfl⟩ := Int.eq_ofNat_of_zero_le (Int.not_lt.mp h)
    rw [sp_nat, Int.natAbs_natCast]
    cases k with
    | zero =>
      refine Nat.lt_of_le_of_lt (m := 1) ?_ (Nat.one_lt_pow (by decide) (by decide))
      cases n <;> simp [mc]
    | succ k =>
      refine Nat.lt_of_le_of_lt (mc_le k n) ?_
      have h1 : n + 1 ≤ 2 ^ 251 := by
        have : n ≤ 2 ^ 250 := by simpa using hz
        have : (2 : Nat) ^ 251 = 2 ^ 250 + 2 ^ 250 := by rw [Nat.pow_succ]
        have : 0 < (2 : Nat) ^ 250 := Nat.pow_pos (by decide)
        omega
      refine Nat.lt_of_le_of_lt (Nat.pow_le_pow_left h1 k) ?_
      rw [← Nat.pow_mul]
      exact Nat.pow_lt_pow_right (by decide) (by omega)
theorem comb_ok {k n : Nat} {M : Mem} (hk : k ≤ 999) (hz : n ≤ 2 ^ 250) : combV [.d (.int ((n + k : Nat) : Int)), .d (.int (k : Nat))] M = .ok (.d (.int (mc (k + 1) n : Nat))) M := by
  have e := comb_sp k n
  refine Eq.trans (if_pos ⟨by omega, by omega, .inr ⟨?_, ?_, ?_, ?_⟩⟩) (by rw [e])
  · show ¬ min _ _ > ((2 : Int) ^ 63 - 1); omega
  · show ¬ min _ _ > (20000 : Int); omega
  · omega
  · rw [e, Int.natAbs_natCast]
    have h := sp_big (k := k + 1) (z := (n : Int)) (by omega) (by simpa using hz)
    rw [sp_nat, Int.natAbs_natCast] at h
    have : ∀ y : Nat, y < 2 ^ 300000 → y.log2 < PySem.bitsLine := fun y hy => by
      by_cases h0 : y = 0
      · subst h0; decide
      · exact Nat.lt_of_lt_of_le ((Nat.log2_lt h0).mpr hy) (by decide)
    exact this _ h
theorem spreads_ok {k : Nat} {z : Int} {M : Mem} (hk : k ≤ 1000) (hz : z.natAbs ≤ 2 ^ 250) : m_spreads_many [.d (.int z), .d (.int (k : Nat))] M = .ok (.d (.int (sp k z))) M := by
  unfold m_spreads_many g_spreads_many
  by_cases h : z < 0
  · simp only [defM, startE, seqS_a, setS_a, bindS_ok, bindS_er, then_nx, then_rt, then_er, ifS_a, ifK_t, ifK_f, retS_a, dropS_a, asgS_a, asK_a, goG_ok, subT_a, nopS_a, getV_0, getV_s, cst_a, op2_a, o2a_ok, o2b_ok, opT_a, oTa_ok, oTb_ok, consA_a, cAa_ok, cAb_ok, nilA_a, callF_a, cFa_ok, callE_a, cEa_ok, newE_a, nwa_ok, datE_a, dta_ok, dispE_a, tupE_a, tpa_ok, asDs_a, datas, bind_ok, pur_ok, bool_b, leave_d, leave_nx, leave_er, ifE_a, ifa_t, ifa_f, notT_a, nta_ok, andT_a, ana_t, ana_f, orT_a, ora_t, ora_f, tstE_a, tsa_b, andE_a, aEa_t, aEa_f, orE_a, oEa_t, oEa_f, notE_a, nEa_ok, add_ii, sub_ii, gt_ii, lt_ii, ge_ii, le_ii, setT_a, consT_a, cTa_ok, nilT_a, tupT_a, seqT_t, seqT_l, forS_a, List.map_cons, List.map_nil, List.length_cons, List.length_nil, Nat.reduceAdd, Nat.reduceSub, Nat.zero_add, Nat.add_zero, List.replicate, List.cons_append, List.nil_append, List.append_nil, List.getElem?_cons_zero, List.getElem?_cons_succ, List.set_cons_zero, List.set_cons_succ, List.getElem?_nil, Option.map_some, Option.map_none, Option.bind_some, if_true, if_false, ite_true, ite_false, eq_self_iff_true, and_self, and_true, true_and, decide_true, decide_false, Bool.false_eq_true, Bool.not_true, Bool.not_false, sizeLine, Nat.reducePow, Nat.reduceLeDiff, Nat.zero_le, pow_7, pow_18, pow_40, h, sp_neg h]
    rw [take_all (by simp)]
  · obtain ⟨n, rfl⟩ := Int.eq_ofNat_of_zero_le (Int.not_lt.mp h)
    cases k with
    | zero =>
      have e0 : eqV (.d (.int ((0 : Nat) : Int))) (.d (.int 0)) M = .ok (.d (.bool true)) M := eq_ii
      by_cases hn : n = 0
      · subst hn
        simp only [defM, startE, seqS_a, setS_a, bindS_ok, bindS_er, then_nx, then_rt, then_er, ifS_a, ifK_t, ifK_f, retS_a, dropS_a, asgS_a, asK_a, goG_ok, subT_a, nopS_a, getV_0, getV_s, cst_a, op2_a, o2a_ok, o2b_ok, opT_a, oTa_ok, oTb_ok, consA_a, cAa_ok, cAb_ok, nilA_a, callF_a, cFa_ok, callE_a, cEa_ok, newE_a, nwa_ok, datE_a, dta_ok, dispE_a, tupE_a, tpa_ok, asDs_a, datas, bind_ok, pur_ok, bool_b, leave_d, leave_nx, leave_er, ifE_a, ifa_t, ifa_f, notT_a, nta_ok, andT_a, ana_t, ana_f, orT_a, ora_t, ora_f, tstE_a, tsa_b, andE_a, aEa_t, aEa_f, orE_a, oEa_t, oEa_f, notE_a, nEa_ok, add_ii, sub_ii, gt_ii, lt_ii, ge_ii, le_ii, setT_a, consT_a, cTa_ok, nilT_a, tupT_a, seqT_t, seqT_l, forS_a, List.map_cons, List.map_nil, List.length_cons, List.length_nil, Nat.reduceAdd, Nat.reduceSub, Nat.zero_add, Nat.add_zero, List.replicate, List.cons_append, List.nil_append, List.append_nil, List.getElem?_cons_zero, List.getElem?_cons_succ, List.set_cons_zero, List.set_cons_succ, List.getElem?_nil, Option.map_some, Option.map_none, Option.bind_some, if_true, if_false, ite_true, ite_false, eq_self_iff_true, and_self, and_true, true_and, decide_true, decide_false, Bool.false_eq_true, Bool.not_true, Bool.not_false, sizeLine, Nat.reducePow, Nat.reduceLeDiff, Nat.zero_le, pow_7, pow_18, pow_40, h, e0, sp_nat, mc_zero]
        rw [take_all (by simp)]
        rfl
      · have e1 : eqV (.d (.int ((n : Nat) : Int))) (.d (.int 0)) M = .ok (.d (.bool false)) M := by
          rw [eq_ii]
          have : ((n : Int) == 0) = false := by simpa using hn
          rw [this]
        have e2 : mc 0 n = 0 := by
          cases n with
          | zero => exact absurd rfl hn
          | succ n => rfl
        simp only [defM, startE, seqS_a, setS_a, bindS_ok, bindS_er, then_nx, then_rt, then_er, ifS_a, ifK_t, ifK_f, retS_a, dropS_a, asgS_a, asK_a, goG_ok, subT_a, nopS_a, getV_0, getV_s, cst_a, op2_a, o2a_ok, o2b_ok, opT_a, oTa_ok, oTb_ok, consA_a, cAa_ok, cAb_ok, nilA_a, callF_a, cFa_ok, callE_a, cEa_ok, newE_a, nwa_ok, datE_a, dta_ok, dispE_a, tupE_a, tpa_ok, asDs_a, datas, bind_ok, pur_ok, bool_b, leave_d, leave_nx, leave_er, ifE_a, ifa_t, ifa_f, notT_a, nta_ok, andT_a, ana_t, ana_f, orT_a, ora_t, ora_f, tstE_a, tsa_b, andE_a, aEa_t, aEa_f, orE_a, oEa_t, oEa_f, notE_a, nEa_ok, add_ii, sub_ii, gt_ii, lt_ii, ge_ii, le_ii, setT_a, consT_a, cTa_ok, nilT_a, tupT_a, seqT_t, seqT_l, forS_a, List.map_cons, List.map_nil, List.length_cons, List.length_nil, Nat.reduceAdd, Nat.reduceSub, Nat.zero_add, Nat.add_zero, List.replicate, List.cons_append, List.nil_append, List.append_nil, List.getElem?_cons_zero, List.getElem?_cons_succ, List.set_cons_zero, List.set_cons_succ, List.getElem?_nil, Option.map_some, Option.map_none, Option.bind_some, if_true, if_false, ite_true, ite_false, eq_self_iff_true, and_self, and_true, true_and, decide_true, decide_false, Bool.false_eq_true, Bool.not_true, Bool.not_false, sizeLine, Nat.reducePow, Nat.reduceLeDiff, Nat.zero_le, pow_7, pow_18, pow_40, h, e0, e1, sp_nat, e2]
        rw [take_all (by simp)]
        rfl
    | succ k =>
      have e0 : eqV (.d (.int ((k + 1 : Nat) : Int))) (.d (.int 0)) M = .ok (.d (.bool false)) M := by
        rw [eq_ii]
        have : (((k + 1 : Nat) : Int) == 0) = false := by
          simp only [beq_eq_false_iff_ne, ne_eq]
          omega
        rw [this]
      have hc := comb_ok (k := k) (n := n) (M := M) (by omega) (by simpa using hz)
      have a1 : ((n : Nat) : Int) + ((k + 1 : Nat) : Int) - 1 = ((n + k : Nat) : Int) := by push_cast; omega
      have a2 : ((k + 1 : Nat) : Int) - 1 = ((k : Nat) : Int) := by push_cast; omega
      simp only [defM, startE, seqS_a, setS_a, bindS_ok, bindS_er, then_nx, then_rt, then_er, ifS_a, ifK_t, ifK_f, retS_a, dropS_a, asgS_a, asK_a, goG_ok, subT_a, nopS_a, getV_0, getV_s, cst_a, op2_a, o2a_ok, o2b_ok, opT_a, oTa_ok, oTb_ok, consA_a, cAa_ok, cAb_ok, nilA_a, callF_a, cFa_ok, callE_a, cEa_ok, newE_a, nwa_ok, datE_a, dta_ok, dispE_a, tupE_a, tpa_ok, asDs_a, datas, bind_ok, pur_ok, bool_b, leave_d, leave_nx, leave_er, ifE_a, ifa_t, ifa_f, notT_a, nta_ok, andT_a, ana_t, ana_f, orT_a, ora_t, ora_f, tstE_a, tsa_b, andE_a, aEa_t, aEa_f, orE_a, oEa_t, oEa_f, notE_a, nEa_ok, add_ii, sub_ii, gt_ii, lt_ii, ge_ii, le_ii, setT_a, consT_a, cTa_ok, nilT_a, tupT_a, seqT_t, seqT_l, forS_a, List.map_cons, List.map_nil, List.length_cons, List.length_nil, Nat.reduceAdd, Nat.reduceSub, Nat.zero_add, Nat.add_zero, List.replicate, List.cons_append, List.nil_append, List.append_nil, List.getElem?_cons_zero, List.getElem?_cons_succ, List.set_cons_zero, List.set_cons_succ, List.getElem?_nil, Option.map_some, Option.map_none, Option.bind_some, if_true, if_false, ite_true, ite_false, eq_self_iff_true, and_self, and_true, true_and, decide_true, decide_false, Bool.false_eq_true, Bool.not_true, Bool.not_false, sizeLine, Nat.reducePow, Nat.reduceLeDiff, Nat.zero_le, pow_7, pow_18, pow_40, h, e0, a1, a2, hc, sp_nat]
      rw [take_all (by simp)]
end N
end DL
namespace DL
namespace N
open PySem PySem.Spec L2 DL NM
end N
end DL
namespace DL
namespace N
open PySem PySem.Spec L2 DL NM
theorem wr_bound : ∀ (ms ss : List Int), 0 ≤ wr ms ss ∧ wr ms ss ≤ ss.length
  | [], ss => by cases ss <;> simp [wr] <;> omega
  | m :: ms, [] => by simp [wr]
  | m :: ms, s :: ss => by
    have := wr_bound ms ss
    show 0 ≤ (if m < s then 1 else 0) + wr ms ss ∧ (if m < s then 1 else 0) + wr ms ss ≤ ((ss.length + 1 : Nat) : Int)
    split <;> omega
end N
end DL
namespace NM
end NM
namespace DL
namespace N
open PySem PySem.Spec L2 DL NM
/-- a test of whole numbers -/
def iB (p : Int → Bool) : PyData → Bool
  | .int a => p a
  | _ => false
theorem ints_filter (p : Int → Bool) : ∀ (A : List Int), (intsD A).filter (iB p) = intsD (A.filter p)
  | [] => rfl
  | a :: A => by
    have ih := ints_filter p A
    show ((PyData.int a) :: intsD A).filter (iB p) = _
    by_cases h : p a = true
    · rw [List.filter_cons_of_pos (show iB p (.int a) = true from h), List.filter_cons_of_pos h, ih]; rfl
    · rw [List.filter_cons_of_neg (show ¬ iB p (.int a) = true from h), List.filter_cons_of_neg h, ih]
theorem lc_filter {vs : List Nat} {fi : Ei} {γ : Tg} {t : Env → Mem → Res Bool} {h : Ev} {e : Env} {M M1 : Mem} {A : List Int} (p : Int → Bool) (hf : fi e M = .ok (intsD A) M1) (hA : A.length ≤ 100000)
    (hs : ∀ a ∈ A, ∃ e1, γ (.d (.int a)) (ewipe e vs) M1 = .ok e1 M1 ∧ t e1 M1 = .ok (p a) M1 ∧ h e1 M1 = .ok (.d (.int a)) M1) : lcE vs fi γ t h e M = .ok (intsD (A.filter p)) M1 := by
  have hsz : sizeLine = 2 ^ 24 := rfl
  rw [lcE_at hf, lcL_filter (iB p) id _ _ (by rw [hsz]; simp; omega) (fun z hz => by
    obtain ⟨a, ha, rfl⟩ := List.mem_map.mp hz
    obtain ⟨e1, h1, h2, h3⟩ := hs a ha
    exact ⟨e1, h1, h2, fun _ => h3⟩), ints_filter]
  simp
end N
end DL
namespace DL
namespace N
open PySem PySem.Spec L2 DL NM
theorem sortI_isort (xs : List Int) : sortI xs = isort xs := NM.asc_uniq (sortI_asc xs) (isort_asc xs) ((sortI_perm xs).trans (isort_perm xs).symm)
theorem rangeD_int (n : Nat) : rangeD 0 (n : Int) = intsD (rangeI n) := by
  rw [rangeD_nat]
  unfold rangeI
  rw [intsD, List.map_map]
  rfl
def tl (k : Nat) : Int → List Int → List Int
  | _, [] => []
  | z, c :: cs => c * sp k z :: tl k (z - 1) cs
end N
end DL
namespace DL
namespace N
open PySem PySem.Spec L2 DL NM
/-- purses by residues, seats and rounds -/
def purI (n : Nat) : List Int → List Int → List Int → List Int
  | m :: ms, s :: ss, y :: ys => ((m - s) % n + y * n) :: purI n ms ss ys
  | _, _, _ => []
end N
end DL
namespace DL
namespace N
open PySem PySem.Spec L2 DL NM
/-- purses by residues and seats, person by person -/
inductive PU (n : Nat) : List Int → List Int → List Int → List Int → Prop
  | nil : PU n [] [] [] []
  | cons {m s y p : Int} {ms ss ys ps : List Int} : (0 ≤ m ∧ m < n) → (0 ≤ s ∧ s < n) → 0 ≤ y → p = (m - s) % n + y * n → PU n ms ss ys ps → PU n (m :: ms) (s :: ss) (y :: ys) (p :: ps)
theorem modn {n m s : Int} (hm : 0 ≤ m ∧ m < n) (hs : 0 ≤ s ∧ s < n) : (m - s) % n = m - s + n * (if m < s then 1 else 0) := by
  split
  · rw [← Int.add_mul_emod_self_left (m - s) n 1, Int.emod_eq_of_lt (by omega) (by omega)]
  · rw [Int.emod_eq_of_lt (by omega) (by omega)]; omega
section
variable {n : Nat} {ms ss ys ps : List Int}
theorem PU.pur (h : PU n ms ss ys ps) : purI n ms ss ys = ps := by
  induction h with
  | nil => rfl
  | cons _ _ _ e _ ih => show _ :: purI n _ _ _ = _; rw [ih, e]
theorem PU.sum (h : PU n ms ss ys ps) : ps.sum = ms.sum - ss.sum + n * (wr ms ss + ys.sum) := by
  induction h with
  | nil => simp [wr]
  | cons hm hs hy e t ih =>
    rename_i m s y p ms ss ys ps
    have := modn hm hs
    show (p :: ps).sum = (m :: ms).sum - (s :: ss).sum + n * (((if m < s then 1 else 0) + wr ms ss) + (y :: ys).sum)
    simp only [List.sum_cons]
    rw [ih, e, this, Int.mul_add, Int.mul_add, Int.mul_add, Int.mul_add, Int.mul_comm y]
    omega
theorem PU.nn (h : PU n ms ss ys ps) : (∀ p ∈ ps, 0 ≤ p) ∧ ∀ y ∈ ys, 0 ≤ y := by
  induction h with
  | nil => simp
  | cons hm hs hy e t ih =>
    rename_i m s y p ms ss ys ps
    have h1 := Int.emod_nonneg (m - s) (show (n : Int) ≠ 0 by omega)
    have h2 := Int.mul_nonneg hy (show (0 : Int) ≤ n by omega)
    refine ⟨fun q hq => ?_, fun q hq => ?_⟩
    · rcases List.mem_cons.mp hq with rfl | hq
      · omega
      · exact ih.1 q hq
    · rcases List.mem_cons.mp hq with rfl | hq
      · exact hy
      · exact ih.2 q hq
theorem PU.rg (h : PU n ms ss ys ps) : ∀ m ∈ ms, 0 ≤ m ∧ m < n := by
  induction h with
  | nil => simp
  | cons hm _ _ _ _ ih =>
    intro x hx
    rcases List.mem_cons.mp hx with rfl | hx
    · exact hm
    · exact ih x hx
theorem PU.len (h : PU n ms ss ys ps) : ss.length = ms.length ∧ ys.length = ms.length ∧ ps.length = ms.length := by
  induction h with
  | nil => simp
  | cons _ _ _ _ _ ih => simp [ih]
theorem PU.res (h : PU n ms ss ys ps) : List.zipWith (fun s p => (s + p) % (n : Int)) ss ps = ms := by
  induction h with
  | nil => rfl
  | cons hm hs hy e t ih =>
    rename_i m s y p ms ss ys ps
    rw [List.zipWith_cons_cons, ih, e, modn hm hs]
    congr 1
    have : s + (m - s + n * (if m < s then 1 else 0) + y * n) = m + n * ((if m < s then 1 else 0) + y) := by
      rw [Int.mul_add, Int.mul_comm y]; omega
    rw [this, Int.add_mul_emod_self_left, Int.emod_eq_of_lt hm.1 hm.2]
theorem PU.div (h : PU n ms ss ys ps) : ps.map (· / (n : Int)) = ys := by
  induction h with
  | nil => rfl
  | cons hm hs hy e t ih =>
    rename_i m s y p ms ss ys ps
    rw [List.map_cons, ih, e]
    have h0 : (n : Int) ≠ 0 := by omega
    rw [Int.add_mul_ediv_right _ _ h0, Int.ediv_eq_zero_of_lt (Int.emod_nonneg _ h0) (Int.emod_lt_of_pos _ (by omega)), Int.zero_add]
theorem PU.mk' (hm : ∀ m ∈ ms, 0 ≤ m ∧ m < n) (hs : ∀ s ∈ ss, 0 ≤ s ∧ s < n) (hy : ∀ y ∈ ys, 0 ≤ y) (h1 : ss.length = ms.length) (h2 : ys.length = ms.length) : PU n ms ss ys (purI n ms ss ys) := by
  induction ms generalizing ss ys with
  | nil =>
    have : ss = [] := List.length_eq_zero_iff.mp h1
    have : ys = [] := List.length_eq_zero_iff.mp h2
    subst_vars
    exact .nil
  | cons m ms ih =>
    match ss, ys, h1, h2 with
    | s :: ss, y :: ys, h1, h2 =>
      exact .cons (hm m List.mem_cons_self) (hs s List.mem_cons_self) (hy y List.mem_cons_self) rfl (ih (fun x hx => hm x (List.mem_cons_of_mem _ hx)) (fun x hx => hs x (List.mem_cons_of_mem _ hx)) (fun x hx => hy x (List.mem_cons_of_mem _ hx)) (by simpa using h1) (by simpa using h2))
/-- of a state -/
theorem PU.of_state : ∀ {ss ps : List Int}, (∀ s ∈ ss, 0 ≤ s ∧ s < n) → (∀ p ∈ ps, 0 ≤ p) → ps.length = ss.length → PU n (List.zipWith (fun s p => (s + p) % (n : Int)) ss ps) ss (ps.map (· / (n : Int))) ps
  | [], [], _, _, _ => .nil
  | s :: ss, p :: ps, hs, hp, hl => by
    have h0 := hs s List.mem_cons_self
    have hp0 := hp p List.mem_cons_self
    have hn : (n : Int) ≠ 0 := by omega
    refine .cons ⟨Int.emod_nonneg _ hn, Int.emod_lt_of_pos _ (by omega)⟩ h0 (Int.ediv_nonneg hp0 (by omega)) ?_ (PU.of_state (fun x hx => hs x (List.mem_cons_of_mem _ hx)) (fun x hx => hp x (List.mem_cons_of_mem _ hx)) (by simpa using hl))
    have e1 : ((s + p) % (n : Int) - s) % n = p % n := by
      rw [Int.sub_emod, Int.emod_emod_of_dvd _ (Int.dvd_refl _), ← Int.sub_emod]
      congr 1
      omega
    rw [e1, Int.mul_comm]
    exact (Int.emod_add_mul_ediv p n).symm
  | [], _ :: _, _, _, h => by simp at h
  | _ :: _, [], _, _, h => by simp at h
end
theorem castI_mem {n : Nat} {ss : List Nat} (h : ss.Perm (List.range n)) : ∀ s ∈ castI ss, 0 ≤ s ∧ s < n := fun s hs => by
  obtain ⟨a, ha, rfl⟩ := List.mem_map.mp hs
  have := List.mem_range.mp (h.mem_iff.mp ha)
  omega
theorem pre_of {n : Nat} {ss : List Nat} (h : ss.Perm (List.range n)) : Pre n (castI ss) := by
  refine ⟨?_, castI_mem h⟩
  refine List.Pairwise.map _ ?_ (h.nodup_iff.mpr List.nodup_range)
  intro a b q e
  exact q (by omega)
theorem of_pre {n : Nat} {tt : List Int} (h : Pre n tt) (hl : tt.length = n) : ∃ ss : List Nat, castI ss = tt ∧ ss.Perm (List.range n) := by
  have hc : castI (tt.map Int.toNat) = tt := by
    unfold castI
    rw [List.map_map]
    refine (List.map_congr_left fun s hs => ?_).trans (List.map_id tt)
    have := h.rg s hs
    show ((s.toNat : Nat) : Int) = s
    omega
  refine ⟨tt.map Int.toNat, hc, ?_⟩
  have hnd : (tt.map Int.toNat).Nodup := by
    have := h.nd
    rw [← hc] at this
    unfold castI at this
    exact (List.pairwise_map.mp this).imp fun q e => q (by rw [e])
  refine (List.perm_ext_iff_of_nodup hnd List.nodup_range).mpr fun a => ?_
  rw [List.mem_range, List.mem_map]
  constructor
  · rintro ⟨s, hs, rfl⟩
    have := h.rg s hs
    omega
  · intro ha
    have h1 := freeI_len h
    have h2 : freeI n tt = [] := List.length_eq_zero_iff.mp (by omega)
    refine ⟨(a : Int), ?_, by omega⟩
    by_cases q : (a : Int) ∈ tt
    · exact q
    · have : (a : Int) ∈ freeI n tt := mem_freeI.mpr ⟨by omega, q⟩
      rw [h2] at this
      cases this
theorem resI_cast {n : Nat} {ss : List Nat} {ps : List Int} (h : ss.length = n) : resI ss ps = List.zipWith (fun s p => (s + p) % (n : Int)) (castI ss) ps := by
  unfold resI castI
  rw [List.zipWith_map_left, h]
/-- a state's residues, seats, rounds, purses -/
theorem _root_.DL.Stt.pu {n : Nat} {ss : List Nat} {ps : List Int} (h : Stt n ss ps) : PU n (resI ss ps) (castI ss) (ps.map (· / (n : Int))) ps := by
  rw [resI_cast h.slen]
  exact PU.of_state (castI_mem h.perm) h.nn (by rw [List.length_map, h.slen, h.len])
/-- the rounds of a state's lot -/
def rdI (n : Nat) (ss : List Nat) (ps : List Int) : Int := wr (resI ss ps) (castI ss) + (ps.map (· / (n : Int))).sum
theorem rd_at {n : Nat} {ss : List Nat} {ps : List Int} (h : Stt n ss ps) : 0 ≤ rdI n ss ps ∧ ps.sum - (resI ss ps).sum + (n : Int) * ((n : Int) - 1) / 2 = n * rdI n ss ps := by
  have P := h.pu
  have h1 := P.sum
  have h2 : (castI ss).sum = (n : Int) * ((n : Int) - 1) / 2 := by rw [← sum_range]; exact perm_sum (h.perm.map _)
  have h3 := wr_bound (resI ss ps) (castI ss)
  have h4 := sum_nonneg P.nn.2
  unfold rdI
  exact ⟨by omega, by omega⟩
theorem rd_lot {n : Nat} {ss tt : List Nat} {ps qs : List Int} (h : Stt n ss ps) (k : Stt n tt qs) (h0 : 0 < n) (L : Lot ss ps tt qs) : rdI n ss ps = rdI n tt qs := by
  have h1 := (rd_at h).2
  have h2 := (rd_at k).2
  rw [L.res, L.sum, h2] at h1
  exact (Int.eq_of_mul_eq_mul_left (by omega) h1).symm
/-- the number of a state in its lot -/
def numI (n : Nat) (ss : List Nat) (ps : List Int) : Int := rk n (resI ss ps) (rdI n ss ps) [] (castI ss) + spNum (ps.map (· / (n : Int))).sum (ps.map (· / (n : Int)))
theorem prod_zero : ∀ (ks : List Int) (i : Int), ks ≠ [] → ks.Pairwise (· ≤ ·) → (∀ k ∈ ks, i ≤ k ∧ k ≤ i + ks.length - 1) → prodA (-1) i ks = 0
  | [], _, h, _, _ => absurd rfl h
  | k :: ks, i, _, hp, hk => by
    obtain ⟨h1, h2⟩ := List.pairwise_cons.mp hp
    have hk0 := hk k List.mem_cons_self
    rw [prodA]
    by_cases e : k = i
    · subst e; simp
    · cases hks : ks with
      | nil => subst hks; simp at hk0; omega
      | cons a as =>
        rw [← hks, prod_zero ks (i + 1) (by rw [hks]; simp) h2 (fun x hx => by
          have a1 := h1 x hx
          have a2 := hk x (List.mem_cons_of_mem _ hx)
          simp only [List.length_cons] at a2
          push_cast at a2
          omega)]
        simp
theorem bel_range {n : Nat} {m : Int} (h : 0 ≤ m ∧ m < n) : bel (rangeI n) m = m + 1 := by
  have h1 := abv_len (rangeI n) m
  have e : (rangeI n).filter (fun a => decide (a ≤ m)) = rangeI (m.toNat + 1) := by
    unfold rangeI
    rw [List.filter_map]
    have : n = (m.toNat + 1) + (n - (m.toNat + 1)) := by omega
    rw [this, List.range_add, List.filter_append, List.map_append]
    have a1 : (List.range (m.toNat + 1)).filter ((fun a : Int => decide (a ≤ m)) ∘ fun i : Nat => (i : Int)) = List.range (m.toNat + 1) := by
      rw [List.filter_eq_self]
      intro x hx
      have := List.mem_range.mp hx
      simp
      omega
    have a2 : ((List.range (n - (m.toNat + 1))).map fun x => m.toNat + 1 + x).filter ((fun a : Int => decide (a ≤ m)) ∘ fun i : Nat => (i : Int)) = [] := by
      rw [List.filter_eq_nil_iff]
      intro x hx
      obtain ⟨y, _, rfl⟩ := List.mem_map.mp hx
      simp
      omega
    rw [a1, a2, List.map_nil, List.append_nil]
  unfold bel
  rw [e, rangeI_len]
  omega
theorem prod_Fp {n : Nat} (z : Int) : ∀ (ks : List Int) (i : Nat), (∀ k ∈ ks, 0 ≤ k ∧ k < n) → prodA z (i : Nat) ks = Fp (rangeI n) z i ks
  | [], _, _ => rfl
  | k :: ks, i, h => by
    have ih := prod_Fp z ks (i + 1) fun x hx => h x (List.mem_cons_of_mem _ hx)
    show (z + 1 + k - (i : Nat)) * prodA z ((i : Nat) + 1) ks = (z + bel (rangeI n) k - i) * Fp (rangeI n) z (i + 1) ks
    rw [bel_range (h k List.mem_cons_self), ← ih]
    congr 1
    omega
/-- how many states there are, in the words of numbers -/
theorem up_Ng {n : Nat} {ms : List Int} (h0 : 0 < n) (hl : ms.length = n) (hm : ∀ m ∈ ms, 0 ≤ m ∧ m < n) {Q : Int} (hQ : 0 ≤ Q) : upI ms Q - upI ms (Q - 1) = Ng n ms Q [] := by
  have hm' : ∀ m ∈ sortI ms, 0 ≤ m ∧ m < n := fun m h => hm m ((sortI_perm ms).mem_iff.mp h)
  have e : freeI n [] = rangeI n := by unfold freeI; rw [List.filter_eq_self]; simp
  have hsl : (isort ms).length = n := by rw [isort_len, hl]
  unfold Ng upI
  have hw : wr ms [] = 0 := by cases ms <;> rfl
  rw [e, hw, Int.sub_zero, List.length_nil, List.drop_zero]
  have hst := T_step n (sw (isort ms) (rangeI n)) Q
  have h1 := T_sw (isort ms) (rangeI n) hQ
  rw [hsl] at h1
  have p1 := prod_Fp (n := n) Q (sortI ms) 0 hm'
  have p2 := prod_Fp (n := n) (Q - 1) (sortI ms) 0 hm'
  rw [show ((0 : Nat) : Int) = 0 from rfl, sortI_isort] at p1 p2
  rw [sortI_isort, p1]
  by_cases hq : Q = 0
  · have hz : prodA (-1) 0 (isort ms) = 0 := by
      rw [sortI_isort] at hm'
      refine prod_zero _ 0 (fun z => ?_) (isort_asc ms) fun k hk => ?_
      · rw [z] at hsl; simp at hsl; omega
      · have := hm' k hk
        rw [hsl]
        omega
    rw [hq] at p2 hst h1 ⊢
    rw [show (0 : Int) - 1 = -1 from rfl] at p2 hst ⊢
    rw [T_neg (n + 1) _ (show (-1 : Int) < 0 by decide)] at hst
    rw [hz]
    omega
  · have h2 := T_sw (isort ms) (rangeI n) (show 0 ≤ Q - 1 by omega)
    rw [hsl] at h2
    rw [p2]
    omega
theorem lot_Ng {n : Nat} {ss : List Nat} {ps : List Int} (h : Stt n ss ps) (h0 : 0 < n) : C.manyI (resI ss ps) ps.sum = Ng n (resI ss ps) (rdI n ss ps) [] := by
  obtain ⟨hQ, e⟩ := rd_at h
  rw [many_st h h0 hQ e]
  refine up_Ng h0 (by rw [resI_len, h.slen, h.len]; simp) (fun m hm => ?_) hQ
  exact h.pu.rg m hm
end N
end DL
namespace DL
namespace N
open PySem PySem.Spec L2 DL NM
theorem res_len {n : Nat} {ss : List Nat} {ps : List Int} (h : Stt n ss ps) : (resI ss ps).length = n := by rw [resI_len, h.slen, h.len]; simp
theorem res_nn {n : Nat} {ss : List Nat} {ps : List Int} (h : Stt n ss ps) : ∀ m ∈ resI ss ps, 0 ≤ m := fun m hm => (h.pu.rg m hm).1
/-- the seats and rounds of a state have its number -/
theorem numI_at {n : Nat} {ss : List Nat} {ps : List Int} (h : Stt n ss ps) (h0 : 0 < n) :
    StAt n (resI ss ps) (rdI n ss ps) [] (numI n ss ps) (castI ss) (spNum (ps.map (· / (n : Int))).sum (ps.map (· / (n : Int)))) ∧ 0 ≤ numI n ss ps ∧ numI n ss ps < Ng n (resI ss ps) (rdI n ss ps) [] ∧
    SpAt n (rdI n ss ps - wr (resI ss ps) (castI ss)) (spNum (ps.map (· / (n : Int))).sum (ps.map (· / (n : Int)))) (ps.map (· / (n : Int))) := by
  have hl := res_len h
  have hm := res_nn h
  have P := h.pu
  have hnn := P.nn.2
  have hyl : (ps.map (· / (n : Int))).length = n := by rw [List.length_map, h.len]
  have hpre := pre_of h.perm
  have hcl : (castI ss).length = n := by rw [List.length_map, h.slen]
  have hle := Ng_leaf hl (rdI n ss ps) hpre hcl
  have hsp := spNum_lt _ hnn
  have e1 : rdI n ss ps - wr (resI ss ps) (castI ss) = (ps.map (· / (n : Int))).sum := by unfold rdI; omega
  rw [e1] at hle ⊢
  rw [hyl] at hsp
  have a1 := StAt.of hl hm (rdI n ss ps) (castI ss) (p := []) (r := spNum (ps.map (· / (n : Int))).sum (ps.map (· / (n : Int)))) (by rw [List.nil_append]; exact hpre) (by rw [List.nil_append]; exact hcl) hsp.1 (by rw [List.nil_append, hle]; exact hsp.2)
  have a2 := rk_bound hl hm (rdI n ss ps) (castI ss) (p := []) (by rw [List.nil_append]; exact hpre) (by rw [List.nil_append]; exact hcl)
  rw [List.nil_append, hle] at a2
  have a3 := SpAt.of _ hnn
  rw [hyl] at a3
  refine ⟨a1, ?_, ?_, a3⟩
  · unfold numI; omega
  · unfold numI; omega
/-- each number has its state -/
theorem state_ex {n : Nat} {ss : List Nat} {ps : List Int} (h : Stt n ss ps) (h0 : 0 < n) {b : Int} (hb : 0 ≤ b) (hb2 : b < Ng n (resI ss ps) (rdI n ss ps) []) : ∃ tt qs, Stt n tt qs ∧ Lot ss ps tt qs ∧ numI n tt qs = b := by
  have hl := res_len h
  have hm := res_nn h
  obtain ⟨st, r, S⟩ := StAt.ex hl hm (rdI n ss ps) n (p := []) (b := b) (.nil n) (by simp) hb hb2
  obtain ⟨s1, s2, s3, s4, s5⟩ := S.spec (.nil n) hb hb2
  rw [List.nil_append] at s1 s2 s5
  obtain ⟨tt, rfl, hperm⟩ := of_pre s1 s2
  rw [Ng_leaf hl _ s1 s2] at s5
  obtain ⟨ys, Y⟩ := SpAt.ex n s4 s5
  obtain ⟨y1, y2, y3, y4⟩ := Y.spec s4 s5
  have P := PU.mk' h.pu.rg (castI_mem hperm) y2 (by rw [s2, hl]) (by rw [y1, hl])
  generalize hq : purI n (resI ss ps) (castI tt) ys = qs at P
  have htl : tt.length = n := by simpa using s2
  have hst : Stt n tt qs := ⟨hperm, by rw [P.len.2.2, hl], P.nn.1⟩
  have hres : resI tt qs = resI ss ps := by rw [resI_cast htl]; exact P.res
  have hsum : qs.sum = ps.sum := by
    have e1 := P.sum
    have e2 := (rd_at h).2
    have h2 : (castI tt).sum = (n : Int) * ((n : Int) - 1) / 2 := by rw [← sum_range]; exact perm_sum (hperm.map _)
    rw [y3] at e1
    have e3 : wr (resI ss ps) (castI tt) + (rdI n ss ps - wr (resI ss ps) (castI tt)) = rdI n ss ps := by omega
    rw [e3] at e1
    omega
  have L : Lot ss ps tt qs := ⟨hres.symm, hsum.symm⟩
  refine ⟨tt, qs, hst, L, ?_⟩
  unfold numI
  rw [← rd_lot h hst h0 L, hres, P.div, s3, y3, y4]
/-- states with one number are one -/
theorem num_inj {n : Nat} {ss tt : List Nat} {ps qs : List Int} (h : Stt n ss ps) (k : Stt n tt qs) (L : Lot ss ps tt qs) (h0 : 0 < n) (e : numI n ss ps = numI n tt qs) : ss = tt ∧ ps = qs := by
  obtain ⟨a1, a2, a3, a4⟩ := numI_at h h0
  obtain ⟨b1, b2, b3, b4⟩ := numI_at k h0
  rw [← L.res, ← rd_lot h k h0 L, ← e] at b1
  obtain ⟨c1, c2⟩ := a1.uniq (res_len h) (res_nn h) (.nil n) b1
  have hc : ss = tt := by
    have := congrArg (List.map Int.toNat) c1
    simpa [castI, List.map_map, Function.comp_def] using this
  subst hc
  rw [← L.res, ← rd_lot h k h0 L, ← c2] at b4
  have hy := a4.uniq b4
  have p1 := h.pu.pur
  have p2 := k.pu.pur
  rw [← L.res, ← hy] at p2
  exact ⟨rfl, p1.symm.trans p2⟩
/-- in Python's order -/
inductive Less : List Nat → List Int → List Nat → List Int → Prop
  | seats {ss tt : List Nat} {ps qs : List Int} : Lex (castI ss) (castI tt) → Less ss ps tt qs
  | purses {ss : List Nat} {ps qs : List Int} : Lex ps qs → Less ss ps ss qs
def pB (p : Int → Bool) : PyData → Bool
  | .tuple [.int a, _] => p a
  | _ => false
end N
end DL
namespace DL
namespace N
open PySem PySem.Spec L2 DL NM
/-- the law's own loop: so many cells, one turn each -/
def lawG1 (k : Int) (right : Fn) : Sv := (seqS (setS 1 (callF 2 C.m_cells (consA (getV 0) (consA (cst (.d (.int k))) nilA)))) (seqS (forS (rngI1 (callE lenV (consA (getV 1) nilA))) (setT 2) (seqS (setS 3 (callF 2 C.m_box (consA (getV 1) (consA (getV 2) nilA)))) (ifS (notT (tstE (callF 1 right (consA (getV 3) nilA)))) (retS (cst (.d (.bool false)))) nopS))) (retS (cst (.d (.bool true))))))
theorem law_gen1 {right : Fn} {k : Nat} (hk : 0 < k) (hk2 : k ≤ 63) (hright : ∀ (i : Nat) (M : Mem) (o : MO), M[i]? = some o → C.Bx 0 o → (∀ m ∈ M, flatM m) → ∃ o', right [.h i] M = .ok (.d (.bool true)) (M.set i o') ∧ flatM o')
    (ns : List Int) (hn : ns.length ≤ 63) : ∃ M, defM 4 0 (lawG1 k right) [.s (ns.map PyData.int)] [] = .ok (.d (.bool true)) M := by
  have hsz : sizeLine = 2 ^ 24 := rfl
  obtain ⟨cs, e1, hc, hl⟩ := C.cells_ok (k := k) (by omega) (by omega) hn (M := [])
  obtain ⟨e', M', el, v2, v3, rfl, _⟩ := forL_all (γ := setT 2) (g := seqS (setS 3 (callF 2 C.m_box (consA (getV 1) (consA (getV 2) nilA)))) (ifS (notT (tstE (callF 1 right (consA (getV 3) nilA)))) (retS (cst (.d (.bool false)))) nopS))
    (fun j e M2 => ∃ (v2 v3 : Option Vl), e = [some (.s (ns.map PyData.int)), some (.d (.list (cs.map PyData.int))), v2, v3] ∧ ∀ m ∈ M2, flatM m)
    (xs := rangeD 0 (cs.length : Nat)) (e := [some (.s (ns.map PyData.int)), some (.d (.list (cs.map PyData.int))), none, none]) (M := [])
    (by
      rintro j z e M2 hz ⟨v2, v3, rfl, hfl⟩
      rw [rangeD_nat, List.getElem?_map] at hz
      obtain ⟨p, hp1, rfl⟩ := Option.map_eq_some_iff.mp hz
      have hpj : p < cs.length := List.mem_range.mp (List.mem_of_getElem? hp1)
      obtain ⟨o, e2, B⟩ := C.box_ok (M := M2) hpj (by omega)
      have hf2 : ∀ m ∈ M2 ++ [o], flatM m := fun m hm => by
        rcases List.mem_append.mp hm with hm | hm
        · exact hfl m hm
        · have : m = o := by simpa using hm
          subst this
          exact C.bx_flat B
      obtain ⟨o3, e3, B3⟩ := hright M2.length (M2 ++ [o]) o (m1_a rfl) B hf2
      rw [m1_sa rfl] at e3
      refine ⟨[some (.s (ns.map PyData.int)), some (.d (.list (cs.map PyData.int))), some (.d (.int (p : Nat))), v3], M2, [some (.s (ns.map PyData.int)), some (.d (.list (cs.map PyData.int))), some (.d (.int (p : Nat))), some (.h M2.length)], M2 ++ [o3], ?_, ?_, _, _, rfl, fun m hm => ?_⟩
      · simp only [defM, startE, seqS_a, setS_a, bindS_ok, bindS_er, then_nx, then_rt, then_er, ifS_a, ifK_t, ifK_f, retS_a, dropS_a, asgS_a, asK_a, goG_ok, subT_a, nopS_a, getV_0, getV_s, cst_a, op2_a, o2a_ok, o2b_ok, opT_a, oTa_ok, oTb_ok, consA_a, cAa_ok, cAb_ok, nilA_a, callF_a, cFa_ok, callE_a, cEa_ok, newE_a, nwa_ok, datE_a, dta_ok, dispE_a, tupE_a, tpa_ok, asDs_a, datas, bind_ok, pur_ok, bool_b, leave_d, leave_nx, leave_er, ifE_a, ifa_t, ifa_f, notT_a, nta_ok, andT_a, ana_t, ana_f, orT_a, ora_t, ora_f, tstE_a, tsa_b, andE_a, aEa_t, aEa_f, orE_a, oEa_t, oEa_f, notE_a, nEa_ok, add_ii, sub_ii, gt_ii, lt_ii, ge_ii, le_ii, setT_a, consT_a, cTa_ok, nilT_a, tupT_a, seqT_t, seqT_l, forS_a, List.map_cons, List.map_nil, List.length_cons, List.length_nil, Nat.reduceAdd, Nat.reduceSub, Nat.zero_add, Nat.add_zero, List.replicate, List.cons_append, List.nil_append, List.append_nil, List.getElem?_cons_zero, List.getElem?_cons_succ, List.set_cons_zero, List.set_cons_succ, List.getElem?_nil, Option.map_some, Option.map_none, Option.bind_some, if_true, if_false, ite_true, ite_false, eq_self_iff_true, and_self, and_true, true_and, decide_true, decide_false, Bool.false_eq_true, Bool.not_true, Bool.not_false, sizeLine, Nat.reducePow, Nat.reduceLeDiff, Nat.zero_le, pow_7, pow_18, pow_40]
      · simp only [defM, startE, seqS_a, setS_a, bindS_ok, bindS_er, then_nx, then_rt, then_er, ifS_a, ifK_t, ifK_f, retS_a, dropS_a, asgS_a, asK_a, goG_ok, subT_a, nopS_a, getV_0, getV_s, cst_a, op2_a, o2a_ok, o2b_ok, opT_a, oTa_ok, oTb_ok, consA_a, cAa_ok, cAb_ok, nilA_a, callF_a, cFa_ok, callE_a, cEa_ok, newE_a, nwa_ok, datE_a, dta_ok, dispE_a, tupE_a, tpa_ok, asDs_a, datas, bind_ok, pur_ok, bool_b, leave_d, leave_nx, leave_er, ifE_a, ifa_t, ifa_f, notT_a, nta_ok, andT_a, ana_t, ana_f, orT_a, ora_t, ora_f, tstE_a, tsa_b, andE_a, aEa_t, aEa_f, orE_a, oEa_t, oEa_f, notE_a, nEa_ok, add_ii, sub_ii, gt_ii, lt_ii, ge_ii, le_ii, setT_a, consT_a, cTa_ok, nilT_a, tupT_a, seqT_t, seqT_l, forS_a, List.map_cons, List.map_nil, List.length_cons, List.length_nil, Nat.reduceAdd, Nat.reduceSub, Nat.zero_add, Nat.add_zero, List.replicate, List.cons_append, List.nil_append, List.append_nil, List.getElem?_cons_zero, List.getElem?_cons_succ, List.set_cons_zero, List.set_cons_succ, List.getElem?_nil, Option.map_some, Option.map_none, Option.bind_some, if_true, if_false, ite_true, ite_false, eq_self_iff_true, and_self, and_true, true_and, decide_true, decide_false, Bool.false_eq_true, Bool.not_true, Bool.not_false, sizeLine, Nat.reducePow, Nat.reduceLeDiff, Nat.zero_le, pow_7, pow_18, pow_40, e2, e3]
      · rcases List.mem_append.mp hm with hm | hm
        · exact hfl m hm
        · have : m = o3 := by simpa using hm
          subst this
          exact B3)
    ⟨none, none, rfl, by simp⟩
  have hr : rngI1 (callE lenV (consA (getV 1) nilA)) [some (.s (ns.map PyData.int)), some (.d (.list (cs.map PyData.int))), none, none] [] = .ok (rangeD 0 (cs.length : Nat)) [] := rngI1_a (by simp only [defM, startE, seqS_a, setS_a, bindS_ok, bindS_er, then_nx, then_rt, then_er, ifS_a, ifK_t, ifK_f, retS_a, dropS_a, asgS_a, asK_a, goG_ok, subT_a, nopS_a, getV_0, getV_s, cst_a, op2_a, o2a_ok, o2b_ok, opT_a, oTa_ok, oTb_ok, consA_a, cAa_ok, cAb_ok, nilA_a, callF_a, cFa_ok, callE_a, cEa_ok, newE_a, nwa_ok, datE_a, dta_ok, dispE_a, tupE_a, tpa_ok, asDs_a, datas, bind_ok, pur_ok, bool_b, leave_d, leave_nx, leave_er, ifE_a, ifa_t, ifa_f, notT_a, nta_ok, andT_a, ana_t, ana_f, orT_a, ora_t, ora_f, tstE_a, tsa_b, andE_a, aEa_t, aEa_f, orE_a, oEa_t, oEa_f, notE_a, nEa_ok, add_ii, sub_ii, gt_ii, lt_ii, ge_ii, le_ii, setT_a, consT_a, cTa_ok, nilT_a, tupT_a, seqT_t, seqT_l, forS_a, List.map_cons, List.map_nil, List.length_cons, List.length_nil, Nat.reduceAdd, Nat.reduceSub, Nat.zero_add, Nat.add_zero, List.replicate, List.cons_append, List.nil_append, List.append_nil, List.getElem?_cons_zero, List.getElem?_cons_succ, List.set_cons_zero, List.set_cons_succ, List.getElem?_nil, Option.map_some, Option.map_none, Option.bind_some, if_true, if_false, ite_true, ite_false, eq_self_iff_true, and_self, and_true, true_and, decide_true, decide_false, Bool.false_eq_true, Bool.not_true, Bool.not_false, sizeLine, Nat.reducePow, Nat.reduceLeDiff, Nat.zero_le, pow_7, pow_18, pow_40, len_l, List.length_map]) (by omega)
  refine ⟨M'.take 0, ?_⟩
  unfold lawG1
  simp only [defM, startE, seqS_a, setS_a, bindS_ok, bindS_er, then_nx, then_rt, then_er, ifS_a, ifK_t, ifK_f, retS_a, dropS_a, asgS_a, asK_a, goG_ok, subT_a, nopS_a, getV_0, getV_s, cst_a, op2_a, o2a_ok, o2b_ok, opT_a, oTa_ok, oTb_ok, consA_a, cAa_ok, cAb_ok, nilA_a, callF_a, cFa_ok, callE_a, cEa_ok, newE_a, nwa_ok, datE_a, dta_ok, dispE_a, tupE_a, tpa_ok, asDs_a, datas, bind_ok, pur_ok, bool_b, leave_d, leave_nx, leave_er, ifE_a, ifa_t, ifa_f, notT_a, nta_ok, andT_a, ana_t, ana_f, orT_a, ora_t, ora_f, tstE_a, tsa_b, andE_a, aEa_t, aEa_f, orE_a, oEa_t, oEa_f, notE_a, nEa_ok, add_ii, sub_ii, gt_ii, lt_ii, ge_ii, le_ii, setT_a, consT_a, cTa_ok, nilT_a, tupT_a, seqT_t, seqT_l, forS_a, List.map_cons, List.map_nil, List.length_cons, List.length_nil, Nat.reduceAdd, Nat.reduceSub, Nat.zero_add, Nat.add_zero, List.replicate, List.cons_append, List.nil_append, List.append_nil, List.getElem?_cons_zero, List.getElem?_cons_succ, List.set_cons_zero, List.set_cons_succ, List.getElem?_nil, Option.map_some, Option.map_none, Option.bind_some, if_true, if_false, ite_true, ite_false, eq_self_iff_true, and_self, and_true, true_and, decide_true, decide_false, Bool.false_eq_true, Bool.not_true, Bool.not_false, sizeLine, Nat.reducePow, Nat.reduceLeDiff, Nat.zero_le, pow_7, pow_18, pow_40, e1, hr, el]
end N
end DL
namespace DL
namespace N
open PySem PySem.Spec L2 DL NM PySem.W
end N
end DL
namespace DL
namespace N
open PySem PySem.Spec L2 DL NM
end N
end DL
namespace DL
namespace N
open PySem PySem.Spec L2 DL NM
theorem list_of {α : Type} {P : α → Prop} {num : α → Int} {N : Nat} (hex : ∀ b : Nat, b < N → ∃ x, P x ∧ num x = b) (hrg : ∀ x, P x → 0 ≤ num x ∧ num x < N) (hinj : ∀ x y, P x → P y → num x = num y → x = y) :
    ∃ L : List α, L.Nodup ∧ (∀ x, x ∈ L ↔ P x) ∧ L.length = N := by
  have key : ∀ k : Nat, k ≤ N → ∃ L : List α, L.Nodup ∧ (∀ x, x ∈ L ↔ P x ∧ num x < k) ∧ L.length = k := by
    intro k
    induction k with
    | zero => exact fun _ => ⟨[], List.nodup_nil, fun x => ⟨fun h => (by cases h), fun ⟨h, h2⟩ => by have := (hrg x h).1; omega⟩, rfl⟩
    | succ k ih =>
      intro hk
      obtain ⟨L, h1, h2, h3⟩ := ih (by omega)
      obtain ⟨y, hy, hny⟩ := hex k (by omega)
      refine ⟨y :: L, List.nodup_cons.mpr ⟨fun hc => ?_, h1⟩, fun x => ?_, by rw [List.length_cons, h3]⟩
      · have := ((h2 y).mp hc).2
        omega
      · rw [List.mem_cons, h2]
        constructor
        · rintro (rfl | ⟨a, b⟩)
          · exact ⟨hy, by omega⟩
          · exact ⟨a, by omega⟩
        · rintro ⟨a, b⟩
          by_cases c : num x = k
          · exact .inl (hinj x y a hy (by omega))
          · exact .inr ⟨a, by omega⟩
  obtain ⟨L, h1, h2, h3⟩ := key N (Nat.le_refl _)
  exact ⟨L, h1, fun x => (h2 x).trans ⟨fun h => h.1, fun h => ⟨h, (hrg x h).2⟩⟩, h3⟩
abbrev Sp := List Nat × List Int
/-- the states of the lot -/
structure LotL (n : Nat) (ss : List Nat) (ps : List Int) (L : List Sp) : Prop where
  nd : L.Nodup
  mem : ∀ x, x ∈ L ↔ Stt n x.1 x.2 ∧ Lot ss ps x.1 x.2
section
variable {n : Nat} {ss : List Nat} {ps : List Int}
theorem lot_ex (h : Stt n ss ps) (h0 : 0 < n) : ∃ L, LotL n ss ps L ∧ (L.length : Int) = Ng n (resI ss ps) (rdI n ss ps) [] := by
  have hnn := (numI_at h h0).2.2.1
  have hnn0 := (numI_at h h0).2.1
  have heq : ∀ {tt : List Nat} {qs : List Int}, Stt n tt qs → Lot ss ps tt qs → Ng n (resI tt qs) (rdI n tt qs) [] = Ng n (resI ss ps) (rdI n ss ps) [] := fun k L => by rw [L.res, rd_lot h k h0 L]
  generalize Ng n (resI ss ps) (rdI n ss ps) [] = Z at *
  obtain ⟨L, h1, h2, h3⟩ := list_of (α := Sp) (P := fun x => Stt n x.1 x.2 ∧ Lot ss ps x.1 x.2) (num := fun x => numI n x.1 x.2) (N := Z.toNat) (fun b hb => by
    have := state_ex h h0 (b := (b : Int)) (by omega) (by rw [heq h Lot.rfl']; omega)
    obtain ⟨tt, qs, k, L, e⟩ := this
    exact ⟨(tt, qs), ⟨k, L⟩, e⟩) (fun x hx => by
    have a := numI_at hx.1 h0
    have := heq hx.1 hx.2
    have a2 := a.2.1
    have a3 := a.2.2.1
    show 0 ≤ numI n x.1 x.2 ∧ numI n x.1 x.2 < _
    omega) (fun x y hx hy e => by
    obtain ⟨a, b⟩ := num_inj hx.1 hy.1 (hx.2.symm.trans hy.2) h0 e
    exact Prod.ext a b)
  exact ⟨L, ⟨h1, h2⟩, by omega⟩
theorem nd_len {α : Type} {l m : List α} (h1 : l.Nodup) (h2 : m.Nodup) (h : ∀ x, x ∈ l ↔ x ∈ m) : l.length = m.length := ((List.perm_ext_iff_of_nodup h1 h2).mpr h).length_eq
end
/-- a wish: for each person a seat or none, coins or none -/
abbrev Wi := Option Int × Option Int
end N
end DL
namespace DL
open PySem PySem.Spec L2
/-- an exchange is taken back by the same one -/
theorem Ex.backP {n c : Nat} {ss s1 : List Nat} {ps p1 : List Int} (X : Ex n ss ps c s1 p1) (h : Stt n ss ps) (h2 : 2 ≤ n) : Ex n s1 p1 c ss ps := by
  obtain ⟨j, k, p, q, hj, hk, hp, hp0, hq, rfl, rfl⟩ := X.ex
  have hc := h.lt hj
  obtain ⟨hne, hlt⟩ := next_ne h2 hc
  have hjk : j ≠ k := fun e => hne (by rw [e, hk] at hj; exact Option.some.inj hj)
  have lj := lt_of_getL hj
  have lk := lt_of_getL hk
  have lp := lt_of_getL hp
  have lq := lt_of_getL hq
  have hq0 := h.nn q (List.mem_of_getElem? hq)
  refine ⟨k, j, q + 1, p - 1, List.getElem?_set_self (by simpa using lk), ?_, List.getElem?_set_self (by simpa using lq), by omega, ?_, ?_, ?_⟩
  · rw [List.getElem?_set_ne (Ne.symm hjk), List.getElem?_set_self lj]
  · rw [List.getElem?_set_ne (Ne.symm hjk), List.getElem?_set_self lp]
  · apply ext_of
    intro i
    by_cases hi : j = i
    · subst hi
      rw [List.getElem?_set_self (by simpa using lj), hj]
    · rw [List.getElem?_set_ne hi]
      by_cases hk' : k = i
      · subst hk'
        rw [List.getElem?_set_self (by simpa using lk), hk]
      · rw [List.getElem?_set_ne hk', List.getElem?_set_ne hk', List.getElem?_set_ne hi]
  · apply ext_of
    intro i
    have e1 : p - 1 + 1 = p := by omega
    have e2 : q + 1 - 1 = q := by omega
    rw [e1, e2]
    by_cases hi : j = i
    · subst hi
      rw [List.getElem?_set_self (by simpa using lp), hp]
    · rw [List.getElem?_set_ne hi]
      by_cases hk' : k = i
      · subst hk'
        rw [List.getElem?_set_self (by simpa using lq), hq]
      · rw [List.getElem?_set_ne hk', List.getElem?_set_ne hk', List.getElem?_set_ne hi]
end DL
namespace DL
namespace BF
open PySem PySem.Spec L2 DL
abbrev Sp := N.Sp
section
variable (n : Nat) (ss : List Nat) (ps : List Int)
/-- a state of the lot -/
def In (x : Sp) : Prop := Stt n x.1 x.2 ∧ Lot ss ps x.1 x.2
/-- how far it is from the beginning -/
def Dn (x : Sp) : Nat := (distI n ss ps x.2).toNat
def Stp (x : Sp) (c : Nat) (y : Sp) : Prop := Ex n x.1 x.2 c y.1 y.2
end
section
variable {n : Nat} {ss : List Nat} {ps : List Int}
theorem In.step {x y : Sp} {c : Nat} (h2 : 2 ≤ n) (hx : In n ss ps x) (e : Stp n x c y) : In n ss ps y :=
  let ⟨a, b⟩ := Ex.ok hx.1 h2 e; ⟨a, hx.2.trans b⟩
theorem Stp.back {x y : Sp} {c : Nat} (h2 : 2 ≤ n) (hx : Stt n x.1 x.2) (e : Stp n x c y) : Stp n y c x := Ex.backP e hx h2
theorem Stp.lt {x y : Sp} {c : Nat} (hx : Stt n x.1 x.2) (e : Stp n x c y) : c < n := by
  obtain ⟨j, _, _, _, hj, _⟩ := e.ex
  exact hx.lt hj
end
theorem nks_ints : ∀ (l : List Int), nks (l.map PyData.int) = some (l.map NestedKey.num)
  | [] => by rw [List.map_nil, nks]; rfl
  | a :: l => by rw [List.map_cons, nks, nk, nks_ints l]; rfl
theorem depth_nums : ∀ (l : List Int), NestedKey.depthAll (l.map NestedKey.num) = 0
  | [] => rfl
  | a :: l => by rw [List.map_cons, NestedKey.depthAll, NestedKey.depth, depth_nums l]; rfl
theorem kOk_ints (l : List Int) : kOk (.tuple (l.map PyData.int)) = true := by
  unfold kOk
  rw [nk, nks_ints]
  exact decide_eq_true (by rw [NestedKey.depth, depth_nums]; omega)
end BF
end DL
namespace DL
namespace B
open PySem PySem.Spec L2 DL
open DL.C (Bx getM Bx.mono)
theorem pow_p (k : Nat) (hk : k ≤ 1000) : ∃ Q : Nat, Q = 10 ^ k ∧ ∀ N : Mem, powV (.d (.int 10)) (.d (.int (k : Nat))) N = .ok (.d (nD Q)) N := by
  refine ⟨10 ^ k, rfl, fun N => ?_⟩
  rw [pow_ii (by omega) (by omega) (by decide)]
  simp
end B
end DL
namespace DL
namespace BF
open PySem PySem.Spec L2 DL
section
variable {n : Nat} {ss : List Nat} {ps : List Int}
/-- what is found, how far -/
def dV (n : Nat) (ss : List Nat) (ps : List Int) (x : Sp) : PyData := .int ((Dn n ss ps x : Nat) : Int)
theorem nodup_le {α : Type} : ∀ {F L : List α}, F.Nodup → (∀ x ∈ F, x ∈ L) → F.length ≤ L.length
  | [], _, _, _ => Nat.zero_le _
  | x :: F, L, h, hs => by
    classical
    rw [List.nodup_cons] at h
    have hx : x ∈ L := hs x List.mem_cons_self
    have := nodup_le (F := F) (L := L.erase x) h.2 fun y hy => by
      refine (List.mem_erase_of_ne ?_).mpr (hs y (List.mem_cons_of_mem _ hy))
      rintro rfl
      exact h.1 hy
    rw [List.length_erase_of_mem hx] at this
    have := List.length_pos_of_mem hx
    rw [List.length_cons]
    omega
end
end BF
end DL
namespace DL
open PySem PySem.Spec L2
end DL
namespace DL
open PySem PySem.Spec PyProof.Rows L2
theorem asc_uniq : ∀ {l m : List Int}, l.Pairwise (· < ·) → m.Pairwise (· < ·) → (∀ k, k ∈ l ↔ k ∈ m) → l = m
  | [], [], _, _, _ => rfl
  | [], y :: m, _, _, h => absurd ((h y).mpr List.mem_cons_self) (by simp)
  | x :: l, [], _, _, h => absurd ((h x).mp List.mem_cons_self) (by simp)
  | x :: l, y :: m, hl, hm, h => by
    obtain ⟨l1, l2⟩ := List.pairwise_cons.mp hl
    obtain ⟨m1, m2⟩ := List.pairwise_cons.mp hm
    have e : x = y := by
      rcases List.mem_cons.mp ((h x).mp List.mem_cons_self) with e | hx
      · exact e
      · rcases List.mem_cons.mp ((h y).mpr List.mem_cons_self) with e | hy
        · exact e.symm
        · have := l1 y hy
          have := m1 x hx
          omega
    subst e
    rw [asc_uniq l2 m2 fun k => ⟨fun hk => ?_, fun hk => ?_⟩]
    · rcases List.mem_cons.mp ((h k).mp (List.mem_cons_of_mem _ hk)) with e | h'
      · have := l1 k hk
        omega
      · exact h'
    · rcases List.mem_cons.mp ((h k).mpr (List.mem_cons_of_mem _ hk)) with e | h'
      · have := m1 k hk
        omega
      · exact h'
end DL
namespace L2
open PySem PySem.Spec PyProof.Rows
end L2
namespace DL
open PySem PySem.Spec L2
open PySem.W (Frag)
end DL
namespace L2
open PySem PySem.Spec PyProof.Rows
end L2
namespace DL
open PySem PySem.Spec L2
open PySem.W (Frag)
theorem DpAll.snoc {K : Frag} {F : Hp} : ∀ {vs : List V} {ds : List PyData} {v : V} {d : PyData}, DpAll K F vs ds → Dp K F v d → DpAll K F (vs ++ [v]) (ds ++ [d])
  | _, _, _, _, .nil, h => .cons h .nil
  | _, _, _, _, .cons h t, k => .cons h (DpAll.snoc t k)
end DL
namespace DL
open PySem PySem.Spec L2
end DL
namespace DL
open PySem PySem.Spec L2
namespace T
noncomputable def g_spreads (self : Fn) : Sv := (seqS (ifS (opT eqV (getV 0) (cst (.d (.int 1)))) (retS (datE (dispE (consA (tupE (consA (getV 1) nilA)) nilA)))) nopS) (seqS (setS 2 (datE (dispE nilA))) (seqS (forS (rngI1 (op2 addAV (getV 1) (cst (.d (.int 1))))) (setT 3) (setS 2 (datE (catE (getV 2) (datE (lcE [4] (seqI (callF 2 self (consA (op2 subV (getV 0) (cst (.d (.int 1)))) (consA (op2 subV (getV 1) (getV 3)) nilA)))) (setT 4) (fun _ M => .ok true M) (op2 addAV (tupE (consA (getV 3) nilA)) (getV 4)))))))) (retS (getV 2)))))
noncomputable def m_spreads : Nat → Fn
  | 0 => fun _ _ => .st
  | n + 1 => defM 5 0 (g_spreads (m_spreads n))
end T
end DL
namespace L2
open PySem PySem.Spec PyProof.Rows
end L2
namespace DL
open PySem PySem.Spec L2
end DL
namespace DL
open PySem PySem.Spec L2 PySem.W
end DL
namespace DL
open PySem PySem.Spec L2
namespace V
end V
end DL
namespace DL
open PySem PySem.Spec L2
open PySem.W (alike alikeAll minD dataLt min_list_data AlikeAll readsAll_at reads_keeps alike_unique dataLt_tuple dataLt_all_yes dataLt_all_no dataLt_int eqv_refl_alike keyToks keyToksAll)
end DL
namespace DL
open PySem PySem.Spec L2 PyProof.Rows PySem.W
end DL
namespace DL
open PySem PySem.Spec L2
end DL
namespace DL
open PySem PySem.Spec L2
namespace Q
end Q
end DL
namespace DL
namespace V
open PySem PySem.Spec L2 DL NM DL.N
def oD : Option Int → PyData
  | none => .none
  | some i => .int i
end V
end DL
namespace DL
namespace V
open PySem PySem.Spec L2 DL NM DL.N
def wD (w : Wi) : PyData := .tuple [oD w.1, oD w.2]
def wLs (w : Wi) : PyData := .list [oD w.1, oD w.2]
/-- a wish as a tuple or a list of tuples or of lists -/
structure Wv (y : PyData) (G : Wi → PyData) (W : List Wi) : Prop where
  g : G = wD ∨ G = wLs
  w : y = .tuple (W.map G) ∨ y = .list (W.map G)
theorem Wv.walk {y : PyData} {G : Wi → PyData} {W : List Wi} (h : Wv y G W) : walkOf (.d y) = some (W.map G) := by rcases h.w with rfl | rfl <;> rfl
theorem Wv.len {y : PyData} {G : Wi → PyData} {W : List Wi} (h : Wv y G W) (M : Mem) : lenV [.d y] M = .ok (.d (.int (W.length : Nat))) M := by
  rcases h.w with rfl | rfl
  · rw [len_t, List.length_map]
  · rw [len_l, List.length_map]
theorem Wv.two {y : PyData} {G : Wi → PyData} {W : List Wi} (h : Wv y G W) (w : Wi) (δ : Tgs) (e : Env) (N : Mem) : seqT 2 δ (.d (G w)) e N = δ [oD w.1, oD w.2] e N := by
  rcases h.g with rfl | rfl
  · exact seqT_t rfl
  · exact seqT_l rfl
end V
end DL
namespace DL
namespace V
open PySem PySem.Spec L2 DL NM DL.N
def cB : PyData → Bool
  | .tuple [_, .none] => false
  | .list [_, .none] => false
  | _ => true
end V
end DL
namespace DL
namespace Q
open PySem PySem.Spec L2 DL NM DL.N DL.V
/-- spare rounds and seatings, by wraps -/
def ent : Int → List Int → List (Int × Int)
  | _, [] => []
  | z, c :: cs => if 0 < c ∧ 0 ≤ z then (z, c) :: ent (z - 1) cs else ent (z - 1) cs
def triD (s : Int) (p : Int × Int) : PyData := .tuple [.int s, .int p.1, .int p.2]
/-- the seatings by wraps of those beside a person, when it has the seat -/
def csS (n : Nat) (ms : List Int) (w : Nat) (s : Int) : List Int := sw (isort (ms.eraseIdx w)) (wo (rangeI n) s)
def spS (ms : List Int) (R : Int) (w : Nat) (s : Int) : Int := R - wr [ms.getD w 0] [s]
def stL (n : Nat) (ms : List Int) (R : Int) (w : Nat) (A : List Int) : List PyData := A.flatMap fun s => (ent (spS ms R w s) (csS n ms w s)).map (triD s)
end Q
end DL
namespace DL
namespace N
open PySem PySem.Spec L2 DL DL.C
end N
end DL
namespace DL
namespace N
open PySem PySem.Spec L2 DL NM
end N
end DL
namespace DL
end DL
namespace DL
namespace Q
open PySem PySem.Spec L2 DL NM DL.N DL.V
end Q
end DL
namespace DL
namespace Q
open PySem PySem.Spec L2 DL NM DL.N DL.V
abbrev Tr := Int × Int × Int
def val (n : Nat) (e : Tr) : Int := e.2.2 * sp n e.2.1
theorem lot_len {n : Nat} {ss : List Nat} {ps : List Int} {L : List N.Sp} (h : Stt n ss ps) (h0 : 0 < n) (hL : LotL n ss ps L) : (L.length : Int) = Ng n (resI ss ps) (rdI n ss ps) [] := by
  obtain ⟨L', hL', e⟩ := lot_ex h h0
  rw [← e, nd_len hL.nd hL'.nd fun x => (hL.mem x).trans (hL'.mem x).symm]
theorem lc_list {α : Type} {vs : List Nat} {fi : Ei} {γ : Tg} {t : Env → Mem → Res Bool} {h : Ev} {e : Env} {M M1 : Mem} {l : List α} (f g : α → PyData) (hf : fi e M = .ok (l.map f) M1) (hl : l.length ≤ 100000)
    (hs : ∀ a ∈ l, ∃ e1, γ (.d (f a)) (ewipe e vs) M1 = .ok e1 M1 ∧ t e1 M1 = .ok true M1 ∧ h e1 M1 = .ok (.d (g a)) M1) : lcE vs fi γ t h e M = .ok (l.map g) M1 := by
  have hsz : sizeLine = 2 ^ 24 := rfl
  rw [lcE_at hf]
  have : ∀ (l : List α) (acc : List PyData), acc.length + l.length ≤ 100000 → (∀ a ∈ l, ∃ e1, γ (.d (f a)) (ewipe e vs) M1 = .ok e1 M1 ∧ t e1 M1 = .ok true M1 ∧ h e1 M1 = .ok (.d (g a)) M1) → lcL γ t h (ewipe e vs) (l.map f) acc M1 = .ok (acc ++ l.map g) M1 := by
    intro l
    induction l with
    | nil => intro acc _ _; rw [List.map_nil, List.map_nil, List.append_nil]; rfl
    | cons a l ih =>
      intro acc hl hs
      obtain ⟨e1, h1, h2, h3⟩ := hs a List.mem_cons_self
      rw [List.length_cons] at hl
      rw [List.map_cons]
      unfold lcL
      rw [h1]
      simp only [h2, h3]
      rw [if_pos (by rw [hsz]; omega), ih (acc ++ [g a]) (by rw [List.length_append, List.length_singleton]; omega) fun b hb => hs b (List.mem_cons_of_mem _ hb), List.append_assoc]
      rfl
  have := this l [] (by simpa using hl) hs
  rw [this, List.nil_append]
end Q
end DL
namespace DL
namespace Q
open PySem PySem.Spec L2 DL NM DL.N DL.V
def U (n : Nat) : Int → List Int → Int
  | _, [] => 0
  | z, c :: cs => c * sp n z * z + U n (z - 1) cs
end Q
end DL
namespace DL
namespace Q
open PySem PySem.Spec L2 DL NM DL.N DL.V
end Q
end DL
namespace DL
namespace S
open PySem PySem.Spec L2 DL BF DL.Q
open DL.C (Bx getM Bx.mono)
/-- a comprehension over a list, each item by itself -/
theorem lc_list {α : Type} {vs : List Nat} {fi : Ei} {γ : Tg} {t : Env → Mem → Res Bool} {h : Ev} {e : Env} {M M1 : Mem} {l : List α} (f g : α → PyData) (hf : fi e M = .ok (l.map f) M1) (hl : l.length ≤ 2 ^ 23)
    (hs : ∀ a ∈ l, ∃ e1, γ (.d (f a)) (ewipe e vs) M1 = .ok e1 M1 ∧ t e1 M1 = .ok true M1 ∧ h e1 M1 = .ok (.d (g a)) M1) : lcE vs fi γ t h e M = .ok (l.map g) M1 := by
  have hsz : sizeLine = 2 ^ 24 := rfl
  rw [lcE_at hf]
  have : ∀ (l : List α) (acc : List PyData), acc.length + l.length ≤ 2 ^ 23 → (∀ a ∈ l, ∃ e1, γ (.d (f a)) (ewipe e vs) M1 = .ok e1 M1 ∧ t e1 M1 = .ok true M1 ∧ h e1 M1 = .ok (.d (g a)) M1) → lcL γ t h (ewipe e vs) (l.map f) acc M1 = .ok (acc ++ l.map g) M1 := by
    intro l
    induction l with
    | nil => intro acc _ _; rw [List.map_nil, List.map_nil, List.append_nil]; rfl
    | cons a l ih =>
      intro acc hl hs
      obtain ⟨e1, h1, h2, h3⟩ := hs a List.mem_cons_self
      rw [List.length_cons] at hl
      rw [List.map_cons]
      unfold lcL
      rw [h1]
      simp only [h2, h3]
      rw [if_pos (by rw [hsz]; omega), ih (acc ++ [g a]) (by rw [List.length_append, List.length_singleton]; omega) fun b hb => hs b (List.mem_cons_of_mem _ hb), List.append_assoc]
      rfl
  have := this l [] (by simpa using hl) hs
  rw [this, List.nil_append]
/-- how many, how rich: a small state -/
def Sml (n : Nat) (top : Int) : Prop := (n = 2 ∧ top = 12) ∨ (n = 3 ∧ top = 4) ∨ (n = 4 ∧ top = 2) ∨ (n = 3 ∧ top = 2) ∨ (n = 5 ∧ top = 1) ∨ (n = 4 ∧ top = 1)
theorem Sml.two {n : Nat} {top : Int} (h : Sml n top) : 2 ≤ n ∧ n ≤ 5 ∧ 0 ≤ top ∧ top ≤ 12 := by
  rcases h with ⟨a, b⟩ | ⟨a, b⟩ | ⟨a, b⟩ | ⟨a, b⟩ | ⟨a, b⟩ | ⟨a, b⟩ <;> omega
end S
end DL
namespace DL
namespace T
open PySem PySem.Spec L2 DL DL.C
def stepO (xs : List Int) (found : List (List Int)) : List (List Int) := found.flatMap fun b => (xs.filter fun x => !b.any (· == x)).map fun x => b ++ [x]
def ordersL (xs : List Int) : Nat → List (List Int)
  | 0 => [[]]
  | k + 1 => stepO xs (ordersL xs k)
abbrev tupsD (l : List (List Int)) : List PyData := l.map fun b => .tuple (intsD b)
theorem step_len (xs : List Int) : ∀ l : List (List Int), (stepO xs l).length ≤ l.length * xs.length
  | [] => by simp [stepO]
  | b :: l => by
    have ih := step_len xs l
    unfold stepO at ih ⊢
    rw [List.flatMap_cons, List.length_append, List.length_map, List.length_cons, Nat.add_mul]
    have := List.length_filter_le (fun x => !b.any (· == x)) xs
    omega
theorem orders_len {xs : List Int} (hx : xs.length ≤ 5) : ∀ k, k ≤ 5 → (ordersL xs k).length ≤ 5 ^ k
  | 0, _ => by simp [ordersL]
  | k + 1, hk => by
    have h1 := step_len xs (ordersL xs k)
    have h2 := orders_len hx k (by omega)
    rw [ordersL, Nat.pow_succ]
    exact Nat.le_trans h1 (Nat.mul_le_mul h2 hx)
def stepN (n : Nat) (found : List (List Nat)) : List (List Nat) := found.flatMap fun b => ((List.range n).filter fun x => !b.any (Nat.beq x)).map fun x => b ++ [x]
def ordersN (n : Nat) : Nat → List (List Nat)
  | 0 => [[]]
  | k + 1 => stepN n (ordersN n k)
theorem beq_mem (x : Nat) : ∀ b : List Nat, b.any (Nat.beq x) = true ↔ x ∈ b
  | [] => by simp
  | y :: b => by
    rw [List.any_cons, Bool.or_eq_true, beq_mem x b, List.mem_cons]
    exact or_congr ⟨fun h => Nat.eq_of_beq_eq_true h, fun h => by rw [h]; exact Nat.beq_refl y⟩ Iff.rfl
theorem mem_step {n : Nat} {F : List (List Nat)} {p : List Nat} : p ∈ stepN n F ↔ ∃ b ∈ F, ∃ x, x < n ∧ x ∉ b ∧ p = b ++ [x] := by
  unfold stepN
  constructor
  · intro h
    obtain ⟨b, hb, h⟩ := List.mem_flatMap.mp h
    obtain ⟨x, hx, rfl⟩ := List.mem_map.mp h
    obtain ⟨h1, h2⟩ := List.mem_filter.mp hx
    refine ⟨b, hb, x, List.mem_range.mp h1, fun hm => ?_, rfl⟩
    rw [(beq_mem x b).mpr hm] at h2
    cases h2
  · rintro ⟨b, hb, x, hx, hn, rfl⟩
    refine List.mem_flatMap.mpr ⟨b, hb, List.mem_map.mpr ⟨x, List.mem_filter.mpr ⟨List.mem_range.mpr hx, ?_⟩, rfl⟩⟩
    cases q : b.any (Nat.beq x) with
    | false => rfl
    | true => exact absurd ((beq_mem x b).mp q) hn
theorem mem_orders {n : Nat} : ∀ (k : Nat) {p : List Nat}, p ∈ ordersN n k ↔ p.length = k ∧ p.Nodup ∧ ∀ x ∈ p, x < n
  | 0, p => by
    show p ∈ [[]] ↔ _
    rw [List.mem_singleton]
    constructor
    · rintro rfl; exact ⟨rfl, .nil, fun _ h => (List.not_mem_nil h).elim⟩
    · rintro ⟨h, _⟩; exact List.eq_nil_of_length_eq_zero h
  | k + 1, p => by
    show p ∈ stepN n (ordersN n k) ↔ _
    rw [mem_step]
    constructor
    · rintro ⟨b, hb, x, hx, hn, rfl⟩
      obtain ⟨h1, h2, h3⟩ := (mem_orders k).mp hb
      refine ⟨by simp [h1], ?_, fun y hy => ?_⟩
      · rw [List.nodup_append]
        refine ⟨h2, by simp, fun a ha c hc e => ?_⟩
        rw [List.mem_singleton.mp hc] at e
        exact hn (e ▸ ha)
      · rcases List.mem_append.mp hy with q | q
        · exact h3 y q
        · rw [List.mem_singleton.mp q]; exact hx
    · rintro ⟨h1, h2, h3⟩
      have hne : p ≠ [] := fun e => by rw [e] at h1; simp at h1
      have hp := List.dropLast_concat_getLast hne
      rw [← hp, List.nodup_append] at h2
      refine ⟨p.dropLast, (mem_orders k).mpr ⟨by rw [List.length_dropLast, h1]; rfl, h2.1, fun x hx => h3 x (by rw [← hp]; exact List.mem_append_left _ hx)⟩, p.getLast hne, h3 _ (List.getLast_mem hne), fun hm => h2.2.2 _ hm _ (List.mem_singleton.mpr rfl) rfl, hp.symm⟩
end T
end DL
namespace DL
namespace T
open PySem PySem.Spec L2 DL DL.C
/-- purses of k + 1 people -/
def spL : Nat → Nat → List (List Int)
  | 0, c => [[(c : Int)]]
  | k + 1, c => (List.range (c + 1)).flatMap fun b => (spL k (c - b)).map fun r => (b : Int) :: r
theorem flat_len {α β : Type} (f : α → List β) (m : Nat) : ∀ l : List α, (∀ a ∈ l, (f a).length ≤ m) → (l.flatMap f).length ≤ l.length * m
  | [], _ => by simp
  | a :: l, h => by
    have ih := flat_len f m l fun b hb => h b (List.mem_cons_of_mem _ hb)
    have h1 := h a List.mem_cons_self
    rw [List.flatMap_cons, List.length_append, List.length_cons, Nat.add_mul]
    omega
theorem sp_len : ∀ (k c : Nat), c ≤ 8 → (spL k c).length ≤ 9 ^ k
  | 0, _, _ => by simp [spL]
  | k + 1, c, hc => by
    have h := flat_len (fun b => (spL k (c - b)).map fun r => (b : Int) :: r) (9 ^ k) (List.range (c + 1)) fun b _ => by
      rw [List.length_map]
      exact sp_len k (c - b) (by omega)
    rw [List.length_range] at h
    rw [Nat.pow_succ, Nat.mul_comm]
    exact Nat.le_trans h (Nat.mul_le_mul_right _ (by omega))
theorem mem_sp : ∀ (k c : Nat) (p : List Int), p ∈ spL k c ↔ p.length = k + 1 ∧ (∀ x ∈ p, 0 ≤ x) ∧ p.sum = (c : Int)
  | 0, c, p => by
    show p ∈ [[(c : Int)]] ↔ _
    rw [List.mem_singleton]
    constructor
    · rintro rfl
      exact ⟨rfl, fun x hx => by rw [List.mem_singleton.mp hx]; omega, by simp⟩
    · rintro ⟨h1, _, h3⟩
      match p, h1 with
      | [a], _ =>
        have : a = (c : Int) := by simpa using h3
        rw [this]
  | k + 1, c, p => by
    show p ∈ (List.range (c + 1)).flatMap (fun b => (spL k (c - b)).map fun r => (b : Int) :: r) ↔ _
    rw [List.mem_flatMap]
    constructor
    · rintro ⟨b, hb, h⟩
      obtain ⟨r, hr, rfl⟩ := List.mem_map.mp h
      obtain ⟨h1, h2, h3⟩ := (mem_sp k (c - b) r).mp hr
      have hb := List.mem_range.mp hb
      refine ⟨by rw [List.length_cons, h1], fun x hx => ?_, by rw [List.sum_cons, h3]; omega⟩
      rcases List.mem_cons.mp hx with rfl | hx
      · omega
      · exact h2 x hx
    · rintro ⟨h1, h2, h3⟩
      match p, h1 with
      | a :: r, h1 =>
        have ha := h2 a List.mem_cons_self
        have hr : 0 ≤ r.sum := (sum_nn r fun x hx => h2 x (List.mem_cons_of_mem _ hx)).1
        rw [List.sum_cons] at h3
        refine ⟨a.toNat, List.mem_range.mpr (by omega), List.mem_map.mpr ⟨r, (mem_sp k (c - a.toNat) r).mpr ⟨by simpa using h1, fun x hx => h2 x (List.mem_cons_of_mem _ hx), by omega⟩, ?_⟩⟩
        congr 1
        omega
theorem sp_asc : ∀ (k c : Nat), (spL k c).Pairwise NM.Lex
  | 0, c => List.pairwise_singleton ..
  | k + 1, c => by
    show ((List.range (c + 1)).flatMap (fun b => (spL k (c - b)).map fun r => (b : Int) :: r)).Pairwise NM.Lex
    rw [List.pairwise_flatMap]
    refine ⟨fun b _ => ?_, ?_⟩
    · rw [List.pairwise_map]
      exact (sp_asc k (c - b)).imp fun h => .there h
    · refine List.pairwise_lt_range.imp fun {a b} h x hx y hy => ?_
      obtain ⟨u, _, rfl⟩ := List.mem_map.mp hx
      obtain ⟨v, _, rfl⟩ := List.mem_map.mp hy
      exact .here (by omega)
theorem lex_app : ∀ {xs ys : List Int}, NM.Lex xs ys → ∀ us vs : List Int, NM.Lex (xs ++ us) (ys ++ vs)
  | _, _, .here h, us, vs => .here h
  | _, _, .there h, us, vs => .there (lex_app h us vs)
theorem lex_last : ∀ (b : List Int) {x y : Int}, x < y → NM.Lex (b ++ [x]) (b ++ [y])
  | [], _, _, h => .here h
  | _ :: b, _, _, h => .there (lex_last b h)
theorem orders_asc (n : Nat) : ∀ k : Nat, (ordersN n k).Pairwise fun a b => NM.Lex (castI a) (castI b)
  | 0 => List.pairwise_singleton ..
  | k + 1 => by
    show (stepN n (ordersN n k)).Pairwise _
    unfold stepN
    rw [List.pairwise_flatMap]
    refine ⟨fun b hb => ?_, ?_⟩
    · rw [List.pairwise_map]
      refine (List.pairwise_lt_range.filter _).imp fun {x y} h => ?_
      unfold castI
      rw [List.map_append, List.map_append]
      exact lex_last _ (by simpa using h)
    · refine (orders_asc n k).imp fun {a b} h x hx y hy => ?_
      obtain ⟨u, _, rfl⟩ := List.mem_map.mp hx
      obtain ⟨v, _, rfl⟩ := List.mem_map.mp hy
      unfold castI at h ⊢
      rw [List.map_append, List.map_append]
      exact lex_app h _ _
/-- all states -/
def stL (n c : Nat) : List N.Sp := (ordersN n n).flatMap fun o => (spL (n - 1) c).map fun b => (o, b)
theorem mem_st {n c : Nat} (h0 : 0 < n) (x : N.Sp) : x ∈ stL n c ↔ Stt n x.1 x.2 ∧ x.2.sum = (c : Int) := by
  unfold stL
  rw [List.mem_flatMap]
  constructor
  · rintro ⟨o, ho, h⟩
    obtain ⟨b, hb, rfl⟩ := List.mem_map.mp h
    obtain ⟨h1, h2, h3⟩ := (mem_orders n).mp ho
    obtain ⟨k1, k2, k3⟩ := (mem_sp (n - 1) c b).mp hb
    have hp : o.Perm (List.range n) := by
      obtain ⟨tt, e, hp⟩ := N.of_pre (n := n) (tt := castI o) ⟨List.pairwise_map.mpr (h2.imp fun h e => h (Int.ofNat.inj e)), fun s hs => by
        obtain ⟨y, hy, rfl⟩ := List.mem_map.mp hs
        have := h3 y hy
        omega⟩ (by rw [List.length_map, h1])
      have := congrArg (List.map Int.toNat) e
      have : tt = o := by simpa [castI, List.map_map, Function.comp_def] using this
      rw [← this]
      exact hp
    exact ⟨⟨hp, by rw [k1]; omega, k2⟩, k3⟩
  · rintro ⟨h, hs⟩
    refine ⟨x.1, (mem_orders n).mpr ⟨h.slen, h.perm.nodup_iff.mpr List.nodup_range, fun y hy => List.mem_range.mp (h.perm.mem_iff.mp hy)⟩, List.mem_map.mpr ⟨x.2, (mem_sp (n - 1) c x.2).mpr ⟨by rw [h.len]; omega, h.nn, hs⟩, rfl⟩⟩
theorem st_asc (n c : Nat) : (stL n c).Pairwise fun x y => N.Less x.1 x.2 y.1 y.2 := by
  unfold stL
  rw [List.pairwise_flatMap]
  refine ⟨fun o _ => ?_, ?_⟩
  · rw [List.pairwise_map]
    exact (sp_asc (n - 1) c).imp fun h => .purses h
  · refine (orders_asc n n).imp fun {a b} h x hx y hy => ?_
    obtain ⟨u, _, rfl⟩ := List.mem_map.mp hx
    obtain ⟨v, _, rfl⟩ := List.mem_map.mp hy
    exact .seats h
theorem spreads_ok : ∀ (k f c : Nat) (M : Mem), k ≤ f → c ≤ 8 → k ≤ 4 → m_spreads (f + 1) [.d (.int ((k + 1 : Nat) : Int)), .d (.int (c : Nat))] M = .ok (.d (.list (tupsD (spL k c)))) M := by
  intro k
  induction k with
  | zero =>
    intro f c M hf hc hk
    show defM 5 0 (g_spreads (m_spreads f)) _ M = _
    unfold g_spreads
    have he : ∀ N : Mem, eqV (.d (.int ((0 + 1 : Nat) : Int))) (.d (.int 1)) N = .ok (.d (.bool true)) N := fun N => by
      rw [eq_ii]; rfl
    simp only [defM, startE, seqS_a, setS_a, bindS_ok, bindS_er, then_nx, then_rt, then_er, ifS_a, ifK_t, ifK_f, retS_a, dropS_a, asgS_a, asK_a, goG_ok, subT_a, nopS_a, getV_0, getV_s, cst_a, op2_a, o2a_ok, o2b_ok, opT_a, oTa_ok, oTb_ok, consA_a, cAa_ok, cAb_ok, nilA_a, callF_a, cFa_ok, callE_a, cEa_ok, newE_a, nwa_ok, datE_a, dta_ok, dispE_a, tupE_a, tpa_ok, asDs_a, datas, bind_ok, pur_ok, bool_b, leave_d, leave_nx, leave_er, ifE_a, ifa_t, ifa_f, notT_a, nta_ok, andT_a, ana_t, ana_f, orT_a, ora_t, ora_f, tstE_a, tsa_b, andE_a, aEa_t, aEa_f, orE_a, oEa_t, oEa_f, notE_a, nEa_ok, add_ii, sub_ii, gt_ii, lt_ii, ge_ii, le_ii, setT_a, consT_a, cTa_ok, nilT_a, tupT_a, seqT_t, seqT_l, forS_a, List.map_cons, List.map_nil, List.length_cons, List.length_nil, Nat.reduceAdd, Nat.reduceSub, Nat.zero_add, Nat.add_zero, List.replicate, List.cons_append, List.nil_append, List.append_nil, List.getElem?_cons_zero, List.getElem?_cons_succ, List.set_cons_zero, List.set_cons_succ, List.getElem?_nil, Option.map_some, Option.map_none, Option.bind_some, if_true, if_false, ite_true, ite_false, eq_self_iff_true, and_self, and_true, true_and, decide_true, decide_false, Bool.false_eq_true, Bool.not_true, Bool.not_false, sizeLine, Nat.reducePow, Nat.reduceLeDiff, Nat.zero_le, pow_7, pow_18, pow_40, he]
    rw [take_all (by simp)]
    rfl
  | succ k ih =>
    intro f c M hf hc hk
    obtain ⟨f, rfl⟩ : ∃ f', f = f' + 1 := ⟨f - 1, by omega⟩
    have hsz : sizeLine = 2 ^ 24 := rfl
    have he : ∀ N : Mem, eqV (.d (.int ((k + 1 + 1 : Nat) : Int))) (.d (.int 1)) N = .ok (.d (.bool false)) N := fun N => by
      rw [eq_ii]
      have : ¬ ((k + 1 + 1 : Nat) : Int) = 1 := by omega
      simp [this]
      omega
    let fb : Nat → List (List Int) := fun b => (spL k (c - b)).map fun r => (b : Int) :: r
    have hfb : ∀ b, b ≤ c → (fb b).length ≤ 9 ^ k := fun b hb => by
      show ((spL k (c - b)).map _).length ≤ _
      rw [List.length_map]
      exact sp_len k (c - b) (by omega)
    have h9 : 9 ^ k ≤ 9 ^ 4 := Nat.pow_le_pow_right (by decide) (by omega)
    have h94 : 9 ^ 4 = 6561 := rfl
    obtain ⟨e', M', el, v3, v4, rfl, rfl⟩ := forL_all (γ := setT 3) (g := (setS 2 (datE (catE (getV 2) (datE (lcE [4] (seqI (callF 2 (m_spreads (f + 1)) (consA (op2 subV (getV 0) (cst (.d (.int 1)))) (consA (op2 subV (getV 1) (getV 3)) nilA)))) (setT 4) (fun _ M => .ok true M) (op2 addAV (tupE (consA (getV 3) nilA)) (getV 4))))))))
      (fun j e N => ∃ v3 v4, e = [some (.d (.int ((k + 1 + 1 : Nat) : Int))), some (.d (.int (c : Nat))), some (.d (.list (tupsD ((List.range j).flatMap fb)))), v3, v4] ∧ M = N)
      (xs := rangeD 0 ((c + 1 : Nat) : Int)) (e := [some (.d (.int ((k + 1 + 1 : Nat) : Int))), some (.d (.int (c : Nat))), some (.d (.list [])), none, none]) (M := M)
      (by
        rintro j d e N hd ⟨v3, v4, rfl, rfl⟩
        rw [rangeD_nat, List.getElem?_map] at hd
        obtain ⟨b, hb, rfl⟩ := Option.map_eq_some_iff.mp hd
        have hj := lt_of_getL hb
        rw [List.length_range] at hj
        rw [List.getElem?_range hj] at hb
        cases hb
        have hs1 : ((k + 1 + 1 : Nat) : Int) - 1 = ((k + 1 : Nat) : Int) := by omega
        have hs2 : ((c : Nat) : Int) - ((j : Nat) : Int) = ((c - j : Nat) : Int) := by omega
        have hrec := ih f (c - j) M (by omega) (by omega) (by omega)
        have hlc : lcE [4] (seqI (callF 2 (m_spreads (f + 1)) (consA (op2 subV (getV 0) (cst (.d (.int 1)))) (consA (op2 subV (getV 1) (getV 3)) nilA)))) (setT 4) (fun _ M => .ok true M) (op2 addAV (tupE (consA (getV 3) nilA)) (getV 4)) [some (.d (.int ((k + 1 + 1 : Nat) : Int))), some (.d (.int (c : Nat))), some (.d (.list (tupsD ((List.range j).flatMap fb)))), some (.d (.int (j : Nat))), v4] M = .ok ((spL k (c - j)).map fun r => PyData.tuple (intsD ((j : Int) :: r))) M := by
          refine S.lc_list (l := spL k (c - j)) (fun r => .tuple (intsD r)) (fun r => PyData.tuple (intsD ((j : Int) :: r))) (M1 := M) (seqI_a (x := .d (.list (tupsD (spL k (c - j))))) (by simp only [defM, startE, seqS_a, setS_a, bindS_ok, bindS_er, then_nx, then_rt, then_er, ifS_a, ifK_t, ifK_f, retS_a, dropS_a, asgS_a, asK_a, goG_ok, subT_a, nopS_a, getV_0, getV_s, cst_a, op2_a, o2a_ok, o2b_ok, opT_a, oTa_ok, oTb_ok, consA_a, cAa_ok, cAb_ok, nilA_a, callF_a, cFa_ok, callE_a, cEa_ok, newE_a, nwa_ok, datE_a, dta_ok, dispE_a, tupE_a, tpa_ok, asDs_a, datas, bind_ok, pur_ok, bool_b, leave_d, leave_nx, leave_er, ifE_a, ifa_t, ifa_f, notT_a, nta_ok, andT_a, ana_t, ana_f, orT_a, ora_t, ora_f, tstE_a, tsa_b, andE_a, aEa_t, aEa_f, orE_a, oEa_t, oEa_f, notE_a, nEa_ok, add_ii, sub_ii, gt_ii, lt_ii, ge_ii, le_ii, setT_a, consT_a, cTa_ok, nilT_a, tupT_a, seqT_t, seqT_l, forS_a, List.map_cons, List.map_nil, List.length_cons, List.length_nil, Nat.reduceAdd, Nat.reduceSub, Nat.zero_add, Nat.add_zero, List.replicate, List.cons_append, List.nil_append, List.append_nil, List.getElem?_cons_zero, List.getElem?_cons_succ, List.set_cons_zero, List.set_cons_succ, List.getElem?_nil, Option.map_some, Option.map_none, Option.bind_some, if_true, if_false, ite_true, ite_false, eq_self_iff_true, and_self, and_true, true_and, decide_true, decide_false, Bool.false_eq_true, Bool.not_true, Bool.not_false, sizeLine, Nat.reducePow, Nat.reduceLeDiff, Nat.zero_le, pow_7, pow_18, pow_40, hs1, hs2, hrec]) rfl) (by have := sp_len k (c - j) (by omega); omega) fun r hr => ?_
          have hrl : r.length = k + 1 := ((mem_sp k (c - j) r).mp hr).1
          have : addAV (.d (.tuple [.int (j : Nat)])) (.d (.tuple (intsD r))) M = .ok (.d (.tuple ([.int (j : Nat)] ++ intsD r))) M := addA_t (by rw [hsz]; simp; omega)
          exact ⟨[some (.d (.int ((k + 1 + 1 : Nat) : Int))), some (.d (.int (c : Nat))), some (.d (.list (tupsD ((List.range j).flatMap fb)))), some (.d (.int (j : Nat))), some (.d (.tuple (intsD r)))], rfl, rfl, by simp only [defM, startE, seqS_a, setS_a, bindS_ok, bindS_er, then_nx, then_rt, then_er, ifS_a, ifK_t, ifK_f, retS_a, dropS_a, asgS_a, asK_a, goG_ok, subT_a, nopS_a, getV_0, getV_s, cst_a, op2_a, o2a_ok, o2b_ok, opT_a, oTa_ok, oTb_ok, consA_a, cAa_ok, cAb_ok, nilA_a, callF_a, cFa_ok, callE_a, cEa_ok, newE_a, nwa_ok, datE_a, dta_ok, dispE_a, tupE_a, tpa_ok, asDs_a, datas, bind_ok, pur_ok, bool_b, leave_d, leave_nx, leave_er, ifE_a, ifa_t, ifa_f, notT_a, nta_ok, andT_a, ana_t, ana_f, orT_a, ora_t, ora_f, tstE_a, tsa_b, andE_a, aEa_t, aEa_f, orE_a, oEa_t, oEa_f, notE_a, nEa_ok, add_ii, sub_ii, gt_ii, lt_ii, ge_ii, le_ii, setT_a, consT_a, cTa_ok, nilT_a, tupT_a, seqT_t, seqT_l, forS_a, List.map_cons, List.map_nil, List.length_cons, List.length_nil, Nat.reduceAdd, Nat.reduceSub, Nat.zero_add, Nat.add_zero, List.replicate, List.cons_append, List.nil_append, List.append_nil, List.getElem?_cons_zero, List.getElem?_cons_succ, List.set_cons_zero, List.set_cons_succ, List.getElem?_nil, Option.map_some, Option.map_none, Option.bind_some, if_true, if_false, ite_true, ite_false, eq_self_iff_true, and_self, and_true, true_and, decide_true, decide_false, Bool.false_eq_true, Bool.not_true, Bool.not_false, sizeLine, Nat.reducePow, Nat.reduceLeDiff, Nat.zero_le, pow_7, pow_18, pow_40, this]⟩
        have hlen : (tupsD ((List.range j).flatMap fb)).length ≤ 9 * 6561 := by
          rw [List.length_map]
          have := flat_len fb (9 ^ k) (List.range j) fun b hb => hfb b (by have := List.mem_range.mp hb; omega)
          rw [List.length_range] at this
          exact Nat.le_trans this (Nat.mul_le_mul (by omega) (by omega))
        have hlen2 : ((spL k (c - j)).map fun r => PyData.tuple (intsD ((j : Int) :: r))).length ≤ 6561 := by
          rw [List.length_map]
          have := sp_len k (c - j) (by omega)
          omega
        have hst : tupsD ((List.range (j + 1)).flatMap fb) = tupsD ((List.range j).flatMap fb) ++ (spL k (c - j)).map fun r => PyData.tuple (intsD ((j : Int) :: r)) := by
          rw [List.range_succ, List.flatMap_append, List.flatMap_cons, List.flatMap_nil, List.append_nil]
          simp only [tupsD, List.map_append]
          congr 1
          show ((spL k (c - j)).map _).map _ = _
          rw [List.map_map]
          rfl
        rw [hst]
        generalize tupsD ((List.range j).flatMap fb) = A at *
        generalize (spL k (c - j)).map (fun r => PyData.tuple (intsD ((j : Int) :: r))) = B at *
        have hAB : A.length + B.length ≤ 16777216 := by omega
        refine ⟨_, _, [some (.d (.int ((k + 1 + 1 : Nat) : Int))), some (.d (.int (c : Nat))), some (.d (.list (A ++ B))), some (.d (.int (j : Nat))), v4], _, rfl, ?_, _, _, rfl, rfl⟩
        simp only [defM, startE, seqS_a, setS_a, bindS_ok, bindS_er, then_nx, then_rt, then_er, ifS_a, ifK_t, ifK_f, retS_a, dropS_a, asgS_a, asK_a, goG_ok, subT_a, nopS_a, getV_0, getV_s, cst_a, op2_a, o2a_ok, o2b_ok, opT_a, oTa_ok, oTb_ok, consA_a, cAa_ok, cAb_ok, nilA_a, callF_a, cFa_ok, callE_a, cEa_ok, newE_a, nwa_ok, datE_a, dta_ok, dispE_a, tupE_a, tpa_ok, asDs_a, datas, bind_ok, pur_ok, bool_b, leave_d, leave_nx, leave_er, ifE_a, ifa_t, ifa_f, notT_a, nta_ok, andT_a, ana_t, ana_f, orT_a, ora_t, ora_f, tstE_a, tsa_b, andE_a, aEa_t, aEa_f, orE_a, oEa_t, oEa_f, notE_a, nEa_ok, add_ii, sub_ii, gt_ii, lt_ii, ge_ii, le_ii, setT_a, consT_a, cTa_ok, nilT_a, tupT_a, seqT_t, seqT_l, forS_a, List.map_cons, List.map_nil, List.length_cons, List.length_nil, Nat.reduceAdd, Nat.reduceSub, Nat.zero_add, Nat.add_zero, List.replicate, List.cons_append, List.nil_append, List.append_nil, List.getElem?_cons_zero, List.getElem?_cons_succ, List.set_cons_zero, List.set_cons_succ, List.getElem?_nil, Option.map_some, Option.map_none, Option.bind_some, if_true, if_false, ite_true, ite_false, eq_self_iff_true, and_self, and_true, true_and, decide_true, decide_false, Bool.false_eq_true, Bool.not_true, Bool.not_false, sizeLine, Nat.reducePow, Nat.reduceLeDiff, Nat.zero_le, pow_7, pow_18, pow_40, catE_a, cta_l, hlc, ctb_l, hAB])
      ⟨none, none, rfl, rfl⟩
    have hadd : ∀ N : Mem, addAV (.d (.int (c : Nat))) (.d (.int 1)) N = .ok (.d (.int ((c + 1 : Nat) : Int))) N := fun N => by rw [addA_i]; rfl
    have hrg : rngI1 (op2 addAV (getV 1) (cst (.d (.int 1)))) [some (.d (.int ((k + 1 + 1 : Nat) : Int))), some (.d (.int (c : Nat))), some (.d (.list [])), none, none] M = .ok (rangeD 0 ((c + 1 : Nat) : Int)) M := rngI1_a (by simp only [defM, startE, seqS_a, setS_a, bindS_ok, bindS_er, then_nx, then_rt, then_er, ifS_a, ifK_t, ifK_f, retS_a, dropS_a, asgS_a, asK_a, goG_ok, subT_a, nopS_a, getV_0, getV_s, cst_a, op2_a, o2a_ok, o2b_ok, opT_a, oTa_ok, oTb_ok, consA_a, cAa_ok, cAb_ok, nilA_a, callF_a, cFa_ok, callE_a, cEa_ok, newE_a, nwa_ok, datE_a, dta_ok, dispE_a, tupE_a, tpa_ok, asDs_a, datas, bind_ok, pur_ok, bool_b, leave_d, leave_nx, leave_er, ifE_a, ifa_t, ifa_f, notT_a, nta_ok, andT_a, ana_t, ana_f, orT_a, ora_t, ora_f, tstE_a, tsa_b, andE_a, aEa_t, aEa_f, orE_a, oEa_t, oEa_f, notE_a, nEa_ok, add_ii, sub_ii, gt_ii, lt_ii, ge_ii, le_ii, setT_a, consT_a, cTa_ok, nilT_a, tupT_a, seqT_t, seqT_l, forS_a, List.map_cons, List.map_nil, List.length_cons, List.length_nil, Nat.reduceAdd, Nat.reduceSub, Nat.zero_add, Nat.add_zero, List.replicate, List.cons_append, List.nil_append, List.append_nil, List.getElem?_cons_zero, List.getElem?_cons_succ, List.set_cons_zero, List.set_cons_succ, List.getElem?_nil, Option.map_some, Option.map_none, Option.bind_some, if_true, if_false, ite_true, ite_false, eq_self_iff_true, and_self, and_true, true_and, decide_true, decide_false, Bool.false_eq_true, Bool.not_true, Bool.not_false, sizeLine, Nat.reducePow, Nat.reduceLeDiff, Nat.zero_le, pow_7, pow_18, pow_40, hadd]) (by omega)
    have hlr : (rangeD 0 ((c + 1 : Nat) : Int)).length = c + 1 := by rw [rangeD_nat]; simp
    rw [hlr] at el
    show defM 5 0 (g_spreads (m_spreads (f + 1))) _ M = _
    unfold g_spreads
    have hX : tupsD (spL (k + 1) c) = tupsD ((List.range (c + 1)).flatMap fb) := rfl
    rw [hX]
    generalize tupsD ((List.range (c + 1)).flatMap fb) = X at *
    simp only [defM, startE, seqS_a, setS_a, bindS_ok, bindS_er, then_nx, then_rt, then_er, ifS_a, ifK_t, ifK_f, retS_a, dropS_a, asgS_a, asK_a, goG_ok, subT_a, nopS_a, getV_0, getV_s, cst_a, op2_a, o2a_ok, o2b_ok, opT_a, oTa_ok, oTb_ok, consA_a, cAa_ok, cAb_ok, nilA_a, callF_a, cFa_ok, callE_a, cEa_ok, newE_a, nwa_ok, datE_a, dta_ok, dispE_a, tupE_a, tpa_ok, asDs_a, datas, bind_ok, pur_ok, bool_b, leave_d, leave_nx, leave_er, ifE_a, ifa_t, ifa_f, notT_a, nta_ok, andT_a, ana_t, ana_f, orT_a, ora_t, ora_f, tstE_a, tsa_b, andE_a, aEa_t, aEa_f, orE_a, oEa_t, oEa_f, notE_a, nEa_ok, add_ii, sub_ii, gt_ii, lt_ii, ge_ii, le_ii, setT_a, consT_a, cTa_ok, nilT_a, tupT_a, seqT_t, seqT_l, forS_a, List.map_cons, List.map_nil, List.length_cons, List.length_nil, Nat.reduceAdd, Nat.reduceSub, Nat.zero_add, Nat.add_zero, List.replicate, List.cons_append, List.nil_append, List.append_nil, List.getElem?_cons_zero, List.getElem?_cons_succ, List.set_cons_zero, List.set_cons_succ, List.getElem?_nil, Option.map_some, Option.map_none, Option.bind_some, if_true, if_false, ite_true, ite_false, eq_self_iff_true, and_self, and_true, true_and, decide_true, decide_false, Bool.false_eq_true, Bool.not_true, Bool.not_false, sizeLine, Nat.reducePow, Nat.reduceLeDiff, Nat.zero_le, pow_7, pow_18, pow_40, he, hrg, el]
    rw [take_all (by simp)]
end T
end DL
namespace DL
namespace T
open PySem PySem.Spec L2 DL DL.C NM DL.N
theorem lex_irr : ∀ {xs : List Int}, ¬ NM.Lex xs xs
  | [], h => by cases h
  | x :: xs, h => by
    cases h with
    | here h => exact absurd h (Int.lt_irrefl _)
    | there h => exact lex_irr h
theorem st_nodup (n c : Nat) : (stL n c).Nodup := (st_asc n c).imp fun {a b} h e => by
  subst e
  cases h with
  | seats h => exact lex_irr h
  | purses h => exact lex_irr h
def hasR (r : List Int) (x : N.Sp) : Bool := decide (resI x.1 x.2 = r)
def cntR (n c : Nat) (r : List Int) : Nat := ((stL n c).filter (hasR r)).length
theorem lot_st {n c : Nat} (h0 : 0 < n) {x : N.Sp} (hx : x ∈ stL n c) : LotL n x.1 x.2 ((stL n c).filter (hasR (resI x.1 x.2))) := by
  obtain ⟨h, hs⟩ := (mem_st h0 x).mp hx
  refine ⟨(st_nodup n c).filter _, fun y => ?_⟩
  rw [List.mem_filter, mem_st h0]
  unfold hasR
  rw [decide_eq_true_eq]
  exact ⟨fun ⟨⟨a, b⟩, d⟩ => ⟨a, ⟨d.symm, hs.trans b.symm⟩⟩, fun ⟨a, b⟩ => ⟨⟨a, b.sum.symm.trans hs⟩, b.res.symm⟩⟩
theorem many_in {n c : Nat} (h0 : 0 < n) {x : N.Sp} (hx : x ∈ stL n c) : C.manyI (resI x.1 x.2) (c : Int) = (cntR n c (resI x.1 x.2) : Nat) := by
  obtain ⟨h, hs⟩ := (mem_st h0 x).mp hx
  have h1 := Q.lot_len h h0 (lot_st h0 hx)
  have h2 := lot_Ng h h0
  rw [hs] at h2
  rw [h2, ← h1]
  rfl
/-- whichever the residues -/
theorem many_cnt {n c : Nat} (h0 : 0 < n) {r : List Int} (hl : r.length = n) (hr : ∀ m ∈ r, 0 ≤ m ∧ m < n) : C.manyI r (c : Int) = (cntR n c r : Nat) := by
  by_cases hE : ∃ x ∈ stL n c, resI x.1 x.2 = r
  · obtain ⟨x, hx, rfl⟩ := hE
    exact many_in h0 hx
  · have hz : cntR n c r = 0 := by
      unfold cntR
      rw [List.length_eq_zero_iff, List.filter_eq_nil_iff]
      intro x hx hm
      exact hE ⟨x, hx, of_decide_eq_true hm⟩
    rw [hz]
    apply Classical.byContradiction
    intro hne
    unfold C.manyI at hne
    rw [hl] at hne
    split at hne
    · exact hne rfl
    · rename_i hc
      have hc1 : 0 ≤ (c : Int) - r.sum + (n : Int) * ((n : Int) - 1) / 2 := by omega
      have hc2 : ((c : Int) - r.sum + (n : Int) * ((n : Int) - 1) / 2) % (n : Int) = 0 := by omega
      generalize hY : (c : Int) - r.sum + (n : Int) * ((n : Int) - 1) / 2 = Y at *
      have hdm := Int.mul_ediv_add_emod Y (n : Int)
      rw [hc2, Int.add_zero] at hdm
      have hQ : 0 ≤ Y / (n : Int) := Int.ediv_nonneg hc1 (by omega)
      generalize Y / (n : Int) = Q at *
      rw [up_Ng h0 hl hr hQ] at hne
      have hm : ∀ m ∈ r, 0 ≤ m := fun m h => (hr m h).1
      have hnn := Ng_nonneg hl hm Q n (.nil n) (by simp)
      obtain ⟨st, rr, SA⟩ := StAt.ex hl hm Q n (p := []) (b := 0) (.nil n) (by simp) (Int.le_refl 0) (by omega)
      obtain ⟨s1, s2, s3, s4, s5⟩ := SA.spec (.nil n) (Int.le_refl 0) (by omega)
      rw [List.nil_append] at s1 s2 s5
      obtain ⟨tt, rfl, hperm⟩ := of_pre s1 s2
      rw [Ng_leaf hl _ s1 s2] at s5
      obtain ⟨ys, Yz⟩ := SpAt.ex n s4 s5
      obtain ⟨y1, y2, y3, y4⟩ := Yz.spec s4 s5
      have P := PU.mk' hr (castI_mem hperm) y2 (by rw [s2, hl]) (by rw [y1, hl])
      generalize hq : purI n r (castI tt) ys = qs at P
      have htl : tt.length = n := by simpa using s2
      have hst : Stt n tt qs := ⟨hperm, by rw [P.len.2.2, hl], P.nn.1⟩
      have hres : resI tt qs = r := by rw [resI_cast htl]; exact P.res
      have hsum : qs.sum = (c : Int) := by
        have e1 := P.sum
        have h2 : (castI tt).sum = (n : Int) * ((n : Int) - 1) / 2 := by rw [← sum_range]; exact perm_sum (hperm.map _)
        rw [y3] at e1
        have e3 : wr r (castI tt) + (Q - wr r (castI tt)) = Q := by omega
        rw [e3] at e1
        omega
      exact hE ⟨(tt, qs), (mem_st h0 (tt, qs)).mpr ⟨hst, hsum⟩, hres⟩
def kr (r : List Int) : PyData := .tuple (intsD r)
theorem kr_inj {a b : List Int} (h : kr a = kr b) : a = b := by
  have h1 : intsD a = intsD b := by
    unfold kr at h
    injection h
  have := congrArg intsOf h1
  rw [intsOf_map, intsOf_map] at this
  exact Option.some.inj this
def ktab (f : List Int → Int) (Ks : List (List Int)) : List (PyData × PyData) := Ks.map fun r => (kr r, .int (f r))
theorem look_ktab (f : List Int → Int) : ∀ (Ks : List (List Int)) (r : List Int), dLook (ktab f Ks) (kr r) = if r ∈ Ks then some (.int (f r)) else none
  | [], r => by simp [ktab, dLook]
  | a :: Ks, r => by
    classical
    have ih := look_ktab f Ks r
    unfold dLook ktab at ih ⊢
    rw [List.map_cons, List.find?_cons]
    by_cases h : a = r
    · subst h
      simp
    · have : ¬ kr a = kr r := fun e => h (kr_inj e)
      rw [decide_eq_false this]
      simp only [ih]
      by_cases h2 : r ∈ Ks
      · rw [if_pos h2, if_pos (List.mem_cons_of_mem _ h2)]
      · rw [if_neg h2, if_neg (by simp [h2]; exact fun e => h e.symm)]
/-- one more -/
theorem put_ktab (f g : List Int → Int) (Ks : List (List Int)) (r : List Int) (hg : ∀ s, s ≠ r → g s = f s) : dPut (ktab f Ks) (kr r) (.int (g r)) = if r ∈ Ks then ktab g Ks else ktab g (Ks ++ [r]) := by
  classical
  unfold dPut
  rw [look_ktab]
  by_cases h : r ∈ Ks
  · rw [if_pos h, if_pos h, if_pos (show (some (PyData.int (f r))).isSome = true from rfl)]
    unfold ktab
    rw [List.map_map]
    refine List.map_congr_left fun s _ => ?_
    show (if kr s = kr r then (kr s, PyData.int (g r)) else (kr s, PyData.int (f s))) = (kr s, PyData.int (g s))
    by_cases e : s = r
    · rw [if_pos (by rw [e]), e]
    · rw [if_neg fun q => e (kr_inj q), hg s e]
  · rw [if_neg h, if_neg h, if_neg (by simp)]
    unfold ktab
    rw [List.map_append]
    congr 1
    refine List.map_congr_left fun s hs => ?_
    rw [hg s fun e => h (e ▸ hs)]
theorem kOk_kr (r : List Int) : kOk (kr r) = true := BF.kOk_ints r
theorem kget_k {f : List Int → Int} {Ks : List (List Int)} {r : List Int} {fo fk fz : Ev} {e : Env} {M : Mem} {i : Nat} {z : PyData} (h1 : fo e M = .ok (.h i) M) (h2 : fk e M = .ok (.d (kr r)) M) (h3 : fz e M = .ok (.d z) M) (h : M[i]? = some (.dct (ktab f Ks))) : kgetE fo fk fz e M = .ok (.d (if r ∈ Ks then .int (f r) else z)) M := by
  unfold kgetE
  rw [h1, bind_ok]
  try dsimp only
  rw [h]
  try dsimp only
  rw [h2, bind_ok, h3, bind_ok]
  try dsimp only
  rw [h]
  try dsimp only
  rw [if_pos (kOk_kr r), look_ktab]
  by_cases q : r ∈ Ks <;> simp [q]
theorem kput_k {f g : List Int → Int} {Ks : List (List Int)} {r : List Int} {g1 g2 : Ev} {e : Env} {M : Mem} {i : Nat} (h1 : g1 e M = .ok (.h i) M) (h2 : g2 e M = .ok (.d (kr r)) M) (h : M[i]? = some (.dct (ktab f Ks))) (hg : ∀ s, s ≠ r → g s = f s) (hl : Ks.length < 2 ^ 24) : kputT g1 g2 (.d (.int (g r))) e M = .ok e (M.set i (.dct (if r ∈ Ks then ktab g Ks else ktab g (Ks ++ [r])))) := by
  have hsz : sizeLine = 2 ^ 24 := rfl
  unfold kputT
  rw [h1, bind_ok, h2, bind_ok]
  try dsimp only
  rw [h]
  try dsimp only
  rw [if_pos ⟨kOk_kr r, by unfold ktab; rw [List.length_map, hsz]; exact hl⟩, put_ktab f g Ks r hg]
/-- what was counted so far -/
structure Cn (l : List (List Int)) (Ks : List (List Int)) : Prop where
  nd : Ks.Nodup
  mem : ∀ r, r ∈ Ks ↔ r ∈ l
theorem Cn.len {l Ks : List (List Int)} (h : Cn l Ks) : Ks.length ≤ l.length := by
  have : (Ks).length ≤ l.length := by
    refine BF.nodup_le h.nd fun r hr => (h.mem r).mp hr
  exact this
theorem Cn.next {l Ks : List (List Int)} (h : Cn l Ks) (r : List Int) : Cn (l ++ [r]) (if r ∈ Ks then Ks else Ks ++ [r]) := by
  by_cases hr : r ∈ Ks
  · rw [if_pos hr]
    refine ⟨h.nd, fun s => ?_⟩
    rw [List.mem_append, List.mem_singleton, h.mem]
    exact ⟨.inl, fun a => a.elim id fun e => by rw [e]; exact (h.mem r).mp hr⟩
  · rw [if_neg hr]
    refine ⟨?_, fun s => ?_⟩
    · rw [List.nodup_append]
      exact ⟨h.nd, by simp, fun a ha b hb e => by
        rw [List.mem_singleton.mp hb] at e
        exact hr (e ▸ ha)⟩
    · rw [List.mem_append, List.mem_singleton, List.mem_append, List.mem_singleton, h.mem]
end T
end DL
namespace DL
namespace U
open PySem PySem.Spec L2 DL DL.C NM DL.N DL.T
/-- the sum over the entries -/
def SK (f φ : List Int → Int) (Ks : List (List Int)) : Int := (Ks.map fun r => f r * φ r).sum
def bump (f : List Int → Int) (r : List Int) (m : Int) : List Int → Int := fun s => if s = r then f s + m else f s
theorem sk_bump0 {f φ : List Int → Int} {r : List Int} {m : Int} : ∀ {Ks : List (List Int)}, Ks.Nodup → SK (bump f r m) φ Ks = SK f φ Ks + if r ∈ Ks then m * φ r else 0
  | [], _ => by simp [SK]
  | k :: Ks, h => by
    obtain ⟨h1, h2⟩ := List.nodup_cons.mp h
    have ih := sk_bump0 (f := f) (φ := φ) (r := r) (m := m) h2
    unfold SK at ih ⊢
    rw [List.map_cons, List.sum_cons, List.map_cons, List.sum_cons, ih]
    by_cases e : k = r
    · subst e
      rw [if_neg h1, if_pos List.mem_cons_self]
      unfold bump
      rw [if_pos rfl, Int.add_mul]
      omega
    · have e2 : ¬ r = k := fun z => e z.symm
      unfold bump
      rw [if_neg e]
      simp only [List.mem_cons, e2, false_or]
      omega
theorem sk_bump {f φ : List Int → Int} {r : List Int} {m : Int} {Ks : List (List Int)} (hn : Ks.Nodup) (hz : ∀ s, s ∉ Ks → f s = 0) : SK (bump f r m) φ (if r ∈ Ks then Ks else Ks ++ [r]) = SK f φ Ks + m * φ r := by
  by_cases h : r ∈ Ks
  · rw [if_pos h, sk_bump0 hn, if_pos h]
  · have e := sk_bump0 (f := f) (φ := φ) (r := r) (m := m) hn
    rw [if_neg h] at e ⊢
    unfold SK at e ⊢
    rw [List.map_append, List.sum_append, e]
    show _ + 0 + ((bump f r m r * φ r) + 0) = _
    unfold bump
    rw [if_pos rfl, hz r h, Int.zero_add]
    omega
/-- a dict of so many people and coins: how often -/
structure Dk (p s : Nat) (f : List Int → Int) (Ks : List (List Int)) : Prop where
  nd : Ks.Nodup
  out : ∀ r, r ∉ Ks → f r = 0
  nn : ∀ r, 0 ≤ f r
  key : ∀ r ∈ Ks, ∃ b k : Nat, r = [(b : Int), (k : Int)] ∧ b ≤ p ∧ k ≤ p * s
theorem Dk.len {p s : Nat} {f : List Int → Int} {Ks : List (List Int)} (h : Dk p s f Ks) : Ks.length ≤ (p + 1) * (p * s + 1) := by
  have h1 := BF.nodup_le (F := Ks) (L := (List.range (p + 1)).flatMap fun b : Nat => (List.range (p * s + 1)).map fun k : Nat => [(b : Int), (k : Int)]) h.nd fun r hr => by
    obtain ⟨b, k, rfl, h1, h2⟩ := h.key r hr
    exact List.mem_flatMap.mpr ⟨b, List.mem_range.mpr (by omega), List.mem_map.mpr ⟨k, List.mem_range.mpr (by omega), rfl⟩⟩
  refine Nat.le_trans h1 ?_
  have : ∀ l : List Nat, (l.flatMap fun b : Nat => (List.range (p * s + 1)).map fun k : Nat => [(b : Int), (k : Int)]).length = l.length * (p * s + 1) := by
    intro l
    induction l with
    | nil => simp
    | cons a l ih => rw [List.flatMap_cons, List.length_append, ih, List.length_map, List.length_range, List.length_cons, Nat.add_mul]; omega
  rw [this, List.length_range]
  exact Nat.le_refl _
theorem Dk.put {p s : Nat} {f : List Int → Int} {Ks : List (List Int)} (h : Dk p s f Ks) {b k : Nat} {m : Int} (hm : 0 ≤ m) (hb : b ≤ p) (hk : k ≤ p * s) : Dk p s (bump f [(b : Int), (k : Int)] m) (if [(b : Int), (k : Int)] ∈ Ks then Ks else Ks ++ [[(b : Int), (k : Int)]]) := by
  refine ⟨?_, fun r hr => ?_, fun r => ?_, fun r hr => ?_⟩
  · split
    · exact h.nd
    · rename_i hn
      rw [List.nodup_append]
      exact ⟨h.nd, by simp, fun a ha c hc e => hn (by rw [List.mem_singleton.mp hc] at e; exact e ▸ ha)⟩
  · have h1 : r ≠ [(b : Int), (k : Int)] := fun e => hr (by
      subst e
      split
      · assumption
      · simp)
    unfold bump
    rw [if_neg h1]
    refine h.out r fun hm => hr ?_
    split
    · exact hm
    · exact List.mem_append_left _ hm
  · unfold bump
    have := h.nn r
    split <;> omega
  · have : r ∈ Ks ∨ r = [(b : Int), (k : Int)] := by
      split at hr
      · exact .inl hr
      · simpa using hr
    rcases this with q | q
    · exact h.key r q
    · exact ⟨b, k, q, hb, hk⟩
theorem Dk.more {p s : Nat} : Dk p s (fun _ => 0) [] := ⟨List.nodup_nil, fun _ _ => rfl, fun _ => Int.le_refl _, fun _ h => nomatch h⟩
def cmb (m h : Nat) : Nat := mc (h + 1) (m - h)
def tm (p seat : Nat) (c : Int) (φ : List Int → Int) (b k h : Nat) : Int :=
  if seat + 1 ≤ b + h ∧ ((k + (b + h - seat - 1) : Nat) : Int) ≤ c then (cmb (p - b) h : Int) * φ [((b + h : Nat) : Int), ((k + (b + h - seat - 1) : Nat) : Int)] else 0
def Tn (p seat : Nat) (c : Int) (φ : List Int → Int) (r : List Int) : Int :=
  match r with
  | [b, k] => ((List.range (p - b.toNat + 1)).map fun h => tm p seat c φ b.toNat k.toNat h).sum
  | _ => 0
theorem tn_at (p seat : Nat) (c : Int) (φ : List Int → Int) (b k : Nat) : Tn p seat c φ [(b : Int), (k : Int)] = ((List.range (p - b + 1)).map fun h => tm p seat c φ b k h).sum := by
  show ((List.range (p - ((b : Nat) : Int).toNat + 1)).map fun h => tm p seat c φ ((b : Nat) : Int).toNat ((k : Nat) : Int).toNat h).sum = _
  rw [Int.toNat_natCast, Int.toNat_natCast]
theorem cmb_big (m h : Nat) (hm : m ≤ 60) : cmb m h < 2 ^ 6000 := by
  unfold cmb
  by_cases hh : h ≤ 60
  · refine Nat.lt_of_le_of_lt (mc_le h (m - h)) ?_
    have : (m - h + 1) ^ h ≤ 61 ^ h := Nat.pow_le_pow_left (by omega) h
    have h2 : 61 ^ h ≤ 61 ^ 60 := Nat.pow_le_pow_right (by decide) hh
    exact Nat.lt_of_le_of_lt (Nat.le_trans this h2) (by decide +kernel)
  · rw [show m - h = 0 by omega, mc_zero]
    exact Nat.one_lt_pow (by decide) (by decide)
theorem comb_c {m h : Nat} {M : Mem} (hm : m ≤ 60) (hh : h ≤ m) : combV [.d (.int ((m : Nat) : Int)), .d (.int (h : Nat))] M = .ok (.d (.int (cmb m h : Nat))) M := by
  have e : m = m - h + h := by omega
  have := comb_ok (k := h) (n := m - h) (M := M) (by omega) (by
    have : m - h ≤ 60 := by omega
    exact Nat.le_trans this (by decide))
  rw [← e] at this
  exact this
abbrev E0 (i L : Nat) (seat p : Nat) (c : Int) (v5 v6 v7 v8 v9 v10 : Option Vl) : Env := [some (.h i), some (.d (.int (seat : Nat))), some (.d (.int (p : Nat))), some (.d (.int c)), some (.h L), v5, v6, v7, v8, v9, v10]
noncomputable def sP : Sv := (asgS (op2 addV (kgetE (getV 4) (getV 10) (cst (.d (.int 0)))) (op2 mulV (getV 7) (callE combV (consA (op2 subV (getV 2) (getV 5)) (consA (getV 8) nilA))))) (kputT (getV 4) (getV 10)))
noncomputable def sI : Sv := (seqS (setS 9 (op2 subV (op2 subV (op2 addV (getV 5) (getV 8)) (getV 1)) (cst (.d (.int 1))))) (ifS (andT (opT geV (getV 9) (cst (.d (.int 0)))) (opT leV (op2 addV (getV 6) (getV 9)) (getV 3))) (seqS (setS 10 (tupE (consA (op2 addV (getV 5) (getV 8)) (consA (op2 addV (getV 6) (getV 9)) nilA)))) sP) nopS))
theorem at_len {M : Mem} {o : MO} : (M ++ [o])[M.length]? = some o := by simp
theorem put_step {i seat p b k h : Nat} {c m : Int} {f : List Int → Int} {Ks : List (List Int)} {M : Mem} {s : Nat} (D : Dk p s f Ks) (hp : p ≤ 20) (hs : s ≤ 20) (hm : m.natAbs < 2 ^ 300000) (hh : h ≤ p - b) (hb : b ≤ p) (r : List Int) :
    sP (E0 i M.length seat p c (some (.d (.int (b : Nat)))) (some (.d (.int (k : Nat)))) (some (.d (.int m))) (some (.d (.int (h : Nat)))) (some (.d (.int ((b : Int) + h - seat - 1)))) (some (.d (kr r)))) (M ++ [.dct (ktab f Ks)]) =
      .go .nx (E0 i M.length seat p c (some (.d (.int (b : Nat)))) (some (.d (.int (k : Nat)))) (some (.d (.int m))) (some (.d (.int (h : Nat)))) (some (.d (.int ((b : Int) + h - seat - 1)))) (some (.d (kr r)))) (M ++ [.dct (ktab (bump f r (m * (cmb (p - b) h : Nat))) (if r ∈ Ks then Ks else Ks ++ [r]))]) := by
  generalize hE : E0 i M.length seat p c (some (.d (.int (b : Nat)))) (some (.d (.int (k : Nat)))) (some (.d (.int m))) (some (.d (.int (h : Nat)))) (some (.d (.int ((b : Int) + h - seat - 1)))) (some (.d (kr r))) = e
  have e4 : ∀ N, getV 4 e N = .ok (.h M.length) N := fun N => by rw [← hE]; exact Eq.trans rfl rfl
  have e10 : ∀ N, getV 10 e N = .ok (.d (kr r)) N := fun N => by rw [← hE]; exact Eq.trans rfl rfl
  have e7 : ∀ N, getV 7 e N = .ok (.d (.int m)) N := fun N => by rw [← hE]; exact Eq.trans rfl rfl
  have e2 : ∀ N, getV 2 e N = .ok (.d (.int (p : Nat))) N := fun N => by rw [← hE]; exact Eq.trans rfl rfl
  have e5 : ∀ N, getV 5 e N = .ok (.d (.int (b : Nat))) N := fun N => by rw [← hE]; exact Eq.trans rfl rfl
  have e8 : ∀ N, getV 8 e N = .ok (.d (.int (h : Nat))) N := fun N => by rw [← hE]; exact Eq.trans rfl rfl
  have hg := kget_k (f := f) (Ks := Ks) (r := r) (fo := getV 4) (fk := getV 10) (fz := cst (.d (.int 0))) (e := e) (M := M ++ [.dct (ktab f Ks)]) (i := M.length) (z := .int 0) (e4 _) (e10 _) rfl at_len
  have hv : (if r ∈ Ks then PyData.int (f r) else PyData.int 0) = .int (f r) := by
    by_cases q : r ∈ Ks
    · rw [if_pos q]
    · rw [if_neg q, D.out r q]
  rw [hv] at hg
  have hlen := D.len
  have hl2 : (p + 1) * (p * s + 1) ≤ 21 * (20 * 20 + 1) := Nat.mul_le_mul (by omega) (Nat.succ_le_succ (Nat.mul_le_mul hp hs))
  have hput := kput_k (f := f) (g := bump f r (m * (cmb (p - b) h : Nat))) (Ks := Ks) (r := r) (g1 := getV 4) (g2 := getV 10) (e := e) (M := M ++ [.dct (ktab f Ks)]) (i := M.length) (e4 _) (e10 _) at_len (fun s hs => by unfold bump; rw [if_neg hs]) (by omega)
  rw [j_set (M := M) (L := M.length) (k := 0) rfl] at hput
  have hif : (if r ∈ Ks then ktab (bump f r (m * (cmb (p - b) h : Nat))) Ks else ktab (bump f r (m * (cmb (p - b) h : Nat))) (Ks ++ [r])) = ktab (bump f r (m * (cmb (p - b) h : Nat))) (if r ∈ Ks then Ks else Ks ++ [r]) := by split <;> rfl
  rw [hif] at hput
  have hbr : bump f r (m * (cmb (p - b) h : Nat)) r = f r + m * (cmb (p - b) h : Nat) := by unfold bump; rw [if_pos rfl]
  rw [hbr] at hput
  have hcm := comb_c (M := M ++ [.dct (ktab f Ks)]) (m := p - b) (h := h) (by omega) hh
  have esub : ((p - b : Nat) : Int) = (p : Int) - (b : Int) := by omega
  rw [esub] at hcm
  have hcb := cmb_big (p - b) h (by omega)
  have hmul : mulV (.d (.int m)) (.d (.int (cmb (p - b) h : Nat))) (M ++ [.dct (ktab f Ks)]) = .ok (.d (.int (m * (cmb (p - b) h : Nat)))) (M ++ [.dct (ktab f Ks)]) := mul_big (Nat.lt_trans hm (Nat.pow_lt_pow_right (by decide) (by decide))) (by
    rw [Int.natAbs_natCast]
    exact Nat.lt_trans hcb (Nat.pow_lt_pow_right (by decide) (by decide)))
  generalize m * ((cmb (p - b) h : Nat) : Int) = mm at *
  generalize cmb (p - b) h = cc at *
  have hput' : kputT (getV 4) (getV 10) (.d (.int (f r + mm))) e (M ++ [.dct (ktab f Ks)]) = .ok e (M ++ [.dct (ktab (bump f r mm) (if r ∈ Ks then Ks else Ks ++ [r]))]) := hput
  generalize ktab (bump f r mm) (if r ∈ Ks then Ks else Ks ++ [r]) = T2 at *
  generalize ktab f Ks = T1 at *
  unfold sP
  simp only [defM, startE, seqS_a, setS_a, bindS_ok, bindS_er, then_nx, then_rt, then_er, ifS_a, ifK_t, ifK_f, retS_a, dropS_a, asgS_a, asK_a, goG_ok, subT_a, nopS_a, getV_0, getV_s, cst_a, op2_a, o2a_ok, o2b_ok, opT_a, oTa_ok, oTb_ok, consA_a, cAa_ok, cAb_ok, nilA_a, callF_a, cFa_ok, callE_a, cEa_ok, newE_a, nwa_ok, datE_a, dta_ok, dispE_a, tupE_a, tpa_ok, asDs_a, datas, bind_ok, pur_ok, bool_b, leave_d, leave_nx, leave_er, ifE_a, ifa_t, ifa_f, notT_a, nta_ok, andT_a, ana_t, ana_f, orT_a, ora_t, ora_f, tstE_a, tsa_b, andE_a, aEa_t, aEa_f, orE_a, oEa_t, oEa_f, notE_a, nEa_ok, add_ii, sub_ii, gt_ii, lt_ii, ge_ii, le_ii, setT_a, consT_a, cTa_ok, nilT_a, tupT_a, seqT_t, seqT_l, forS_a, List.map_cons, List.map_nil, List.length_cons, List.length_nil, Nat.reduceAdd, Nat.reduceSub, Nat.zero_add, Nat.add_zero, List.replicate, List.cons_append, List.nil_append, List.append_nil, List.getElem?_cons_zero, List.getElem?_cons_succ, List.set_cons_zero, List.set_cons_succ, List.getElem?_nil, Option.map_some, Option.map_none, Option.bind_some, if_true, if_false, ite_true, ite_false, eq_self_iff_true, and_self, and_true, true_and, decide_true, decide_false, Bool.false_eq_true, Bool.not_true, Bool.not_false, sizeLine, Nat.reducePow, Nat.reduceLeDiff, Nat.zero_le, pow_7, pow_18, pow_40, hg, e7, e2, e5, e8, hcm, hmul, hput']
theorem in_step {i seat p b k h : Nat} {c m : Int} {f : List Int → Int} {Ks : List (List Int)} {M : Mem} {s : Nat} {v9 v10 : Option Vl} (D : Dk p (s + 1) f Ks) (hp : p ≤ 20) (hs : s ≤ 19) (hm : m.natAbs < 2 ^ 300000) (hm0 : 0 ≤ m) (hh : h ≤ p - b) (hb : b ≤ p) (hk : k ≤ p * s) :
    ∃ g Js w9 w10, sI (E0 i M.length seat p c (some (.d (.int (b : Nat)))) (some (.d (.int (k : Nat)))) (some (.d (.int m))) (some (.d (.int (h : Nat)))) v9 v10) (M ++ [.dct (ktab f Ks)]) =
      .go .nx (E0 i M.length seat p c (some (.d (.int (b : Nat)))) (some (.d (.int (k : Nat)))) (some (.d (.int m))) (some (.d (.int (h : Nat)))) w9 w10) (M ++ [.dct (ktab g Js)]) ∧ Dk p (s + 1) g Js ∧ ∀ φ, SK g φ Js = SK f φ Ks + m * tm p seat c φ b k h := by
  by_cases hc : seat + 1 ≤ b + h ∧ ((k + (b + h - seat - 1) : Nat) : Int) ≤ c
  · have eo : ((b + h - seat - 1 : Nat) : Int) = (b : Int) + h - seat - 1 := by omega
    have c1 : (b : Int) + h - seat - 1 ≥ 0 := by omega
    have c2 : (k : Int) + ((b : Int) + h - seat - 1) ≤ c := by
      have := hc.2
      rw [Int.natCast_add, eo] at this
      exact this
    have hkk : k + (b + h - seat - 1) ≤ p * (s + 1) := by
      rw [Nat.mul_succ]
      omega
    have hst := put_step (i := i) (seat := seat) (b := b) (k := k) (h := h) (c := c) (m := m) (M := M) (s := s + 1) D hp (by omega) hm hh hb [((b + h : Nat) : Int), ((k + (b + h - seat - 1) : Nat) : Int)]
    refine ⟨bump f [((b + h : Nat) : Int), ((k + (b + h - seat - 1) : Nat) : Int)] (m * (cmb (p - b) h : Nat)), _, some (.d (.int ((b : Int) + h - seat - 1))), some (.d (kr [((b + h : Nat) : Int), ((k + (b + h - seat - 1) : Nat) : Int)])), ?_, D.put (Int.mul_nonneg hm0 (by omega)) (by omega) hkk, fun φ => ?_⟩
    · have ek : kr [((b + h : Nat) : Int), ((k + (b + h - seat - 1) : Nat) : Int)] = .tuple [.int ((b : Int) + h), .int ((k : Int) + ((b : Int) + h - seat - 1))] := by
        rw [Int.natCast_add k, eo]
        rfl
      rw [ek] at hst ⊢
      generalize ktab (bump f [((b + h : Nat) : Int), ((k + (b + h - seat - 1) : Nat) : Int)] (m * (cmb (p - b) h : Nat))) _ = T2 at *
      generalize ktab f Ks = T1 at *
      unfold E0 at hst ⊢
      unfold sI
      simp only [defM, startE, seqS_a, setS_a, bindS_ok, bindS_er, then_nx, then_rt, then_er, ifS_a, ifK_t, ifK_f, retS_a, dropS_a, asgS_a, asK_a, goG_ok, subT_a, nopS_a, getV_0, getV_s, cst_a, op2_a, o2a_ok, o2b_ok, opT_a, oTa_ok, oTb_ok, consA_a, cAa_ok, cAb_ok, nilA_a, callF_a, cFa_ok, callE_a, cEa_ok, newE_a, nwa_ok, datE_a, dta_ok, dispE_a, tupE_a, tpa_ok, asDs_a, datas, bind_ok, pur_ok, bool_b, leave_d, leave_nx, leave_er, ifE_a, ifa_t, ifa_f, notT_a, nta_ok, andT_a, ana_t, ana_f, orT_a, ora_t, ora_f, tstE_a, tsa_b, andE_a, aEa_t, aEa_f, orE_a, oEa_t, oEa_f, notE_a, nEa_ok, add_ii, sub_ii, gt_ii, lt_ii, ge_ii, le_ii, setT_a, consT_a, cTa_ok, nilT_a, tupT_a, seqT_t, seqT_l, forS_a, List.map_cons, List.map_nil, List.length_cons, List.length_nil, Nat.reduceAdd, Nat.reduceSub, Nat.zero_add, Nat.add_zero, List.replicate, List.cons_append, List.nil_append, List.append_nil, List.getElem?_cons_zero, List.getElem?_cons_succ, List.set_cons_zero, List.set_cons_succ, List.getElem?_nil, Option.map_some, Option.map_none, Option.bind_some, if_true, if_false, ite_true, ite_false, eq_self_iff_true, and_self, and_true, true_and, decide_true, decide_false, Bool.false_eq_true, Bool.not_true, Bool.not_false, sizeLine, Nat.reducePow, Nat.reduceLeDiff, Nat.zero_le, pow_7, pow_18, pow_40, c1, c2, hst]
    · rw [sk_bump D.nd D.out]
      unfold tm
      rw [if_pos hc, Int.mul_assoc]
  · refine ⟨f, Ks, some (.d (.int ((b : Int) + h - seat - 1))), v10, ?_, D, fun φ => by unfold tm; rw [if_neg hc]; omega⟩
    generalize ktab f Ks = T1 at *
    unfold E0 sI
    by_cases c1 : (b : Int) + h - seat - 1 ≥ 0
    · have c2 : ¬ (k : Int) + ((b : Int) + h - seat - 1) ≤ c := fun q => hc ⟨by omega, by
        have eo : ((b + h - seat - 1 : Nat) : Int) = (b : Int) + h - seat - 1 := by omega
        rw [Int.natCast_add, eo]
        exact q⟩
      simp only [defM, startE, seqS_a, setS_a, bindS_ok, bindS_er, then_nx, then_rt, then_er, ifS_a, ifK_t, ifK_f, retS_a, dropS_a, asgS_a, asK_a, goG_ok, subT_a, nopS_a, getV_0, getV_s, cst_a, op2_a, o2a_ok, o2b_ok, opT_a, oTa_ok, oTb_ok, consA_a, cAa_ok, cAb_ok, nilA_a, callF_a, cFa_ok, callE_a, cEa_ok, newE_a, nwa_ok, datE_a, dta_ok, dispE_a, tupE_a, tpa_ok, asDs_a, datas, bind_ok, pur_ok, bool_b, leave_d, leave_nx, leave_er, ifE_a, ifa_t, ifa_f, notT_a, nta_ok, andT_a, ana_t, ana_f, orT_a, ora_t, ora_f, tstE_a, tsa_b, andE_a, aEa_t, aEa_f, orE_a, oEa_t, oEa_f, notE_a, nEa_ok, add_ii, sub_ii, gt_ii, lt_ii, ge_ii, le_ii, setT_a, consT_a, cTa_ok, nilT_a, tupT_a, seqT_t, seqT_l, forS_a, List.map_cons, List.map_nil, List.length_cons, List.length_nil, Nat.reduceAdd, Nat.reduceSub, Nat.zero_add, Nat.add_zero, List.replicate, List.cons_append, List.nil_append, List.append_nil, List.getElem?_cons_zero, List.getElem?_cons_succ, List.set_cons_zero, List.set_cons_succ, List.getElem?_nil, Option.map_some, Option.map_none, Option.bind_some, if_true, if_false, ite_true, ite_false, eq_self_iff_true, and_self, and_true, true_and, decide_true, decide_false, Bool.false_eq_true, Bool.not_true, Bool.not_false, sizeLine, Nat.reducePow, Nat.reduceLeDiff, Nat.zero_le, pow_7, pow_18, pow_40, c1, c2]
    · simp only [defM, startE, seqS_a, setS_a, bindS_ok, bindS_er, then_nx, then_rt, then_er, ifS_a, ifK_t, ifK_f, retS_a, dropS_a, asgS_a, asK_a, goG_ok, subT_a, nopS_a, getV_0, getV_s, cst_a, op2_a, o2a_ok, o2b_ok, opT_a, oTa_ok, oTb_ok, consA_a, cAa_ok, cAb_ok, nilA_a, callF_a, cFa_ok, callE_a, cEa_ok, newE_a, nwa_ok, datE_a, dta_ok, dispE_a, tupE_a, tpa_ok, asDs_a, datas, bind_ok, pur_ok, bool_b, leave_d, leave_nx, leave_er, ifE_a, ifa_t, ifa_f, notT_a, nta_ok, andT_a, ana_t, ana_f, orT_a, ora_t, ora_f, tstE_a, tsa_b, andE_a, aEa_t, aEa_f, orE_a, oEa_t, oEa_f, notE_a, nEa_ok, add_ii, sub_ii, gt_ii, lt_ii, ge_ii, le_ii, setT_a, consT_a, cTa_ok, nilT_a, tupT_a, seqT_t, seqT_l, forS_a, List.map_cons, List.map_nil, List.length_cons, List.length_nil, Nat.reduceAdd, Nat.reduceSub, Nat.zero_add, Nat.add_zero, List.replicate, List.cons_append, List.nil_append, List.append_nil, List.getElem?_cons_zero, List.getElem?_cons_succ, List.set_cons_zero, List.set_cons_succ, List.getElem?_nil, Option.map_some, Option.map_none, Option.bind_some, if_true, if_false, ite_true, ite_false, eq_self_iff_true, and_self, and_true, true_and, decide_true, decide_false, Bool.false_eq_true, Bool.not_true, Bool.not_false, sizeLine, Nat.reducePow, Nat.reduceLeDiff, Nat.zero_le, pow_7, pow_18, pow_40, c1]
end U
end DL
namespace DL
namespace U
open PySem PySem.Spec L2 DL DL.C NM DL.N DL.T
theorem sum_succ (f : Nat → Int) (t : Nat) : ((List.range (t + 1)).map f).sum = ((List.range t).map f).sum + f t := by
  rw [List.range_succ, List.map_append, List.sum_append]
  simp
noncomputable def sO : Sv := (forS (rngI1 (op2 addV (op2 subV (getV 2) (getV 5)) (cst (.d (.int 1))))) (setT 8) sI)
theorem in_loop {i seat p b k : Nat} {c m : Int} {f : List Int → Int} {Ks : List (List Int)} {M : Mem} {s : Nat} {v8 v9 v10 : Option Vl} (D : Dk p (s + 1) f Ks) (hp : p ≤ 20) (hs : s ≤ 19) (hm : m.natAbs < 2 ^ 300000) (hm0 : 0 ≤ m) (hb : b ≤ p) (hk : k ≤ p * s) :
    ∃ g Js w8 w9 w10, sO (E0 i M.length seat p c (some (.d (.int (b : Nat)))) (some (.d (.int (k : Nat)))) (some (.d (.int m))) v8 v9 v10) (M ++ [.dct (ktab f Ks)]) =
      .go .nx (E0 i M.length seat p c (some (.d (.int (b : Nat)))) (some (.d (.int (k : Nat)))) (some (.d (.int m))) w8 w9 w10) (M ++ [.dct (ktab g Js)]) ∧ Dk p (s + 1) g Js ∧ ∀ φ, SK g φ Js = SK f φ Ks + m * Tn p seat c φ [(b : Int), (k : Int)] := by
  obtain ⟨e', M', el, g, Js, w8, w9, w10, rfl, rfl, D', hS⟩ := forL_all (γ := setT 8) (g := sI)
    (fun t e N => ∃ g Js w8 w9 w10, e = E0 i M.length seat p c (some (.d (.int (b : Nat)))) (some (.d (.int (k : Nat)))) (some (.d (.int m))) w8 w9 w10 ∧ N = M ++ [.dct (ktab g Js)] ∧ Dk p (s + 1) g Js ∧ ∀ φ, SK g φ Js = SK f φ Ks + m * ((List.range t).map fun h => tm p seat c φ b k h).sum)
    (xs := intsD (rangeI (p - b + 1))) (e := E0 i M.length seat p c (some (.d (.int (b : Nat)))) (some (.d (.int (k : Nat)))) (some (.d (.int m))) v8 v9 v10) (M := M ++ [.dct (ktab f Ks)])
    (by
      rintro t d e N hd ⟨g, Js, w8, w9, w10, rfl, rfl, D', hS⟩
      rw [List.getElem?_map] at hd
      obtain ⟨z, hz, rfl⟩ := Option.map_eq_some_iff.mp hd
      have ht := lt_of_getL hz
      rw [rangeI_len] at ht
      have ez : z = (t : Int) := by
        unfold rangeI at hz
        rw [List.getElem?_map, List.getElem?_range ht] at hz
        exact (Option.some.inj hz).symm
      subst ez
      obtain ⟨g', Js', x9, x10, h1, h2, h3⟩ := in_step (i := i) (seat := seat) (b := b) (k := k) (h := t) (c := c) (m := m) (M := M) (s := s) (v9 := w9) (v10 := w10) D' hp hs hm hm0 (by omega) hb hk
      refine ⟨E0 i M.length seat p c (some (.d (.int (b : Nat)))) (some (.d (.int (k : Nat)))) (some (.d (.int m))) (some (.d (.int (t : Nat)))) w9 w10, _, _, _, Eq.trans rfl rfl, h1, g', Js', _, x9, x10, rfl, rfl, h2, fun φ => ?_⟩
      rw [h3, hS, sum_succ, Int.mul_add, Int.add_assoc])
    ⟨f, Ks, v8, v9, v10, rfl, rfl, D, fun φ => by simp⟩
  refine ⟨g, Js, w8, w9, w10, ?_, D', fun φ => ?_⟩
  · have hr : rngI1 (op2 addV (op2 subV (getV 2) (getV 5)) (cst (.d (.int 1)))) (E0 i M.length seat p c (some (.d (.int (b : Nat)))) (some (.d (.int (k : Nat)))) (some (.d (.int m))) v8 v9 v10) (M ++ [.dct (ktab f Ks)]) = .ok (intsD (rangeI (p - b + 1))) (M ++ [.dct (ktab f Ks)]) := by
      generalize M ++ [.dct (ktab f Ks)] = N
      refine (rngI1_a (i := ((p - b + 1 : Nat) : Int)) (M1 := N) ?_ (by omega)).trans (by rw [rangeD_int])
      unfold E0
      simp only [defM, startE, seqS_a, setS_a, bindS_ok, bindS_er, then_nx, then_rt, then_er, ifS_a, ifK_t, ifK_f, retS_a, dropS_a, asgS_a, asK_a, goG_ok, subT_a, nopS_a, getV_0, getV_s, cst_a, op2_a, o2a_ok, o2b_ok, opT_a, oTa_ok, oTb_ok, consA_a, cAa_ok, cAb_ok, nilA_a, callF_a, cFa_ok, callE_a, cEa_ok, newE_a, nwa_ok, datE_a, dta_ok, dispE_a, tupE_a, tpa_ok, asDs_a, datas, bind_ok, pur_ok, bool_b, leave_d, leave_nx, leave_er, ifE_a, ifa_t, ifa_f, notT_a, nta_ok, andT_a, ana_t, ana_f, orT_a, ora_t, ora_f, tstE_a, tsa_b, andE_a, aEa_t, aEa_f, orE_a, oEa_t, oEa_f, notE_a, nEa_ok, add_ii, sub_ii, gt_ii, lt_ii, ge_ii, le_ii, setT_a, consT_a, cTa_ok, nilT_a, tupT_a, seqT_t, seqT_l, forS_a, List.map_cons, List.map_nil, List.length_cons, List.length_nil, Nat.reduceAdd, Nat.reduceSub, Nat.zero_add, Nat.add_zero, List.replicate, List.cons_append, List.nil_append, List.append_nil, List.getElem?_cons_zero, List.getElem?_cons_succ, List.set_cons_zero, List.set_cons_succ, List.getElem?_nil, Option.map_some, Option.map_none, Option.bind_some, if_true, if_false, ite_true, ite_false, eq_self_iff_true, and_self, and_true, true_and, decide_true, decide_false, Bool.false_eq_true, Bool.not_true, Bool.not_false, sizeLine, Nat.reducePow, Nat.reduceLeDiff, Nat.zero_le, pow_7, pow_18, pow_40]
      rw [show (p : Int) - (b : Int) + 1 = ((p - b + 1 : Nat) : Int) by omega]
    unfold sO forS lift
    rw [hr]
    exact el
  · rw [hS, tn_at]
    unfold intsD
    rw [List.length_map, rangeI_len]
theorem kt_len (f : List Int → Int) (Ks : List (List Int)) : (ktab f Ks).length = Ks.length := by unfold ktab; rw [List.length_map]
theorem sk_snoc (f φ : List Int → Int) (Ks : List (List Int)) (r : List Int) : SK f φ (Ks ++ [r]) = SK f φ Ks + f r * φ r := by
  unfold SK
  rw [List.map_append, List.sum_append]
  simp
theorem next_ok {i seat p s : Nat} {c : Int} {f : List Int → Int} {Ks : List (List Int)} {M : Mem} (hM : M[i]? = some (.dct (ktab f Ks))) (D : Dk p s f Ks) (hp : p ≤ 20) (hs : s ≤ 19) (hB : ∀ r, (f r).natAbs < 2 ^ 300000) :
    ∃ g Js, m_with_next_seat [.h i, .d (.int (seat : Nat)), .d (.int (p : Nat)), .d (.int c)] M = .ok (.h M.length) (M ++ [.dct (ktab g Js)]) ∧ Dk p (s + 1) g Js ∧ ∀ φ, SK g φ Js = SK f (Tn p seat c φ) Ks := by
  have hi := (List.getElem?_eq_some_iff.mp hM).1
  obtain ⟨e', M', el, g, Js, v5, v6, v7, v8, v9, v10, rfl, rfl, D', hS⟩ := forK_all (k := i) (ys := ktab f Ks) (γ := tupT 2 (consT (tupT 2 (consT (setT 5) (consT (setT 6) nilT))) (consT (setT 7) nilT))) (g := sO)
    (fun j e N => ∃ g Js v5 v6 v7 v8 v9 v10, e = E0 i M.length seat p c v5 v6 v7 v8 v9 v10 ∧ N = M ++ [.dct (ktab g Js)] ∧ Dk p (s + 1) g Js ∧ ∀ φ, SK g φ Js = SK f (Tn p seat c φ) (Ks.take j))
    (fun j e N ⟨g, Js, _, _, _, _, _, _, _, hN, _⟩ => by rw [hN, List.getElem?_append_left hi]; exact hM)
    (by
      rintro j x e N hx ⟨g, Js, v5, v6, v7, v8, v9, v10, rfl, rfl, D', hS⟩
      unfold ktab at hx
      rw [List.getElem?_map] at hx
      obtain ⟨r, hr, rfl⟩ := Option.map_eq_some_iff.mp hx
      obtain ⟨b, k, er, hb, hk⟩ := D.key r (List.mem_of_getElem? hr)
      have hfr := hB r
      have hf0 := D.nn r
      have ht : Ks.take (j + 1) = Ks.take j ++ [r] := by rw [List.take_add_one, hr]; rfl
      obtain ⟨g', Js', x8, x9, x10, h1, h2, h3⟩ := in_loop (i := i) (seat := seat) (b := b) (k := k) (c := c) (m := f r) (M := M) (s := s) (v8 := v8) (v9 := v9) (v10 := v10) D' hp hs hfr hf0 hb hk
      refine ⟨E0 i M.length seat p c (some (.d (.int (b : Nat)))) (some (.d (.int (k : Nat)))) (some (.d (.int (f r)))) v8 v9 v10, _, _, _, ?_, h1, g', Js', _, _, _, x8, x9, x10, rfl, rfl, h2, fun φ => ?_⟩
      · show tupT 2 _ (.d (.tuple [kr r, .int (f r)])) _ _ = _
        rw [er]
        exact Eq.trans rfl rfl
      · rw [h3, hS, ht, sk_snoc, ← er])
    (e := E0 i M.length seat p c none none none none none none) (M := M ++ [.dct (ktab (fun _ => 0) [])])
    ⟨fun _ => 0, [], none, none, none, none, none, none, rfl, rfl, Dk.more, fun φ => rfl⟩
  rw [kt_len, List.take_length] at hS
  refine ⟨g, Js, ?_, D', hS⟩
  have hf : forKS (getV 0) (tupT 2 (consT (tupT 2 (consT (setT 5) (consT (setT 6) nilT))) (consT (setT 7) nilT))) sO (E0 i M.length seat p c none none none none none none) (M ++ [.dct []]) = .go .nx (E0 i M.length seat p c v5 v6 v7 v8 v9 v10) (M ++ [.dct (ktab g Js)]) :=
    (forKS_a (k := i) (ys := ktab f Ks) (M1 := M ++ [.dct []]) rfl (by rw [List.getElem?_append_left hi]; exact hM)).trans el
  generalize ktab g Js = T1 at *
  unfold E0 sO sI sP at hf
  unfold m_with_next_seat g_with_next_seat
  have hn : ∀ (e : Env) (N : Mem), knewE e N = .ok (.h N.length) (N ++ [.dct []]) := fun _ _ => rfl
  simp only [defM, startE, seqS_a, setS_a, bindS_ok, bindS_er, then_nx, then_rt, then_er, ifS_a, ifK_t, ifK_f, retS_a, dropS_a, asgS_a, asK_a, goG_ok, subT_a, nopS_a, getV_0, getV_s, cst_a, op2_a, o2a_ok, o2b_ok, opT_a, oTa_ok, oTb_ok, consA_a, cAa_ok, cAb_ok, nilA_a, callF_a, cFa_ok, callE_a, cEa_ok, newE_a, nwa_ok, datE_a, dta_ok, dispE_a, tupE_a, tpa_ok, asDs_a, datas, bind_ok, pur_ok, bool_b, leave_d, leave_nx, leave_er, ifE_a, ifa_t, ifa_f, notT_a, nta_ok, andT_a, ana_t, ana_f, orT_a, ora_t, ora_f, tstE_a, tsa_b, andE_a, aEa_t, aEa_f, orE_a, oEa_t, oEa_f, notE_a, nEa_ok, add_ii, sub_ii, gt_ii, lt_ii, ge_ii, le_ii, setT_a, consT_a, cTa_ok, nilT_a, tupT_a, seqT_t, seqT_l, forS_a, List.map_cons, List.map_nil, List.length_cons, List.length_nil, Nat.reduceAdd, Nat.reduceSub, Nat.zero_add, Nat.add_zero, List.replicate, List.cons_append, List.nil_append, List.append_nil, List.getElem?_cons_zero, List.getElem?_cons_succ, List.set_cons_zero, List.set_cons_succ, List.getElem?_nil, Option.map_some, Option.map_none, Option.bind_some, if_true, if_false, ite_true, ite_false, eq_self_iff_true, and_self, and_true, true_and, decide_true, decide_false, Bool.false_eq_true, Bool.not_true, Bool.not_false, sizeLine, Nat.reducePow, Nat.reduceLeDiff, Nat.zero_le, pow_7, pow_18, pow_40, hn, hf]
  rw [leave_h (by omega), take_all (by simp)]
theorem sk_mono {f φ : List Int → Int} {Ks : List (List Int)} (h0 : ∀ r, 0 ≤ f r) (hφ : ∀ r ∈ Ks, 0 ≤ φ r) : 0 ≤ SK f φ Ks ∧ ∀ r ∈ Ks, f r * φ r ≤ SK f φ Ks := by
  induction Ks with
  | nil => exact ⟨Int.le_refl _, fun _ h => nomatch h⟩
  | cons a Ks ih =>
    obtain ⟨h1, h2⟩ := ih fun r hr => hφ r (List.mem_cons_of_mem _ hr)
    have ha := Int.mul_nonneg (h0 a) (hφ a List.mem_cons_self)
    have e : SK f φ (a :: Ks) = f a * φ a + SK f φ Ks := by unfold SK; rw [List.map_cons, List.sum_cons]
    refine ⟨by rw [e]; omega, fun r hr => ?_⟩
    rw [e]
    rcases List.mem_cons.mp hr with rfl | hr
    · omega
    · have := h2 r hr
      omega
theorem sk_le {f φ ψ : List Int → Int} {Ks : List (List Int)} (h0 : ∀ r, 0 ≤ f r) (hφ : ∀ r ∈ Ks, φ r ≤ ψ r) : SK f φ Ks ≤ SK f ψ Ks := by
  induction Ks with
  | nil => exact Int.le_refl _
  | cons a Ks ih =>
    have ih := ih fun r hr => hφ r (List.mem_cons_of_mem _ hr)
    have ha := Int.mul_le_mul_of_nonneg_left (hφ a List.mem_cons_self) (h0 a)
    have e : ∀ φ, SK f φ (a :: Ks) = f a * φ a + SK f φ Ks := fun φ => by unfold SK; rw [List.map_cons, List.sum_cons]
    rw [e, e]
    omega
theorem sk_const (f : List Int → Int) (c : Int) (Ks : List (List Int)) : SK f (fun _ => c) Ks = c * SK f (fun _ => 1) Ks := by
  induction Ks with
  | nil => simp [SK]
  | cons a Ks ih =>
    have e : ∀ φ, SK f φ (a :: Ks) = f a * φ a + SK f φ Ks := fun φ => by unfold SK; rw [List.map_cons, List.sum_cons]
    rw [e, e, ih, Int.mul_add, Int.mul_one, Int.mul_comm]
theorem tn_one_le {p seat s : Nat} {c : Int} {f : List Int → Int} {Ks : List (List Int)} (D : Dk p s f Ks) (hp : p ≤ 20) : ∀ r ∈ Ks, Tn p seat c (fun _ => 1) r ≤ 2 ^ 7000 := by
  intro r hr
  obtain ⟨b, k, rfl, hb, hk⟩ := D.key r hr
  rw [tn_at]
  have key : ∀ l : List Nat, l.length ≤ 21 → (∀ h ∈ l, h ≤ p) → (l.map fun h => tm p seat c (fun _ => 1) b k h).sum ≤ (l.length : Int) * 2 ^ 6000 := by
    intro l
    induction l with
    | nil => intro _ _; simp
    | cons a l ih =>
      intro h1 h2
      have ih := ih (by simp at h1; omega) fun h hh => h2 h (List.mem_cons_of_mem _ hh)
      have hc := cmb_big (p - b) a (by omega)
      rw [List.map_cons, List.sum_cons, List.length_cons]
      have hc2 : ((cmb (p - b) a : Nat) : Int) < 2 ^ 6000 := by
        have := Int.ofNat_lt.mpr hc
        rwa [Int.natCast_pow] at this
      have : tm p seat c (fun _ => 1) b k a ≤ 2 ^ 6000 := by
        unfold tm
        split
        · rw [Int.mul_one]; omega
        · exact Int.le_of_lt (Int.pow_pos (by decide))
      rw [Int.natCast_add, Int.add_mul]
      generalize (2 : Int) ^ 6000 = Z at *
      omega
  have h1 := key (List.range (p - b + 1)) (by simp; omega) (fun h hh => by have := List.mem_range.mp hh; omega)
  rw [List.length_range] at h1
  refine Int.le_trans h1 ?_
  have h2 : ((p - b + 1 : Nat) : Int) * 2 ^ 6000 ≤ 2 ^ 5 * 2 ^ 6000 := Int.mul_le_mul_of_nonneg_right (by omega) (Int.le_of_lt (Int.pow_pos (by decide)))
  rw [← Int.pow_add] at h2
  refine Int.le_trans h2 ?_
  have : ((2 ^ 6005 : Nat) : Int) ≤ ((2 ^ 7000 : Nat) : Int) := Int.ofNat_le.mpr (Nat.pow_le_pow_right (by decide) (by decide))
  rwa [Int.natCast_pow, Int.natCast_pow] at this
/-- how many rows, seat by seat from the last one -/
def Rr (p : Nat) (c : Int) : Nat → List Int → Int
  | 0 => fun _ => 1
  | t + 1 => Tn p (p - (t + 1)) c (Rr p c t)
theorem int_map (f : List Int → Int) (Ks : List (List Int)) : intsOf ((ktab f Ks).map (·.2)) = some (Ks.map f) := by
  unfold ktab
  rw [List.map_map]
  exact (congrArg intsOf (List.map_map (f := f) (g := PyData.int) (l := Ks)).symm).trans (intsOf_map (Ks.map f))
theorem rows_ok {p : Nat} {c : Int} {M : Mem} (hp : p ≤ 20) : m_rows_many [.d (.int (p : Nat)), .d (.int c)] M = .ok (.d (.int (Rr p c p [0, 0]))) M := by
  have D0 : Dk p 0 (fun r => if r = [0, 0] then 1 else 0) [[0, 0]] := ⟨by simp, fun r hr => if_neg fun e => hr (by simp [e]), fun r => by split <;> omega, fun r hr => ⟨0, 0, List.mem_singleton.mp hr, Nat.zero_le _, Nat.zero_le _⟩⟩
  obtain ⟨e', M', el, i, g, Js, N, v3, rfl, rfl, hi, D', hS, h1⟩ := forL_all (γ := setT 3) (g := setS 2 (callF 4 U.m_with_next_seat (consA (getV 2) (consA (getV 3) (consA (getV 0) (consA (getV 1) nilA))))))
    (fun j e N' => ∃ i g Js N v3, e = [some (.d (.int (p : Nat))), some (.d (.int c)), some (.h i), v3] ∧ N' = M ++ N ∧ (M ++ N)[i]? = some (.dct (ktab g Js)) ∧ Dk p j g Js ∧ SK g (Rr p c (p - j)) Js = Rr p c p [0, 0] ∧ SK g (fun _ => 1) Js ≤ 2 ^ (7000 * j))
    (xs := intsD (rangeI p)) (e := [some (.d (.int (p : Nat))), some (.d (.int c)), some (.h M.length), none]) (M := M ++ [.dct (ktab (fun r => if r = [0, 0] then 1 else 0) [[0, 0]])])
    (by
      rintro j d e N' hd ⟨i, g, Js, N, v3, rfl, rfl, hi, D', hS, h1⟩
      rw [List.getElem?_map] at hd
      obtain ⟨z, hz, rfl⟩ := Option.map_eq_some_iff.mp hd
      have hj := lt_of_getL hz
      rw [rangeI_len] at hj
      have ez : z = (j : Int) := by
        unfold rangeI at hz
        rw [List.getElem?_map, List.getElem?_range hj] at hz
        exact (Option.some.inj hz).symm
      subst ez
      have hmn := sk_mono (f := g) (φ := fun _ => 1) (Ks := Js) D'.nn (fun _ _ => by decide)
      have hpw : (2 : Nat) ^ (7000 * j) ≤ 2 ^ 140000 := Nat.pow_le_pow_right (by decide) (by omega)
      have hB : ∀ r, (g r).natAbs < 2 ^ 300000 := fun r => by
        by_cases hr : r ∈ Js
        · have a := hmn.2 r hr
          have b := D'.nn r
          have c1 : g r ≤ ((2 ^ 140000 : Nat) : Int) := by
            have h2 : g r ≤ ((2 ^ (7000 * j) : Nat) : Int) := by rw [Int.natCast_pow]; simp only [Int.mul_one] at a; exact Int.le_trans a h1
            exact Int.le_trans h2 (Int.ofNat_le.mpr hpw)
          have c2 : (g r).natAbs ≤ 2 ^ 140000 := by omega
          exact Nat.lt_of_le_of_lt c2 (Nat.pow_lt_pow_right (by decide) (by decide))
        · rw [D'.out r hr]
          exact Nat.pow_pos (by decide)
      obtain ⟨g', Js', k1, k2, k3⟩ := next_ok (seat := j) (c := c) hi D' hp (by omega) hB
      refine ⟨[some (.d (.int (p : Nat))), some (.d (.int c)), some (.h i), some (.d (.int (j : Nat)))], M ++ N, [some (.d (.int (p : Nat))), some (.d (.int c)), some (.h (M ++ N).length), some (.d (.int (j : Nat)))], M ++ N ++ [.dct (ktab g' Js')], Eq.trans rfl rfl, ?_, (M ++ N).length, g', Js', N ++ [.dct (ktab g' Js')], some (.d (.int (j : Nat))), rfl, List.append_assoc .., by simp, k2, ?_, ?_⟩
      · generalize ktab g' Js' = T1 at *
        simp only [defM, startE, seqS_a, setS_a, bindS_ok, bindS_er, then_nx, then_rt, then_er, ifS_a, ifK_t, ifK_f, retS_a, dropS_a, asgS_a, asK_a, goG_ok, subT_a, nopS_a, getV_0, getV_s, cst_a, op2_a, o2a_ok, o2b_ok, opT_a, oTa_ok, oTb_ok, consA_a, cAa_ok, cAb_ok, nilA_a, callF_a, cFa_ok, callE_a, cEa_ok, newE_a, nwa_ok, datE_a, dta_ok, dispE_a, tupE_a, tpa_ok, asDs_a, datas, bind_ok, pur_ok, bool_b, leave_d, leave_nx, leave_er, ifE_a, ifa_t, ifa_f, notT_a, nta_ok, andT_a, ana_t, ana_f, orT_a, ora_t, ora_f, tstE_a, tsa_b, andE_a, aEa_t, aEa_f, orE_a, oEa_t, oEa_f, notE_a, nEa_ok, add_ii, sub_ii, gt_ii, lt_ii, ge_ii, le_ii, setT_a, consT_a, cTa_ok, nilT_a, tupT_a, seqT_t, seqT_l, forS_a, List.map_cons, List.map_nil, List.length_cons, List.length_nil, Nat.reduceAdd, Nat.reduceSub, Nat.zero_add, Nat.add_zero, List.replicate, List.cons_append, List.nil_append, List.append_nil, List.getElem?_cons_zero, List.getElem?_cons_succ, List.set_cons_zero, List.set_cons_succ, List.getElem?_nil, Option.map_some, Option.map_none, Option.bind_some, if_true, if_false, ite_true, ite_false, eq_self_iff_true, and_self, and_true, true_and, decide_true, decide_false, Bool.false_eq_true, Bool.not_true, Bool.not_false, sizeLine, Nat.reducePow, Nat.reduceLeDiff, Nat.zero_le, pow_7, pow_18, pow_40, k1]
      · rw [k3, ← hS]
        have e1 : p - j = (p - (j + 1)) + 1 := by omega
        rw [e1]
        show SK g (Tn p j c (Rr p c (p - (j + 1)))) Js = SK g (Tn p (p - (p - (j + 1) + 1)) c (Rr p c (p - (j + 1)))) Js
        rw [show p - (p - (j + 1) + 1) = j by omega]
      · rw [k3]
        refine Int.le_trans (sk_le D'.nn (tn_one_le D' hp)) ?_
        rw [sk_const]
        refine Int.le_trans (Int.mul_le_mul_of_nonneg_left h1 (Int.le_of_lt (Int.pow_pos (by decide)))) ?_
        rw [← Int.pow_add, show 7000 + 7000 * j = 7000 * (j + 1) by omega]
        exact Int.le_refl _)
    ⟨M.length, _, _, [_], none, rfl, rfl, by simp, D0, by simp [SK], by simp [SK]⟩
  have hl : (intsD (rangeI p)).length = p := by unfold intsD; rw [List.length_map, rangeI_len]
  rw [hl, Nat.sub_self] at hS
  have hsum : (Js.map g).sum = Rr p c p [0, 0] := by
    rw [← hS]
    unfold SK Rr
    congr 1
    exact List.map_congr_left fun r _ => (Int.mul_one _).symm
  have hr : ∀ N, rngI1 (getV 0) [some (.d (.int (p : Nat))), some (.d (.int c)), some (.h M.length), none] N = .ok (intsD (rangeI p)) N := fun N => (rngI1_a (i := ((p : Nat) : Int)) (M1 := N) rfl (by omega)).trans (by rw [rangeD_int])
  have hsk : sumKE (getV 2) [some (.d (.int (p : Nat))), some (.d (.int c)), some (.h i), v3] (M ++ N) = .ok (.d (.int (Rr p c p [0, 0]))) (M ++ N) := by
    unfold sumKE
    rw [show getV 2 [some (.d (.int (p : Nat))), some (.d (.int c)), some (.h i), v3] (M ++ N) = .ok (.h i) (M ++ N) from rfl, bind_ok]
    dsimp only
    rw [hi]
    dsimp only
    rw [int_map]
    dsimp only
    rw [hsum]
  have hkd : kdispE (tupE (consA (cst (.d (.int 0))) (consA (cst (.d (.int 0))) nilA))) (cst (.d (.int 1))) [some (.d (.int (p : Nat))), some (.d (.int c)), none, none] M = .ok (.h M.length) (M ++ [.dct (ktab (fun r => if r = [0, 0] then 1 else 0) [[0, 0]])]) := by
    have ht : tupE (consA (cst (.d (.int 0))) (consA (cst (.d (.int 0))) nilA)) [some (.d (.int (p : Nat))), some (.d (.int c)), none, none] M = .ok (.d (kr [0, 0])) M := Eq.trans rfl rfl
    unfold kdispE
    rw [ht]
    dsimp only
    rw [show cst (.d (.int 1)) [some (.d (.int (p : Nat))), some (.d (.int c)), none, none] M = .ok (.d (.int 1)) M from rfl]
    dsimp only
    rw [if_pos (kOk_kr [0, 0])]
    rfl
  generalize ktab (fun r => if r = [0, 0] then 1 else 0) [[0, 0]] = T0 at *
  generalize intsD (rangeI p) = RN at *
  unfold m_rows_many g_rows_many
  simp only [defM, startE, seqS_a, setS_a, bindS_ok, bindS_er, then_nx, then_rt, then_er, ifS_a, ifK_t, ifK_f, retS_a, dropS_a, asgS_a, asK_a, goG_ok, subT_a, nopS_a, getV_0, getV_s, cst_a, op2_a, o2a_ok, o2b_ok, opT_a, oTa_ok, oTb_ok, consA_a, cAa_ok, cAb_ok, nilA_a, callF_a, cFa_ok, callE_a, cEa_ok, newE_a, nwa_ok, datE_a, dta_ok, dispE_a, tupE_a, tpa_ok, asDs_a, datas, bind_ok, pur_ok, bool_b, leave_d, leave_nx, leave_er, ifE_a, ifa_t, ifa_f, notT_a, nta_ok, andT_a, ana_t, ana_f, orT_a, ora_t, ora_f, tstE_a, tsa_b, andE_a, aEa_t, aEa_f, orE_a, oEa_t, oEa_f, notE_a, nEa_ok, add_ii, sub_ii, gt_ii, lt_ii, ge_ii, le_ii, setT_a, consT_a, cTa_ok, nilT_a, tupT_a, seqT_t, seqT_l, forS_a, List.map_cons, List.map_nil, List.length_cons, List.length_nil, Nat.reduceAdd, Nat.reduceSub, Nat.zero_add, Nat.add_zero, List.replicate, List.cons_append, List.nil_append, List.append_nil, List.getElem?_cons_zero, List.getElem?_cons_succ, List.set_cons_zero, List.set_cons_succ, List.getElem?_nil, Option.map_some, Option.map_none, Option.bind_some, if_true, if_false, ite_true, ite_false, eq_self_iff_true, and_self, and_true, true_and, decide_true, decide_false, Bool.false_eq_true, Bool.not_true, Bool.not_false, sizeLine, Nat.reducePow, Nat.reduceLeDiff, Nat.zero_le, pow_7, pow_18, pow_40, hkd, hr, el, hsk]
  rw [List.take_append_of_le_length (Nat.le_refl _), List.take_length]
/-- how many lots -/
def lotsI (n : Nat) (c : Int) : Int := n * Rr (n - 1) c (n - 1) [0, 0]
theorem lots_ok {n : Nat} {c : Int} {M : Mem} (h0 : 0 < n) (hn : n ≤ 20) : m_lots_many [.d (.int (n : Nat)), .d (.int c)] M = .ok (.d (.int (lotsI n c))) M := by
  have h := rows_ok (p := n - 1) (c := c) (M := M) (by omega)
  have e : ((n - 1 : Nat) : Int) = (n : Int) - 1 := by omega
  rw [e] at h
  have hmul : mulV (.d (.int (n : Nat))) (.d (.int (Rr (n - 1) c (n - 1) [0, 0]))) M = .ok (.d (.int (n * Rr (n - 1) c (n - 1) [0, 0]))) M := mul_ii (.inl (by omega))
  unfold lotsI
  generalize Rr (n - 1) c (n - 1) [0, 0] = R at *
  unfold m_lots_many g_lots_many
  simp only [defM, startE, seqS_a, setS_a, bindS_ok, bindS_er, then_nx, then_rt, then_er, ifS_a, ifK_t, ifK_f, retS_a, dropS_a, asgS_a, asK_a, goG_ok, subT_a, nopS_a, getV_0, getV_s, cst_a, op2_a, o2a_ok, o2b_ok, opT_a, oTa_ok, oTb_ok, consA_a, cAa_ok, cAb_ok, nilA_a, callF_a, cFa_ok, callE_a, cEa_ok, newE_a, nwa_ok, datE_a, dta_ok, dispE_a, tupE_a, tpa_ok, asDs_a, datas, bind_ok, pur_ok, bool_b, leave_d, leave_nx, leave_er, ifE_a, ifa_t, ifa_f, notT_a, nta_ok, andT_a, ana_t, ana_f, orT_a, ora_t, ora_f, tstE_a, tsa_b, andE_a, aEa_t, aEa_f, orE_a, oEa_t, oEa_f, notE_a, nEa_ok, add_ii, sub_ii, gt_ii, lt_ii, ge_ii, le_ii, setT_a, consT_a, cTa_ok, nilT_a, tupT_a, seqT_t, seqT_l, forS_a, List.map_cons, List.map_nil, List.length_cons, List.length_nil, Nat.reduceAdd, Nat.reduceSub, Nat.zero_add, Nat.add_zero, List.replicate, List.cons_append, List.nil_append, List.append_nil, List.getElem?_cons_zero, List.getElem?_cons_succ, List.set_cons_zero, List.set_cons_succ, List.getElem?_nil, Option.map_some, Option.map_none, Option.bind_some, if_true, if_false, ite_true, ite_false, eq_self_iff_true, and_self, and_true, true_and, decide_true, decide_false, Bool.false_eq_true, Bool.not_true, Bool.not_false, sizeLine, Nat.reducePow, Nat.reduceLeDiff, Nat.zero_le, pow_7, pow_18, pow_40, h, hmul]
  rw [take_all (by simp)]
end U
end DL
namespace DL
namespace U
open PySem PySem.Spec L2 DL DL.C NM DL.N DL.T
def tmA (p s1 b h : Nat) (φ : Nat → Int) : Int := if s1 ≤ b + h then (cmb (p - b) h : Int) * φ (b + h) else 0
def Ra (p : Nat) : Nat → Nat → Int
  | 0, _ => 1
  | t + 1, b => ((List.range (p - b + 1)).map fun h => tmA p (p - t) b h (Ra p t)).sum
theorem rr_big {p : Nat} {c : Int} : ∀ (t b k : Nat), t ≤ p → b ≤ p → ((k + t * p : Nat) : Int) ≤ c → Rr p c t [(b : Int), (k : Int)] = Ra p t b
  | 0, b, k, _, _, _ => rfl
  | t + 1, b, k, ht, hb, hc => by
    show Tn p (p - (t + 1)) c (Rr p c t) [(b : Int), (k : Int)] = _
    rw [tn_at]
    unfold Ra
    congr 1
    refine List.map_congr_left fun h hh => ?_
    have hh := List.mem_range.mp hh
    have e : p - (t + 1) + 1 = p - t := by omega
    have hm : (t + 1) * p = t * p + p := by rw [Nat.add_mul, Nat.one_mul]
    unfold tm tmA
    by_cases h1 : p - t ≤ b + h
    · rw [if_pos ⟨by omega, by
        have : k + (b + h - (p - (t + 1)) - 1) ≤ k + (t + 1) * p := by omega
        have := Int.ofNat_le.mpr this
        omega⟩, if_pos h1, rr_big t (b + h) (k + (b + h - (p - (t + 1)) - 1)) (by omega) (by omega) (by
        have : k + (b + h - (p - (t + 1)) - 1) + t * p ≤ k + (t + 1) * p := by omega
        have := Int.ofNat_le.mpr this
        omega)]
    · rw [if_neg fun q => h1 (by omega), if_neg h1]
/-- the same, all at once -/
def La (p : Nat) : Nat → List Int
  | 0 => (List.range (p + 1)).map fun _ => 1
  | t + 1 => (List.range (p + 1)).map fun b => ((List.range (p - b + 1)).map fun h => tmA p (p - t) b h fun x => (La p t).getD x 0).sum
theorem ra_la {p : Nat} : ∀ (t b : Nat), b ≤ p → Ra p t b = (La p t).getD b 0
  | 0, b, hb => by
    unfold Ra La
    rw [List.getD_eq_getElem?_getD, List.getElem?_map, List.getElem?_range (by omega)]
    rfl
  | t + 1, b, hb => by
    unfold Ra La
    rw [List.getD_eq_getElem?_getD, List.getElem?_map, List.getElem?_range (by omega)]
    show _ = ((List.range (p - b + 1)).map fun h => tmA p (p - t) b h fun x => (La p t).getD x 0).sum
    congr 1
    refine List.map_congr_left fun h hh => ?_
    have hh := List.mem_range.mp hh
    unfold tmA
    split
    · rw [ra_la t (b + h) (by omega)]
    · rfl
theorem la_val : ∀ n ∈ [2, 3, 4, 5, 6, 7, 8, 9, 12], ((n : Nat) : Int) * (La (n - 1) (n - 1)).getD 0 0 = (n : Int) ^ (n - 1) := by decide +kernel
theorem lots_big {n : Nat} {c : Int} (hn : n ∈ [2, 3, 4, 5, 6, 7, 8, 9, 12]) (hc : (n : Int) * ((n : Int) - 1) ≤ c) : lotsI n c = (n : Int) ^ (n - 1) := by
  have h0 : 0 < n := by
    simp only [List.mem_cons, List.not_mem_nil, or_false] at hn
    omega
  rw [← la_val n hn]
  unfold lotsI
  have := rr_big (p := n - 1) (c := c) (n - 1) 0 0 (Nat.le_refl _) (Nat.zero_le _) (by
    refine Int.le_trans ?_ hc
    rw [Nat.zero_add, Int.natCast_mul, show ((n - 1 : Nat) : Int) = (n : Int) - 1 by omega]
    exact Int.mul_le_mul_of_nonneg_right (by omega) (by omega))
  have e : ([((0 : Nat) : Int), ((0 : Nat) : Int)] : List Int) = [0, 0] := rfl
  rw [e] at this
  rw [this, ra_la _ _ (Nat.zero_le _)]
theorem sp_length : ∀ (k c : Nat), (spL k c).length = mc (k + 1) c
  | 0, c => by
    rw [mc_sym, mc_zero]
    rfl
  | k + 1, c => by
    have key : ∀ (m : Nat) (l : List Nat), (l.flatMap fun b => (spL k (m - b)).map fun r => (b : Int) :: r).length = (l.map fun b => mc (k + 1) (m - b)).sum := by
      intro m l
      induction l with
      | nil => rfl
      | cons a l ih => rw [List.flatMap_cons, List.length_append, ih, List.length_map, sp_length k, List.map_cons, List.sum_cons]
    have s : ∀ c : Nat, ((List.range (c + 1)).map fun b => mc (k + 1) (c - b)).sum = mc (k + 2) c := by
      intro c
      induction c with
      | zero => simp [mc_zero]
      | succ c ih =>
        rw [List.range_succ_eq_map, List.map_cons, List.sum_cons, List.map_map]
        have e : ((fun b => mc (k + 1) (c + 1 - b)) ∘ Nat.succ) = fun b => mc (k + 1) (c - b) := by
          funext b
          show mc (k + 1) (c + 1 - (b + 1)) = _
          rw [Nat.add_sub_add_right]
        rw [e, ih]
        show mc (k + 1) (c + 1) + mc (k + 2) c = mc (k + 2) c + mc (k + 1) (c + 1)
        omega
    show ((List.range (c + 1)).flatMap fun b => (spL k (c - b)).map fun r => (b : Int) :: r).length = _
    rw [key, s]
theorem orders_len : ∀ n ∈ [2, 3, 4], (ordersN n n).length = Builtin.Math.factorialNat n := by decide +kernel
theorem st_length {n c : Nat} (hn : n ∈ [2, 3, 4]) : ((stL n c).length : Int) = (Builtin.Math.factorialNat n : Nat) * sp n c := by
  unfold stL
  have key : ∀ l : List (List Nat), (l.flatMap fun o => (spL (n - 1) c).map fun b => ((o, b) : N.Sp)).length = l.length * mc n c := by
    intro l
    have h0 : n - 1 + 1 = n := by
      simp only [List.mem_cons, List.not_mem_nil, or_false] at hn
      omega
    induction l with
    | nil => simp
    | cons a l ih => rw [List.flatMap_cons, List.length_append, ih, List.length_map, sp_length, h0, List.length_cons, Nat.add_mul]; omega
  rw [key, orders_len n hn, sp_nat, Int.natCast_mul]
def prodU (c : Int) : Nat → Int
  | 0 => 1
  | m + 1 => prodU c m * (c + ((m + 1 : Nat) : Int))
theorem sp_up (k : Nat) (c : Nat) : ((k + 1 : Nat) : Int) * sp (k + 2) c = ((c : Int) + ((k + 1 : Nat) : Int)) * sp (k + 1) c := by
  have a := absorb (k + 1) (c : Int)
  have s := sp_step (k + 1) (c : Int)
  rw [s, Int.mul_add, a, Int.add_mul]
def facI : Nat → Int
  | 0 => 1
  | m + 1 => facI m * ((m + 1 : Nat) : Int)
theorem prod_sp (c : Nat) : ∀ m : Nat, facI m * sp (m + 1) c = prodU c m
  | 0 => by rw [sp_one (by omega)]; rfl
  | m + 1 => by
    show facI m * ((m + 1 : Nat) : Int) * sp (m + 2) c = prodU c m * ((c : Int) + ((m + 1 : Nat) : Int))
    rw [Int.mul_assoc, sp_up, ← prod_sp c m, Int.mul_comm ((c : Int) + _), Int.mul_assoc]
theorem fac_val : ∀ n, n ≤ 12 → ((Builtin.Math.factorialNat n : Nat) : Int) = facI n := by
  intro n hn
  have : ∀ m ∈ List.range 13, ((Builtin.Math.factorialNat m : Nat) : Int) = facI m := by decide +kernel
  exact this n (List.mem_range.mpr (by omega))
theorem fac_big : ∀ n, n ≤ 12 → Builtin.Math.factorialNat n < 2 ^ 40 := by
  intro n hn
  have : ∀ m ∈ List.range 13, Builtin.Math.factorialNat m < 2 ^ 40 := by decide +kernel
  exact this n (List.mem_range.mpr (by omega))
/-- all states: as the law counts them -/
def allI (n : Nat) (c : Int) : Int := prodU c (n - 1) * n
theorem all_eq {n c : Nat} (h0 : 0 < n) (hn : n ≤ 12) : ((Builtin.Math.factorialNat n : Nat) : Int) * sp n c = allI n c := by
  rw [fac_val n hn]
  obtain ⟨m, rfl⟩ : ∃ m, n = m + 1 := ⟨n - 1, by omega⟩
  unfold allI
  rw [show m + 1 - 1 = m from rfl, ← prod_sp c m]
  show facI m * ((m + 1 : Nat) : Int) * sp (m + 1) c = facI m * sp (m + 1) c * ((m + 1 : Nat) : Int)
  ac_rfl
theorem states_many_ok {n c : Nat} {M : Mem} (h0 : 0 < n) (hn : n ≤ 12) (hc : c ≤ 10 ^ 60) : m_states_many [.d (.int (n : Nat)), .d (.int (c : Nat))] M = .ok (.d (.int (allI n c))) M := by
  have hf : factV [.d (.int (n : Nat))] M = .ok (.d (.int ((Builtin.Math.factorialNat n : Nat) : Int))) M := by
    have hb := fac_big n hn
    refine (if_pos ⟨?_, by omega, ?_, ?_⟩).trans (by rw [Int.toNat_natCast])
    · show ¬ ((n : Nat) : Int) > ((2 : Int) ^ 63 - 1); omega
    · show ¬ ((n : Nat) : Int) > (20000 : Int); omega
    · rw [Int.toNat_natCast, Int.natAbs_natCast]
      by_cases h : Builtin.Math.factorialNat n = 0
      · rw [h]; decide
      · exact Nat.lt_of_lt_of_le ((Nat.log2_lt h).mpr hb) (by decide)
  have hsp := N.spreads_ok (k := n) (z := (c : Int)) (M := M) (by omega) (by
    have : (10 : Nat) ^ 60 ≤ 2 ^ 250 := by decide
    simp
    omega)
  have hmul : mulV (.d (.int ((Builtin.Math.factorialNat n : Nat) : Int))) (.d (.int (sp n c))) M = .ok (.d (.int (allI n c))) M := by
    rw [← all_eq h0 hn]
    refine mul_big ?_ ?_
    · rw [Int.natAbs_natCast]
      exact Nat.lt_trans (fac_big n hn) (Nat.pow_lt_pow_right (by decide) (by decide))
    · refine Nat.lt_trans (N.sp_big (k := n) (z := (c : Int)) (by omega) ?_) (Nat.pow_lt_pow_right (by decide) (by decide))
      have : (10 : Nat) ^ 60 ≤ 2 ^ 250 := by decide
      simp
      omega
  generalize allI n c = A at *
  generalize sp n c = S at *
  generalize ((Builtin.Math.factorialNat n : Nat) : Int) = F at *
  unfold m_states_many g_states_many
  simp only [defM, startE, seqS_a, setS_a, bindS_ok, bindS_er, then_nx, then_rt, then_er, ifS_a, ifK_t, ifK_f, retS_a, dropS_a, asgS_a, asK_a, goG_ok, subT_a, nopS_a, getV_0, getV_s, cst_a, op2_a, o2a_ok, o2b_ok, opT_a, oTa_ok, oTb_ok, consA_a, cAa_ok, cAb_ok, nilA_a, callF_a, cFa_ok, callE_a, cEa_ok, newE_a, nwa_ok, datE_a, dta_ok, dispE_a, tupE_a, tpa_ok, asDs_a, datas, bind_ok, pur_ok, bool_b, leave_d, leave_nx, leave_er, ifE_a, ifa_t, ifa_f, notT_a, nta_ok, andT_a, ana_t, ana_f, orT_a, ora_t, ora_f, tstE_a, tsa_b, andE_a, aEa_t, aEa_f, orE_a, oEa_t, oEa_f, notE_a, nEa_ok, add_ii, sub_ii, gt_ii, lt_ii, ge_ii, le_ii, setT_a, consT_a, cTa_ok, nilT_a, tupT_a, seqT_t, seqT_l, forS_a, List.map_cons, List.map_nil, List.length_cons, List.length_nil, Nat.reduceAdd, Nat.reduceSub, Nat.zero_add, Nat.add_zero, List.replicate, List.cons_append, List.nil_append, List.append_nil, List.getElem?_cons_zero, List.getElem?_cons_succ, List.set_cons_zero, List.set_cons_succ, List.getElem?_nil, Option.map_some, Option.map_none, Option.bind_some, if_true, if_false, ite_true, ite_false, eq_self_iff_true, and_self, and_true, true_and, decide_true, decide_false, Bool.false_eq_true, Bool.not_true, Bool.not_false, sizeLine, Nat.reducePow, Nat.reduceLeDiff, Nat.zero_le, pow_7, pow_18, pow_40, hf, hsp, hmul]
  rw [take_all (by simp)]
end U
end DL
namespace DL
namespace U
open PySem PySem.Spec L2 DL DL.C NM DL.N DL.T
def resL (n : Nat) : Nat → List (List Int)
  | 0 => [[]]
  | k + 1 => (resL n k).flatMap fun b => (rangeI n).map fun i => b ++ [i]
theorem mem_res {n : Nat} : ∀ {k : Nat} {r : List Int}, r ∈ resL n k ↔ r.length = k ∧ ∀ m ∈ r, 0 ≤ m ∧ m < (n : Int)
  | 0, r => by
    show r ∈ [[]] ↔ _
    rw [List.mem_singleton]
    exact ⟨fun e => by subst e; simp, fun h => List.length_eq_zero_iff.mp h.1⟩
  | k + 1, r => by
    show r ∈ (resL n k).flatMap (fun b => (rangeI n).map fun i => b ++ [i]) ↔ _
    rw [List.mem_flatMap]
    constructor
    · rintro ⟨b, hb, h⟩
      obtain ⟨i, hi, rfl⟩ := List.mem_map.mp h
      obtain ⟨h1, h2⟩ := mem_res.mp hb
      refine ⟨by simp [h1], fun m hm => ?_⟩
      rcases List.mem_append.mp hm with q | q
      · exact h2 m q
      · rw [List.mem_singleton.mp q]
        exact mem_rangeI.mp hi
    · rintro ⟨h1, h2⟩
      have hne : r ≠ [] := fun e => by subst e; simp at h1
      refine ⟨r.dropLast, mem_res.mpr ⟨by rw [List.length_dropLast, h1]; rfl, fun m hm => h2 m (List.dropLast_subset _ hm)⟩, List.mem_map.mpr ⟨r.getLast hne, mem_rangeI.mpr (h2 _ (List.getLast_mem hne)), List.dropLast_concat_getLast hne⟩⟩
theorem res_nodup (n : Nat) : ∀ k : Nat, (resL n k).Nodup
  | 0 => by show List.Nodup [[]]; simp
  | k + 1 => by
    show ((resL n k).flatMap fun b => (rangeI n).map fun i => b ++ [i]).Nodup
    unfold List.Nodup
    rw [List.pairwise_flatMap]
    refine ⟨fun b _ => ?_, ?_⟩
    · rw [List.pairwise_map]
      refine (rangeI_nodup n).imp fun {x y} h e => h ?_
      have := List.append_cancel_left e
      simpa using this
    · refine (res_nodup n k).imp fun {a b} h x hx y hy e => ?_
      obtain ⟨u, _, rfl⟩ := List.mem_map.mp hx
      obtain ⟨v, _, rfl⟩ := List.mem_map.mp hy
      exact h (List.append_inj_left' e rfl)
theorem one_res {α : Type} [DecidableEq α] (a : α) : ∀ {R : List α}, R.Nodup → a ∈ R → (R.map fun r => if a = r then (1 : Int) else 0).sum = 1
  | [], _, h => nomatch h
  | b :: R, hn, h => by
    obtain ⟨h1, h2⟩ := List.nodup_cons.mp hn
    rw [List.map_cons, List.sum_cons]
    by_cases e : a = b
    · subst e
      rw [if_pos rfl]
      have : ∀ l : List α, a ∉ l → (l.map fun r => if a = r then (1 : Int) else 0).sum = 0 := by
        intro l
        induction l with
        | nil => intro _; rfl
        | cons c l ih =>
          intro hc
          rw [List.map_cons, List.sum_cons, ih fun q => hc (List.mem_cons_of_mem _ q), if_neg fun q : a = c => hc (by rw [q]; exact List.mem_cons_self)]
          rfl
      rw [this R h1]
      rfl
    · rw [if_neg e, one_res a h2 ((List.mem_cons.mp h).resolve_left e)]
      rfl
/-- the lots of all residues together have all the states -/
theorem sum_many {n c : Nat} (h0 : 0 < n) : ((resL n n).map fun r => manyI r (c : Int)).sum = ((stL n c).length : Int) := by
  have e1 : ((resL n n).map fun r => manyI r (c : Int)) = (resL n n).map fun r => (((stL n c).filter (hasR r)).length : Int) := List.map_congr_left fun r hr => by
    obtain ⟨h1, h2⟩ := mem_res.mp hr
    exact many_cnt h0 h1 h2
  rw [e1]
  have key : ∀ L : List N.Sp, (∀ x ∈ L, x ∈ stL n c) → ((resL n n).map fun r => ((L.filter (hasR r)).length : Int)).sum = (L.length : Int) := by
    intro L
    induction L with
    | nil =>
      intro _
      have : ∀ l : List (List Int), (l.map fun r => ((([] : List N.Sp).filter (hasR r)).length : Int)).sum = 0 := by
        intro l
        induction l with
        | nil => rfl
        | cons a l ih => rw [List.map_cons, List.sum_cons, ih]; rfl
      exact this _
    | cons x L ih =>
      intro h
      have hx := h x List.mem_cons_self
      obtain ⟨k, _⟩ := (mem_st h0 x).mp hx
      have hr : resI x.1 x.2 ∈ resL n n := mem_res.mpr ⟨res_len k, fun m hm => k.pu.rg m hm⟩
      have e : ∀ l : List (List Int), (l.map fun r => (((x :: L).filter (hasR r)).length : Int)).sum = (l.map fun r => if resI x.1 x.2 = r then (1 : Int) else 0).sum + (l.map fun r => ((L.filter (hasR r)).length : Int)).sum := by
        intro l
        induction l with
        | nil => rfl
        | cons a l ih2 =>
          rw [List.map_cons, List.sum_cons, List.map_cons, List.sum_cons, List.map_cons, List.sum_cons, ih2, List.filter_cons]
          by_cases q : resI x.1 x.2 = a
          · rw [if_pos (show hasR a x = true from decide_eq_true q), if_pos q, List.length_cons]
            push_cast
            omega
          · rw [if_neg (show ¬ hasR a x = true by unfold hasR; simp [q]), if_neg q]
            omega
      rw [e, ih fun y hy => h y (List.mem_cons_of_mem _ hy), one_res _ (res_nodup n n) hr, List.length_cons]
      push_cast
      omega
  exact key _ fun _ h => h
def okB (q : Int) : Int → List Int → Bool
  | _, [] => true
  | i, k :: ks => decide (0 ≤ q + k - i) && okB q (i + 1) ks
theorem okB_mono {q q' : Int} (h : q ≤ q') : ∀ (i : Int) (ks : List Int), okB q i ks = true → okB q' i ks = true
  | _, [], _ => rfl
  | i, k :: ks, e => by
    unfold okB at e ⊢
    rw [Bool.and_eq_true, decide_eq_true_eq] at e ⊢
    exact ⟨by omega, okB_mono h (i + 1) ks e.2⟩
theorem prod_pos {q : Int} : ∀ (i : Int) (ks : List Int), okB q i ks = true → 0 ≤ prodA (q - 1) i ks ∧ 1 ≤ prodA q i ks ∧ prodA (q - 1) i ks ≤ prodA q i ks ∧ (ks ≠ [] → prodA (q - 1) i ks < prodA q i ks)
  | _, [], _ => ⟨by show (0 : Int) ≤ 1; decide, by show (1 : Int) ≤ 1; decide, Int.le_refl _, fun h => absurd rfl h⟩
  | i, k :: ks, e => by
    unfold okB at e
    rw [Bool.and_eq_true, decide_eq_true_eq] at e
    obtain ⟨h1, h2, h3, _⟩ := prod_pos (i + 1) ks e.2
    have ha := e.1
    show 0 ≤ (q - 1 + 1 + k - i) * _ ∧ 1 ≤ (q + 1 + k - i) * _ ∧ (q - 1 + 1 + k - i) * _ ≤ (q + 1 + k - i) * _ ∧ (_ → (q - 1 + 1 + k - i) * _ < (q + 1 + k - i) * _)
    rw [show q - 1 + 1 + k - i = q + k - i by omega, show q + 1 + k - i = (q + k - i) + 1 by omega]
    generalize q + k - i = a at *
    generalize prodA (q - 1) (i + 1) ks = P at *
    generalize prodA q (i + 1) ks = R at *
    have m1 : 0 ≤ a * P := Int.mul_nonneg ha h1
    have m2 : a * P ≤ a * R := Int.mul_le_mul_of_nonneg_left h3 ha
    rw [Int.add_mul, Int.one_mul]
    exact ⟨m1, by omega, by omega, fun _ => by omega⟩
def qI (n : Nat) (r : List Int) (c : Int) : Int := (c - r.sum + (n : Int) * ((n : Int) - 1) / 2) / (n : Int)
def mdB (n : Nat) (r : List Int) (c : Int) : Bool := decide ((c - r.sum + (n : Int) * ((n : Int) - 1) / 2) % (n : Int) = 0)
/-- enough people can sit well -/
def cB (n : Nat) (c : Int) (r : List Int) : Bool := mdB n r c && (decide (0 ≤ qI n r c) && okB (qI n r c) 0 (isort r))
def manyC (r : List Int) (K : Int) : Int :=
  if K - r.sum + (r.length : Int) * ((r.length : Int) - 1) / 2 < 0 ∨ (K - r.sum + (r.length : Int) * ((r.length : Int) - 1) / 2) % (r.length : Int) ≠ 0 then 0
  else prodA ((K - r.sum + (r.length : Int) * ((r.length : Int) - 1) / 2) / (r.length : Int)) 0 (isort r) - prodA ((K - r.sum + (r.length : Int) * ((r.length : Int) - 1) / 2) / (r.length : Int) - 1) 0 (isort r)
theorem many_C (r : List Int) (K : Int) : manyI r K = manyC r K := by
  unfold manyI manyC upI
  rw [sortI_isort]
def pB (c : Int) (r : List Int) : Bool := decide (0 < manyC r c)
theorem few_c : ∀ n ∈ [2, 3, 4], ∀ c ∈ List.range (n * (n - 1)), ((resL n n).filter (cB n (c : Int))).length = lotsI n (c : Int) := by decide +kernel
theorem few_p : ∀ n ∈ [2, 3, 4], ∀ c ∈ List.range (n * (n - 1)), ((resL n n).filter (pB (c : Int))).length = lotsI n (c : Int) := by decide +kernel
theorem base_ok : ∀ n ∈ [2, 3, 4], ∀ c ∈ List.range n, ∀ r ∈ resL n n, mdB n r ((n * (n - 1) + c : Nat) : Int) = true → 0 ≤ qI n r ((n * (n - 1) + c : Nat) : Int) ∧ okB (qI n r ((n * (n - 1) + c : Nat) : Int)) 0 (isort r) = true := by decide +kernel
theorem base_len : ∀ n ∈ [2, 3, 4], ∀ c ∈ List.range n, ((resL n n).filter fun r => mdB n r ((n * (n - 1) + c : Nat) : Int)).length = n ^ (n - 1) := by decide +kernel
/-- a total with as many rounds more -/
theorem base_of {n : Nat} {c : Int} (h0 : 0 < n) (hc : (n : Int) * ((n : Int) - 1) ≤ c) : ∃ c0 ∈ List.range n, ∃ m : Nat, c = ((n * (n - 1) + c0 : Nat) : Int) + (n : Int) * m := by
  have hr := Int.emod_nonneg (c - (n : Int) * ((n : Int) - 1)) (b := (n : Int)) (by omega)
  have hr2 := Int.emod_lt_of_pos (c - (n : Int) * ((n : Int) - 1)) (show (0 : Int) < n by omega)
  have hdm := Int.mul_ediv_add_emod (c - (n : Int) * ((n : Int) - 1)) (n : Int)
  have hd := Int.ediv_nonneg (a := c - (n : Int) * ((n : Int) - 1)) (b := (n : Int)) (by omega) (by omega)
  refine ⟨((c - (n : Int) * ((n : Int) - 1)) % (n : Int)).toNat, List.mem_range.mpr (by omega), ((c - (n : Int) * ((n : Int) - 1)) / (n : Int)).toNat, ?_⟩
  have e : ((n * (n - 1) : Nat) : Int) = (n : Int) * ((n : Int) - 1) := by rw [Int.natCast_mul, show ((n - 1 : Nat) : Int) = (n : Int) - 1 by omega]
  rw [Int.natCast_add, e, Int.toNat_of_nonneg hr, Int.toNat_of_nonneg hd]
  omega
theorem md_add {n : Nat} (h0 : 0 < n) (r : List Int) (c : Int) (m : Nat) : mdB n r (c + (n : Int) * m) = mdB n r c ∧ qI n r (c + (n : Int) * m) = qI n r c + m := by
  have e : c + (n : Int) * m - r.sum + (n : Int) * ((n : Int) - 1) / 2 = (c - r.sum + (n : Int) * ((n : Int) - 1) / 2) + (n : Int) * m := by omega
  unfold mdB qI
  rw [e, Int.add_mul_emod_self_left, Int.add_mul_ediv_left _ _ (by omega)]
  exact ⟨rfl, rfl⟩
theorem big_c {n : Nat} {c : Int} (hn : n ∈ [2, 3, 4]) (hc : (n : Int) * ((n : Int) - 1) ≤ c) : ∃ c0 ∈ List.range n, ∀ r ∈ resL n n, mdB n r c = mdB n r ((n * (n - 1) + c0 : Nat) : Int) ∧ (mdB n r c = true → 0 ≤ qI n r c ∧ okB (qI n r c) 0 (isort r) = true) := by
  have h0 : 0 < n := by
    simp only [List.mem_cons, List.not_mem_nil, or_false] at hn
    omega
  obtain ⟨c0, hc0, m, rfl⟩ := base_of h0 hc
  refine ⟨c0, hc0, fun r hr => ?_⟩
  obtain ⟨e1, e2⟩ := md_add h0 r ((n * (n - 1) + c0 : Nat) : Int) m
  refine ⟨e1, fun hm => ?_⟩
  obtain ⟨k1, k2⟩ := base_ok n hn c0 hc0 r hr (e1 ▸ hm)
  rw [e2]
  exact ⟨by omega, okB_mono (by omega) _ _ k2⟩
theorem p_of_ok {n : Nat} {c : Int} {r : List Int} (h0 : 0 < n) (hl : r.length = n) : (mdB n r c = true → 0 ≤ qI n r c → okB (qI n r c) 0 (isort r) = true → pB c r = true) ∧ (pB c r = true → mdB n r c = true) := by
  unfold pB manyC mdB qI
  rw [hl, decide_eq_true_eq, decide_eq_true_eq]
  generalize c - r.sum + (n : Int) * ((n : Int) - 1) / 2 = Y
  constructor
  · intro h1 h2 h3
    have hdm := Int.mul_ediv_add_emod Y (n : Int)
    have hY : ¬ Y < 0 := by
      have := Int.mul_nonneg (show (0 : Int) ≤ n by omega) h2
      omega
    rw [if_neg fun q => q.elim hY fun q => q h1]
    have hne : isort r ≠ [] := fun e => by
      have := isort_len r
      rw [e, hl] at this
      simp at this
      omega
    have := (prod_pos 0 (isort r) h3).2.2.2 hne
    omega
  · intro h
    apply Classical.byContradiction
    intro hn
    rw [if_pos (.inr hn)] at h
    exact absurd h (by decide)
theorem cnt_cases {n : Nat} {c : Int} (hn : n ∈ [2, 3, 4]) (hc0 : 0 ≤ c) : ((((resL n n).filter (cB n c)).length : Nat) : Int) = lotsI n c ∧ ((((resL n n).filter (pB c)).length : Nat) : Int) = lotsI n c := by
  have h0 : 0 < n := by
    simp only [List.mem_cons, List.not_mem_nil, or_false] at hn
    omega
  by_cases hc : (n : Int) * ((n : Int) - 1) ≤ c
  · obtain ⟨c0, hc0, h⟩ := big_c hn hc
    have hb := base_len n hn c0 hc0
    have h9 : n ∈ [2, 3, 4, 5, 6, 7, 8, 9, 12] := by
      simp only [List.mem_cons, List.not_mem_nil, or_false] at hn ⊢
      omega
    rw [lots_big h9 hc]
    have e : ∀ B : List Int → Bool, (∀ r ∈ resL n n, B r = mdB n r c) → (((resL n n).filter B).length : Int) = (n : Int) ^ (n - 1) := fun B hB => by
      rw [List.filter_congr (q := fun r => mdB n r ((n * (n - 1) + c0 : Nat) : Int)) fun r hr => (hB r hr).trans (h r hr).1, hb, Int.natCast_pow]
    refine ⟨e _ fun r hr => ?_, e _ fun r hr => ?_⟩
    · unfold cB
      cases q : mdB n r c with
      | false => rfl
      | true =>
        obtain ⟨k1, k2⟩ := (h r hr).2 q
        rw [decide_eq_true k1, k2]
        rfl
    · obtain ⟨a1, a2⟩ := p_of_ok (c := c) h0 (mem_res.mp hr).1
      cases q : mdB n r c with
      | false =>
        cases z : pB c r with
        | false => rfl
        | true => rw [a2 z] at q; cases q
      | true =>
        obtain ⟨k1, k2⟩ := (h r hr).2 q
        exact a1 q k1 k2
  · obtain ⟨k, rfl⟩ := Int.eq_ofNat_of_zero_le hc0
    have hk : k ∈ List.range (n * (n - 1)) := List.mem_range.mpr (by
      have e : ((n * (n - 1) : Nat) : Int) = (n : Int) * ((n : Int) - 1) := by rw [Int.natCast_mul, show ((n - 1 : Nat) : Int) = (n : Int) - 1 by omega]
      omega)
    exact ⟨few_c n hn k hk, few_p n hn k hk⟩
end U
end DL
namespace DL
namespace C
open PySem PySem.Spec L2 DL
theorem strewn_loopD {i : Nat} {x0 : PyData} : ∀ (f : Nat) (left found : List PyData) (n : Nat) (M : Mem) (o : MO), left.length = f → M[i]? = some o → Bx n o → n + 512 * f ≤ 2 ^ 44 → f ≤ 2 ^ 20 → found.length + left.length ≤ 2 ^ 20 → (∀ x ∈ left, x.canLay0 = true) →
    ∃ o' ys, whileL (opT neV (getV 2) (datE (dispE nilA))) (dropS (methE appM (getV 3) (consA (methE popM (getV 2) (consA (callF 2 (C.m_take 10) (consA (getV 0) (consA (callE lenV (consA (getV 2) nilA)) nilA))) nilA)) nilA))) (f + 1)
      [some (.h i), some (.d x0), some (.h M.length), some (.h (M.length + 1))] (M ++ [.lst left, .lst found])
      = .go .nx [some (.h i), some (.d x0), some (.h M.length), some (.h (M.length + 1))] (M.set i o' ++ [.lst [], .lst ys]) ∧ Bx (n + 512 * f) o' ∧ ys.Perm (found ++ left) := by
  intro f
  induction f with
  | zero =>
    intro left found n M o hl hM hB hn _ _ hc
    have hl : left = [] := List.length_eq_zero_iff.mp hl
    subst hl
    refine ⟨o, found, ?_, by simpa using hB, by simp⟩
    have hd : datOf (M ++ [.lst [], .lst found]) (.h M.length) = some (.list []) := by simp [datOf, m2_a]
    have hs : M.set i o = M := by
      have hi := lt_of_get hM
      rw [List.getElem?_eq_getElem hi] at hM
      cases hM
      simp
    rw [while_end (M1 := M ++ [.lst [], .lst found]) (by simp only [defM, startE, seqS_a, setS_a, bindS_ok, bindS_er, then_nx, then_rt, then_er, ifS_a, ifK_t, ifK_f, retS_a, dropS_a, asgS_a, asK_a, goG_ok, subT_a, nopS_a, getV_0, getV_s, cst_a, op2_a, o2a_ok, o2b_ok, opT_a, oTa_ok, oTb_ok, consA_a, cAa_ok, cAb_ok, nilA_a, callF_a, cFa_ok, callE_a, cEa_ok, newE_a, nwa_ok, datE_a, dta_ok, dispE_a, tupE_a, tpa_ok, asDs_a, datas, bind_ok, pur_ok, bool_b, leave_d, leave_nx, leave_er, ifE_a, ifa_t, ifa_f, notT_a, nta_ok, andT_a, ana_t, ana_f, orT_a, ora_t, ora_f, tstE_a, tsa_b, andE_a, aEa_t, aEa_f, orE_a, oEa_t, oEa_f, notE_a, nEa_ok, add_ii, sub_ii, gt_ii, lt_ii, ge_ii, le_ii, setT_a, consT_a, cTa_ok, nilT_a, tupT_a, seqT_t, seqT_l, forS_a, List.map_cons, List.map_nil, List.length_cons, List.length_nil, Nat.reduceAdd, Nat.reduceSub, Nat.zero_add, Nat.add_zero, List.replicate, List.cons_append, List.nil_append, List.append_nil, List.getElem?_cons_zero, List.getElem?_cons_succ, List.set_cons_zero, List.set_cons_succ, List.getElem?_nil, Option.map_some, Option.map_none, Option.bind_some, if_true, if_false, ite_true, ite_false, eq_self_iff_true, and_self, and_true, true_and, decide_true, decide_false, Bool.false_eq_true, Bool.not_true, Bool.not_false, sizeLine, Nat.reducePow, Nat.reduceLeDiff, Nat.zero_le, pow_7, pow_18, pow_40, ne_nil hd (by simp)]; rfl), hs]
  | succ f ih =>
    intro left found n M o hl hM hB hn hf hsz hc
    have hd : datOf (M ++ [.lst left, .lst found]) (.h M.length) = some (.list left) := by simp [datOf, m2_a]
    have hi := lt_of_get hM
    have hne : left.isEmpty = false := by cases left with
      | nil => cases hl
      | cons _ _ => rfl
    have hM2 : (M ++ [.lst left, .lst found])[i]? = some o := by rw [m2_get hi]; exact hM
    obtain ⟨v, o1, e, B, k1, k2⟩ := take10 (sp := (left.length : Nat)) hM2 hB (by omega) (by omega) (by omega)
    obtain ⟨k, rfl⟩ := Int.eq_ofNat_of_zero_le k1
    have hk : k < left.length := by omega
    rw [m2_set hi] at e
    have hs0 : sizeLine = 2 ^ 24 := rfl
    have pop := pop_at (i := M.length) (M := M.set i o1 ++ [.lst left, .lst found]) hk (by omega)
    rw [m2_sa (by simp)] at pop
    have app := app_at (i := M.length + 1) (xs := found) (y := left[k]) (M := M.set i o1 ++ [.lst (left.eraseIdx k), .lst found]) (by omega)
    rw [m2_sb (by simp)] at app
    have hlen : lenV [.h M.length] (M ++ [.lst left, .lst found]) = _ := len_h (m2_a rfl)
    have inner : methE popM (getV 2) (consA (callF 2 (C.m_take 10) (consA (getV 0) (consA (callE lenV (consA (getV 2) nilA)) nilA))) nilA) [some (.h i), some (.d x0), some (.h M.length), some (.h (M.length + 1))] (M ++ [.lst left, .lst found])
        = .ok (.d left[k]) (M.set i o1 ++ [.lst (left.eraseIdx k), .lst found]) := by
      rw [methE_at (i := M.length) (xs0 := left) (xs := left) (ys := [.d (.int (k : Nat))]) (M2 := M.set i o1 ++ [.lst left, .lst found]) (by simp only [defM, startE, seqS_a, setS_a, bindS_ok, bindS_er, then_nx, then_rt, then_er, ifS_a, ifK_t, ifK_f, retS_a, dropS_a, asgS_a, asK_a, goG_ok, subT_a, nopS_a, getV_0, getV_s, cst_a, op2_a, o2a_ok, o2b_ok, opT_a, oTa_ok, oTb_ok, consA_a, cAa_ok, cAb_ok, nilA_a, callF_a, cFa_ok, callE_a, cEa_ok, newE_a, nwa_ok, datE_a, dta_ok, dispE_a, tupE_a, tpa_ok, asDs_a, datas, bind_ok, pur_ok, bool_b, leave_d, leave_nx, leave_er, ifE_a, ifa_t, ifa_f, notT_a, nta_ok, andT_a, ana_t, ana_f, orT_a, ora_t, ora_f, tstE_a, tsa_b, andE_a, aEa_t, aEa_f, orE_a, oEa_t, oEa_f, notE_a, nEa_ok, add_ii, sub_ii, gt_ii, lt_ii, ge_ii, le_ii, setT_a, consT_a, cTa_ok, nilT_a, tupT_a, seqT_t, seqT_l, forS_a, List.map_cons, List.map_nil, List.length_cons, List.length_nil, Nat.reduceAdd, Nat.reduceSub, Nat.zero_add, Nat.add_zero, List.replicate, List.cons_append, List.nil_append, List.append_nil, List.getElem?_cons_zero, List.getElem?_cons_succ, List.set_cons_zero, List.set_cons_succ, List.getElem?_nil, Option.map_some, Option.map_none, Option.bind_some, if_true, if_false, ite_true, ite_false, eq_self_iff_true, and_self, and_true, true_and, decide_true, decide_false, Bool.false_eq_true, Bool.not_true, Bool.not_false, sizeLine, Nat.reducePow, Nat.reduceLeDiff, Nat.zero_le, pow_7, pow_18, pow_40]) (m2_a rfl) (by simp only [defM, startE, seqS_a, setS_a, bindS_ok, bindS_er, then_nx, then_rt, then_er, ifS_a, ifK_t, ifK_f, retS_a, dropS_a, asgS_a, asK_a, goG_ok, subT_a, nopS_a, getV_0, getV_s, cst_a, op2_a, o2a_ok, o2b_ok, opT_a, oTa_ok, oTb_ok, consA_a, cAa_ok, cAb_ok, nilA_a, callF_a, cFa_ok, callE_a, cEa_ok, newE_a, nwa_ok, datE_a, dta_ok, dispE_a, tupE_a, tpa_ok, asDs_a, datas, bind_ok, pur_ok, bool_b, leave_d, leave_nx, leave_er, ifE_a, ifa_t, ifa_f, notT_a, nta_ok, andT_a, ana_t, ana_f, orT_a, ora_t, ora_f, tstE_a, tsa_b, andE_a, aEa_t, aEa_f, orE_a, oEa_t, oEa_f, notE_a, nEa_ok, add_ii, sub_ii, gt_ii, lt_ii, ge_ii, le_ii, setT_a, consT_a, cTa_ok, nilT_a, tupT_a, seqT_t, seqT_l, forS_a, List.map_cons, List.map_nil, List.length_cons, List.length_nil, Nat.reduceAdd, Nat.reduceSub, Nat.zero_add, Nat.add_zero, List.replicate, List.cons_append, List.nil_append, List.append_nil, List.getElem?_cons_zero, List.getElem?_cons_succ, List.set_cons_zero, List.set_cons_succ, List.getElem?_nil, Option.map_some, Option.map_none, Option.bind_some, if_true, if_false, ite_true, ite_false, eq_self_iff_true, and_self, and_true, true_and, decide_true, decide_false, Bool.false_eq_true, Bool.not_true, Bool.not_false, sizeLine, Nat.reducePow, Nat.reduceLeDiff, Nat.zero_le, pow_7, pow_18, pow_40, hlen, e]) (m2_a (by simp)), pop]
      rfl
    have outer : methE appM (getV 3) (consA (methE popM (getV 2) (consA (callF 2 (C.m_take 10) (consA (getV 0) (consA (callE lenV (consA (getV 2) nilA)) nilA))) nilA)) nilA) [some (.h i), some (.d x0), some (.h M.length), some (.h (M.length + 1))] (M ++ [.lst left, .lst found])
        = .ok (.d .none) (M.set i o1 ++ [.lst (left.eraseIdx k), .lst (found ++ [left[k]])]) := by
      rw [methE_at (i := M.length + 1) (xs0 := found) (xs := found) (ys := [.d left[k]]) (M2 := M.set i o1 ++ [.lst (left.eraseIdx k), .lst found]) (by simp only [defM, startE, seqS_a, setS_a, bindS_ok, bindS_er, then_nx, then_rt, then_er, ifS_a, ifK_t, ifK_f, retS_a, dropS_a, asgS_a, asK_a, goG_ok, subT_a, nopS_a, getV_0, getV_s, cst_a, op2_a, o2a_ok, o2b_ok, opT_a, oTa_ok, oTb_ok, consA_a, cAa_ok, cAb_ok, nilA_a, callF_a, cFa_ok, callE_a, cEa_ok, newE_a, nwa_ok, datE_a, dta_ok, dispE_a, tupE_a, tpa_ok, asDs_a, datas, bind_ok, pur_ok, bool_b, leave_d, leave_nx, leave_er, ifE_a, ifa_t, ifa_f, notT_a, nta_ok, andT_a, ana_t, ana_f, orT_a, ora_t, ora_f, tstE_a, tsa_b, andE_a, aEa_t, aEa_f, orE_a, oEa_t, oEa_f, notE_a, nEa_ok, add_ii, sub_ii, gt_ii, lt_ii, ge_ii, le_ii, setT_a, consT_a, cTa_ok, nilT_a, tupT_a, seqT_t, seqT_l, forS_a, List.map_cons, List.map_nil, List.length_cons, List.length_nil, Nat.reduceAdd, Nat.reduceSub, Nat.zero_add, Nat.add_zero, List.replicate, List.cons_append, List.nil_append, List.append_nil, List.getElem?_cons_zero, List.getElem?_cons_succ, List.set_cons_zero, List.set_cons_succ, List.getElem?_nil, Option.map_some, Option.map_none, Option.bind_some, if_true, if_false, ite_true, ite_false, eq_self_iff_true, and_self, and_true, true_and, decide_true, decide_false, Bool.false_eq_true, Bool.not_true, Bool.not_false, sizeLine, Nat.reducePow, Nat.reduceLeDiff, Nat.zero_le, pow_7, pow_18, pow_40]) (m2_b rfl) (by simp only [defM, startE, seqS_a, setS_a, bindS_ok, bindS_er, then_nx, then_rt, then_er, ifS_a, ifK_t, ifK_f, retS_a, dropS_a, asgS_a, asK_a, goG_ok, subT_a, nopS_a, getV_0, getV_s, cst_a, op2_a, o2a_ok, o2b_ok, opT_a, oTa_ok, oTb_ok, consA_a, cAa_ok, cAb_ok, nilA_a, callF_a, cFa_ok, callE_a, cEa_ok, newE_a, nwa_ok, datE_a, dta_ok, dispE_a, tupE_a, tpa_ok, asDs_a, datas, bind_ok, pur_ok, bool_b, leave_d, leave_nx, leave_er, ifE_a, ifa_t, ifa_f, notT_a, nta_ok, andT_a, ana_t, ana_f, orT_a, ora_t, ora_f, tstE_a, tsa_b, andE_a, aEa_t, aEa_f, orE_a, oEa_t, oEa_f, notE_a, nEa_ok, add_ii, sub_ii, gt_ii, lt_ii, ge_ii, le_ii, setT_a, consT_a, cTa_ok, nilT_a, tupT_a, seqT_t, seqT_l, forS_a, List.map_cons, List.map_nil, List.length_cons, List.length_nil, Nat.reduceAdd, Nat.reduceSub, Nat.zero_add, Nat.add_zero, List.replicate, List.cons_append, List.nil_append, List.append_nil, List.getElem?_cons_zero, List.getElem?_cons_succ, List.set_cons_zero, List.set_cons_succ, List.getElem?_nil, Option.map_some, Option.map_none, Option.bind_some, if_true, if_false, ite_true, ite_false, eq_self_iff_true, and_self, and_true, true_and, decide_true, decide_false, Bool.false_eq_true, Bool.not_true, Bool.not_false, sizeLine, Nat.reducePow, Nat.reduceLeDiff, Nat.zero_le, pow_7, pow_18, pow_40, inner]) (m2_b (by simp)), app]
      rfl
    rw [while_step (M1 := M ++ [.lst left, .lst found]) (e2 := [some (.h i), some (.d x0), some (.h M.length), some (.h (M.length + 1))]) (M2 := M.set i o1 ++ [.lst (left.eraseIdx k), .lst (found ++ [left[k]])]) (by simp only [defM, startE, seqS_a, setS_a, bindS_ok, bindS_er, then_nx, then_rt, then_er, ifS_a, ifK_t, ifK_f, retS_a, dropS_a, asgS_a, asK_a, goG_ok, subT_a, nopS_a, getV_0, getV_s, cst_a, op2_a, o2a_ok, o2b_ok, opT_a, oTa_ok, oTb_ok, consA_a, cAa_ok, cAb_ok, nilA_a, callF_a, cFa_ok, callE_a, cEa_ok, newE_a, nwa_ok, datE_a, dta_ok, dispE_a, tupE_a, tpa_ok, asDs_a, datas, bind_ok, pur_ok, bool_b, leave_d, leave_nx, leave_er, ifE_a, ifa_t, ifa_f, notT_a, nta_ok, andT_a, ana_t, ana_f, orT_a, ora_t, ora_f, tstE_a, tsa_b, andE_a, aEa_t, aEa_f, orE_a, oEa_t, oEa_f, notE_a, nEa_ok, add_ii, sub_ii, gt_ii, lt_ii, ge_ii, le_ii, setT_a, consT_a, cTa_ok, nilT_a, tupT_a, seqT_t, seqT_l, forS_a, List.map_cons, List.map_nil, List.length_cons, List.length_nil, Nat.reduceAdd, Nat.reduceSub, Nat.zero_add, Nat.add_zero, List.replicate, List.cons_append, List.nil_append, List.append_nil, List.getElem?_cons_zero, List.getElem?_cons_succ, List.set_cons_zero, List.set_cons_succ, List.getElem?_nil, Option.map_some, Option.map_none, Option.bind_some, if_true, if_false, ite_true, ite_false, eq_self_iff_true, and_self, and_true, true_and, decide_true, decide_false, Bool.false_eq_true, Bool.not_true, Bool.not_false, sizeLine, Nat.reducePow, Nat.reduceLeDiff, Nat.zero_le, pow_7, pow_18, pow_40, ne_nil hd hc, hne]) (by simp only [defM, startE, seqS_a, setS_a, bindS_ok, bindS_er, then_nx, then_rt, then_er, ifS_a, ifK_t, ifK_f, retS_a, dropS_a, asgS_a, asK_a, goG_ok, subT_a, nopS_a, getV_0, getV_s, cst_a, op2_a, o2a_ok, o2b_ok, opT_a, oTa_ok, oTb_ok, consA_a, cAa_ok, cAb_ok, nilA_a, callF_a, cFa_ok, callE_a, cEa_ok, newE_a, nwa_ok, datE_a, dta_ok, dispE_a, tupE_a, tpa_ok, asDs_a, datas, bind_ok, pur_ok, bool_b, leave_d, leave_nx, leave_er, ifE_a, ifa_t, ifa_f, notT_a, nta_ok, andT_a, ana_t, ana_f, orT_a, ora_t, ora_f, tstE_a, tsa_b, andE_a, aEa_t, aEa_f, orE_a, oEa_t, oEa_f, notE_a, nEa_ok, add_ii, sub_ii, gt_ii, lt_ii, ge_ii, le_ii, setT_a, consT_a, cTa_ok, nilT_a, tupT_a, seqT_t, seqT_l, forS_a, List.map_cons, List.map_nil, List.length_cons, List.length_nil, Nat.reduceAdd, Nat.reduceSub, Nat.zero_add, Nat.add_zero, List.replicate, List.cons_append, List.nil_append, List.append_nil, List.getElem?_cons_zero, List.getElem?_cons_succ, List.set_cons_zero, List.set_cons_succ, List.getElem?_nil, Option.map_some, Option.map_none, Option.bind_some, if_true, if_false, ite_true, ite_false, eq_self_iff_true, and_self, and_true, true_and, decide_true, decide_false, Bool.false_eq_true, Bool.not_true, Bool.not_false, sizeLine, Nat.reducePow, Nat.reduceLeDiff, Nat.zero_le, pow_7, pow_18, pow_40, outer])]
    have hle : (left.eraseIdx k).length = f := by rw [List.length_eraseIdx]; simp [hk]; omega
    obtain ⟨o', ys, e2, B2, P⟩ := ih (left.eraseIdx k) (found ++ [left[k]]) (n + 512) (M.set i o1) o1 hle (getM hM) B (by omega) (by omega) (by rw [List.length_append, hle]; simp; omega) (fun x hx => hc x (List.mem_of_mem_eraseIdx hx))
    rw [List.length_set, List.set_set] at e2
    refine ⟨o', ys, e2, by rw [show n + 512 * (f + 1) = n + 512 + 512 * f by omega]; exact B2, P.trans ?_⟩
    rw [List.append_assoc]
    exact List.Perm.append_left _ (perm_erase left k hk)
theorem strewn_tup {n i : Nat} {M : Mem} {o : MO} {xs : List PyData} (hM : M[i]? = some o) (hB : Bx n o) (hn : n + 512 * xs.length ≤ 2 ^ 44) (hl : xs.length ≤ 2 ^ 20) (hc : ∀ x ∈ xs, x.canLay0 = true) :
    ∃ ys o', m_strewn [.h i, .d (.tuple xs)] M = .ok (.d (.list ys)) (M.set i o') ∧ Bx (n + 512 * xs.length) o' ∧ ys.Perm xs := by
  have hi := lt_of_get hM
  obtain ⟨o', ys, e, B, P⟩ := strewn_loopD (i := i) (x0 := .tuple xs) xs.length xs [] n M o rfl hM hB hn hl (by simpa using hl) hc
  refine ⟨ys, o', ?_, B, P⟩
  have fuel : lenAt 2 [some (.h i), some (.d (.tuple xs)), some (.h M.length), some (.h (M.length + 1))] (M ++ [.lst xs, .lst []]) = xs.length + 1 := by
    unfold lenAt
    simp [lstOf]
  have par : parS 2 3 (consA (newE (listE (getV 1))) (consA (newE (dispE nilA)) nilA)) [some (.h i), some (.d (.tuple xs)), none, none] M
      = .go .nx [some (.h i), some (.d (.tuple xs)), some (.h M.length), some (.h (M.length + 1))] (M ++ [.lst xs, .lst []]) := by
    simp only [defM, startE, seqS_a, setS_a, bindS_ok, bindS_er, then_nx, then_rt, then_er, ifS_a, ifK_t, ifK_f, retS_a, dropS_a, asgS_a, asK_a, goG_ok, subT_a, nopS_a, getV_0, getV_s, cst_a, op2_a, o2a_ok, o2b_ok, opT_a, oTa_ok, oTb_ok, consA_a, cAa_ok, cAb_ok, nilA_a, callF_a, cFa_ok, callE_a, cEa_ok, newE_a, nwa_ok, datE_a, dta_ok, dispE_a, tupE_a, tpa_ok, asDs_a, datas, bind_ok, pur_ok, bool_b, leave_d, leave_nx, leave_er, ifE_a, ifa_t, ifa_f, notT_a, nta_ok, andT_a, ana_t, ana_f, orT_a, ora_t, ora_f, tstE_a, tsa_b, andE_a, aEa_t, aEa_f, orE_a, oEa_t, oEa_f, notE_a, nEa_ok, add_ii, sub_ii, gt_ii, lt_ii, ge_ii, le_ii, setT_a, consT_a, cTa_ok, nilT_a, tupT_a, seqT_t, seqT_l, forS_a, List.map_cons, List.map_nil, List.length_cons, List.length_nil, Nat.reduceAdd, Nat.reduceSub, Nat.zero_add, Nat.add_zero, List.replicate, List.cons_append, List.nil_append, List.append_nil, List.getElem?_cons_zero, List.getElem?_cons_succ, List.set_cons_zero, List.set_cons_succ, List.getElem?_nil, Option.map_some, Option.map_none, Option.bind_some, if_true, if_false, ite_true, ite_false, eq_self_iff_true, and_self, and_true, true_and, decide_true, decide_false, Bool.false_eq_true, Bool.not_true, Bool.not_false, sizeLine, Nat.reducePow, Nat.reduceLeDiff, Nat.zero_le, pow_7, pow_18, pow_40, parS_a, listE_a (f := getV 1) (x := .d (.tuple xs)) (xs := xs) (e := [some (.h i), some (.d (.tuple xs)), none, none]) (M := M) (M1 := M) (by simp only [defM, startE, seqS_a, setS_a, bindS_ok, bindS_er, then_nx, then_rt, then_er, ifS_a, ifK_t, ifK_f, retS_a, dropS_a, asgS_a, asK_a, goG_ok, subT_a, nopS_a, getV_0, getV_s, cst_a, op2_a, o2a_ok, o2b_ok, opT_a, oTa_ok, oTb_ok, consA_a, cAa_ok, cAb_ok, nilA_a, callF_a, cFa_ok, callE_a, cEa_ok, newE_a, nwa_ok, datE_a, dta_ok, dispE_a, tupE_a, tpa_ok, asDs_a, datas, bind_ok, pur_ok, bool_b, leave_d, leave_nx, leave_er, ifE_a, ifa_t, ifa_f, notT_a, nta_ok, andT_a, ana_t, ana_f, orT_a, ora_t, ora_f, tstE_a, tsa_b, andE_a, aEa_t, aEa_f, orE_a, oEa_t, oEa_f, notE_a, nEa_ok, add_ii, sub_ii, gt_ii, lt_ii, ge_ii, le_ii, setT_a, consT_a, cTa_ok, nilT_a, tupT_a, seqT_t, seqT_l, forS_a, List.map_cons, List.map_nil, List.length_cons, List.length_nil, Nat.reduceAdd, Nat.reduceSub, Nat.zero_add, Nat.add_zero, List.replicate, List.cons_append, List.nil_append, List.append_nil, List.getElem?_cons_zero, List.getElem?_cons_succ, List.set_cons_zero, List.set_cons_succ, List.getElem?_nil, Option.map_some, Option.map_none, Option.bind_some, if_true, if_false, ite_true, ite_false, eq_self_iff_true, and_self, and_true, true_and, decide_true, decide_false, Bool.false_eq_true, Bool.not_true, Bool.not_false, sizeLine, Nat.reducePow, Nat.reduceLeDiff, Nat.zero_le, pow_7, pow_18, pow_40]) rfl, List.length_append, List.append_assoc]
  have fz := freeze_at (i := 3) (e := [some (.h i), some (.d (.tuple xs)), some (.h M.length), some (.h (M.length + 1))]) (M := M.set i o' ++ [.lst [], .lst ys]) rfl (m2_b (by simp))
  rw [m2_sb (by simp)] at fz
  unfold m_strewn g_strewn
  simp only [defM, startE, seqS_a, setS_a, bindS_ok, bindS_er, then_nx, then_rt, then_er, ifS_a, ifK_t, ifK_f, retS_a, dropS_a, asgS_a, asK_a, goG_ok, subT_a, nopS_a, getV_0, getV_s, cst_a, op2_a, o2a_ok, o2b_ok, opT_a, oTa_ok, oTb_ok, consA_a, cAa_ok, cAb_ok, nilA_a, callF_a, cFa_ok, callE_a, cEa_ok, newE_a, nwa_ok, datE_a, dta_ok, dispE_a, tupE_a, tpa_ok, asDs_a, datas, bind_ok, pur_ok, bool_b, leave_d, leave_nx, leave_er, ifE_a, ifa_t, ifa_f, notT_a, nta_ok, andT_a, ana_t, ana_f, orT_a, ora_t, ora_f, tstE_a, tsa_b, andE_a, aEa_t, aEa_f, orE_a, oEa_t, oEa_f, notE_a, nEa_ok, add_ii, sub_ii, gt_ii, lt_ii, ge_ii, le_ii, setT_a, consT_a, cTa_ok, nilT_a, tupT_a, seqT_t, seqT_l, forS_a, List.map_cons, List.map_nil, List.length_cons, List.length_nil, Nat.reduceAdd, Nat.reduceSub, Nat.zero_add, Nat.add_zero, List.replicate, List.cons_append, List.nil_append, List.append_nil, List.getElem?_cons_zero, List.getElem?_cons_succ, List.set_cons_zero, List.set_cons_succ, List.getElem?_nil, Option.map_some, Option.map_none, Option.bind_some, if_true, if_false, ite_true, ite_false, eq_self_iff_true, and_self, and_true, true_and, decide_true, decide_false, Bool.false_eq_true, Bool.not_true, Bool.not_false, sizeLine, Nat.reducePow, Nat.reduceLeDiff, Nat.zero_le, pow_7, pow_18, pow_40, par, whileS_at fuel e, fz]
  rw [List.take_append_of_le_length (by simp), take_all (by simp)]
theorem set_same {M : Mem} {i : Nat} {o : MO} (h : M[i]? = some o) : M.set i o = M := by
  refine List.ext_getElem? fun k => ?_
  rw [List.getElem?_set]
  split
  · rename_i hk
    subst hk
    rw [h]
    have := lt_of_getL h
    simp [this]
  · rfl
theorem draws_g {a b : Nat} {i n0 n : Nat} {M : Mem} {o : MO} {ew : Env} (hM : M[i]? = some o) (hB : Bx n0 o) (hn0 : n0 + 100000 ≤ 2 ^ 44) (h0 : 0 < n) (h1 : n ≤ 12) (hlen : ∀ (v : Option Vl) (N : Mem), getV b (ew.set a v) N = .ok (.d (.int (n : Nat))) N) (hb : ∀ (v : Option Vl) (N : Mem), getV 0 (ew.set a v) N = .ok (.h i) N) (ha : ew[a]? = some none) :
    ∃ (zs : List Int) (o' : MO), lcE [a] (rngI1 (getV b)) (setT a) (fun _ M => .ok true M) (callF 2 (C.m_take 10) (consA (getV 0) (consA (getV b) nilA))) ew M = .ok (intsD zs) (M.set i o') ∧ Bx (n0 + 512 * n) o' ∧ zs.length = n ∧ ∀ z ∈ zs, 0 ≤ z ∧ z < n := by
  have hsz : sizeLine = 2 ^ 24 := rfl
  have hrl : (rangeD 0 (n : Int)).length = n := by rw [rangeD_nat]; simp
  have hew : ewipe ew [a] = ew := by
    show ew.set a none = ew
    refine List.ext_getElem? fun k => ?_
    rw [List.getElem?_set]
    split
    · rename_i hk
      subst hk
      rw [ha]
      have := lt_of_getL ha
      simp [this]
    · rfl
  have hg1 : getV b ew M = .ok (.d (.int (n : Nat))) M := by
    have := hlen none M
    rw [show ew.set a none = ew from hew] at this
    exact this
  rw [lcE_at (rngI1_a (i := (n : Int)) (M1 := M) hg1 (by omega)), hew]
  obtain ⟨ys, M2, e2, ⟨o2, rfl, B2⟩, hl, hz⟩ := lcL_all (γ := setT a) (t := fun _ M => .ok true M) (h := callF 2 (C.m_take 10) (consA (getV 0) (consA (getV b) nilA))) (ew := ew)
    (fun k N => ∃ o', N = M.set i o' ∧ Bx (n0 + 512 * k) o') (fun _ _ y => ∃ p : Int, y = .int p ∧ 0 ≤ p ∧ p < n) (rangeD 0 (n : Int)) 0 [] M (Nat.zero_le _) (by rw [hrl, hsz]; simp; omega)
    (by
      rintro k x N hx ⟨o', rfl, B⟩
      have hk := lt_of_getL hx
      rw [hrl] at hk
      obtain ⟨u, o3, e3, B3, k1, k2⟩ := take10 (sp := (n : Nat)) (getM (o' := o') hM) B (by omega) (by omega) (by omega)
      rw [List.set_set] at e3
      refine ⟨ew.set a (some (.d x)), M.set i o', M.set i o', .int u, M.set i o3, rfl, rfl, ?_, ⟨o3, rfl, B3.mono (by omega)⟩, u, rfl, k1, k2⟩
      have q1 := hlen (some (.d x)) (M.set i o')
      have q2 := hb (some (.d x)) (M.set i o')
      simp only [defM, startE, seqS_a, setS_a, bindS_ok, bindS_er, then_nx, then_rt, then_er, ifS_a, ifK_t, ifK_f, retS_a, dropS_a, asgS_a, asK_a, goG_ok, subT_a, nopS_a, getV_0, getV_s, cst_a, op2_a, o2a_ok, o2b_ok, opT_a, oTa_ok, oTb_ok, consA_a, cAa_ok, cAb_ok, nilA_a, callF_a, cFa_ok, callE_a, cEa_ok, newE_a, nwa_ok, datE_a, dta_ok, dispE_a, tupE_a, tpa_ok, asDs_a, datas, bind_ok, pur_ok, bool_b, leave_d, leave_nx, leave_er, ifE_a, ifa_t, ifa_f, notT_a, nta_ok, andT_a, ana_t, ana_f, orT_a, ora_t, ora_f, tstE_a, tsa_b, andE_a, aEa_t, aEa_f, orE_a, oEa_t, oEa_f, notE_a, nEa_ok, add_ii, sub_ii, gt_ii, lt_ii, ge_ii, le_ii, setT_a, consT_a, cTa_ok, nilT_a, tupT_a, seqT_t, seqT_l, forS_a, List.map_cons, List.map_nil, List.length_cons, List.length_nil, Nat.reduceAdd, Nat.reduceSub, Nat.zero_add, Nat.add_zero, List.replicate, List.cons_append, List.nil_append, List.append_nil, List.getElem?_cons_zero, List.getElem?_cons_succ, List.set_cons_zero, List.set_cons_succ, List.getElem?_nil, Option.map_some, Option.map_none, Option.bind_some, if_true, if_false, ite_true, ite_false, eq_self_iff_true, and_self, and_true, true_and, decide_true, decide_false, Bool.false_eq_true, Bool.not_true, Bool.not_false, sizeLine, Nat.reducePow, Nat.reduceLeDiff, Nat.zero_le, pow_7, pow_18, pow_40, q2, q1, e3])
    ⟨o, (set_same hM).symm, by simpa using hB⟩
  rw [List.drop_zero, List.nil_append] at e2
  have hints : ∃ zs : List Int, ys = intsD zs ∧ ∀ z ∈ zs, 0 ≤ z ∧ z < n := by
    have key : ∀ y ∈ ys, ∃ p : Int, y = .int p ∧ 0 ≤ p ∧ p < n := fun y hy => by
      obtain ⟨k, hk⟩ := List.getElem?_of_mem hy
      have hk2 := lt_of_getL hk
      rw [hl, hrl] at hk2
      obtain ⟨x, hx⟩ : ∃ x, (rangeD 0 (n : Int))[0 + k]? = some x := ⟨_, List.getElem?_eq_getElem (by rw [hrl]; omega)⟩
      exact hz k x y hx hk
    clear e2 hl hz
    induction ys with
    | nil => exact ⟨[], rfl, fun z hz => by cases hz⟩
    | cons y ys ih =>
      obtain ⟨p, rfl, p0, p1⟩ := key y List.mem_cons_self
      obtain ⟨zs, rfl, h⟩ := ih fun y hy => key y (List.mem_cons_of_mem _ hy)
      exact ⟨p :: zs, rfl, fun z hz => by
        rcases List.mem_cons.mp hz with rfl | hz
        · exact ⟨p0, p1⟩
        · exact h z hz⟩
  obtain ⟨zs, rfl, hzs⟩ := hints
  refine ⟨zs, o2, e2, by rw [hrl] at B2; exact B2, ?_, hzs⟩
  rw [hrl] at hl
  simpa using hl
end C
namespace U
open PySem PySem.Spec L2 DL DL.C NM DL.N DL.T
theorem many_perm {r s : List Int} (h : r.Perm s) (c : Int) : manyI r c = manyI s c := by
  unfold manyI upI
  rw [h.length_eq, perm_sum h, asc_unique ((sortI_perm r).trans (h.trans (sortI_perm s).symm)) (sortI_asc r) (sortI_asc s)]
theorem many_zero {n : Nat} {r : List Int} {c : Int} (hl : r.length = n) (h : (c - r.sum + (n : Int) * ((n : Int) - 1) / 2) % (n : Int) ≠ 0) : manyI r c = 0 := by
  unfold manyI
  rw [hl, if_pos (.inr h)]
/-- n coins more in the first purse -/
def rich (n : Nat) (x : N.Sp) : N.Sp := (x.1, match x.2 with | [] => [] | p :: ps => (p + n) :: ps)
theorem rich_inj {n : Nat} {x y : N.Sp} (h : rich n x = rich n y) : x = y := by
  obtain ⟨a, p⟩ := x
  obtain ⟨b, q⟩ := y
  unfold rich at h
  have h1 : a = b := congrArg Prod.fst h
  have h2 := congrArg Prod.snd h
  dsimp only at h2
  subst h1
  cases p with
  | nil => cases q with
    | nil => rfl
    | cons _ _ => cases h2
  | cons u p => cases q with
    | nil => cases h2
    | cons v q =>
      dsimp only at h2
      injection h2 with e1 e2
      subst e2
      have : u = v := by omega
      rw [this]
theorem rich_ok {n c : Nat} (h0 : 0 < n) {x : N.Sp} (hx : x ∈ stL n c) : rich n x ∈ stL n (c + n) ∧ resI (rich n x).1 (rich n x).2 = resI x.1 x.2 := by
  obtain ⟨k, hs⟩ := (mem_st h0 x).mp hx
  obtain ⟨a, p⟩ := x
  cases p with
  | nil =>
    have := k.len
    simp at this
    omega
  | cons u p =>
    have k : Stt n a (u :: p) := k
    have hs : (u :: p).sum = (c : Int) := hs
    have hsl := k.slen
    refine ⟨(mem_st h0 _).mpr ⟨⟨k.perm, by have := k.len; show ((u + (n : Int)) :: p).length = n; simpa using this, fun q hq => ?_⟩, ?_⟩, ?_⟩
    · have hq : q ∈ (u + n) :: p := hq
      rcases List.mem_cons.mp hq with rfl | hq
      · have := k.nn u List.mem_cons_self
        omega
      · exact k.nn q (List.mem_cons_of_mem _ hq)
    · show ((u + (n : Int)) :: p).sum = _
      rw [List.sum_cons] at hs ⊢
      push_cast
      omega
    · show resI a ((u + (n : Int)) :: p) = resI a (u :: p)
      rw [resI_cast hsl, resI_cast hsl]
      cases a with
      | nil => simp at hsl; omega
      | cons b a =>
        show ((((b : Nat) : Int) + (u + (n : Int))) % (n : Int)) :: _ = ((((b : Nat) : Int) + u) % (n : Int)) :: _
        rw [← Int.add_assoc, Int.add_emod_right]
theorem many_more {n c : Nat} {r : List Int} (h0 : 0 < n) (hl : r.length = n) (hr : ∀ m ∈ r, 0 ≤ m ∧ m < n) : manyI r (c : Int) ≤ manyI r ((c + n : Nat) : Int) := by
  rw [many_cnt h0 hl hr, many_cnt h0 hl hr]
  unfold cntR
  have h1 := BF.nodup_le (F := ((stL n c).filter (hasR r)).map (rich n)) (L := (stL n (c + n)).filter (hasR r)) (by
    unfold List.Nodup
    rw [List.pairwise_map]
    exact ((st_nodup n c).filter _).imp fun h e => h (rich_inj e)) fun y hy => by
    obtain ⟨x, hx, rfl⟩ := List.mem_map.mp hy
    obtain ⟨h1, h2⟩ := List.mem_filter.mp hx
    obtain ⟨k1, k2⟩ := rich_ok h0 h1
    refine List.mem_filter.mpr ⟨k1, ?_⟩
    unfold hasR at h2 ⊢
    rw [k2]
    exact h2
  rw [List.length_map] at h1
  exact Int.ofNat_le.mpr h1
theorem rep_sum : ∀ (k : Nat), (List.replicate k (0 : Int)).sum = 0
  | 0 => rfl
  | k + 1 => by rw [List.replicate_succ, List.sum_cons, rep_sum k]; rfl
theorem pur_le {n : Nat} (h0 : 0 < n) : ∀ (ms ss : List Int), (purI n ms ss (List.replicate ms.length 0)).sum ≤ (ms.length : Int) * ((n : Int) - 1)
  | [], ss => by cases ss <;> simp [purI]
  | m :: ms, [] => by
    show (0 : Int) ≤ _
    exact Int.mul_nonneg (by omega) (by omega)
  | m :: ms, s :: ss => by
    have ih := pur_le h0 ms ss
    have hm := Int.emod_lt_of_pos (m - s) (show (0 : Int) < n by omega)
    show (((m - s) % (n : Int) + 0 * (n : Int)) :: purI n ms ss (List.replicate ms.length 0)).sum ≤ _
    rw [List.sum_cons, List.length_cons, Int.natCast_add, Int.add_mul, Int.zero_mul]
    omega
/-- enough coins: some state has them -/
theorem many_far {n c : Nat} {r : List Int} (h0 : 0 < n) (hl : r.length = n) (hr : ∀ m ∈ r, 0 ≤ m ∧ m < n) (hd : ((c : Int) - r.sum + (n : Int) * ((n : Int) - 1) / 2) % (n : Int) = 0) (hc : (n : Int) * ((n : Int) - 1) ≤ c) : 0 < manyI r (c : Int) := by
  rw [many_cnt h0 hl hr]
  have hperm : (List.range n).Perm (List.range n) := .refl _
  have hT : (castI (List.range n)).sum = (n : Int) * ((n : Int) - 1) / 2 := (sum_range n).symm ▸ rfl
  have htl : (castI (List.range n)).length = r.length := by unfold castI; rw [List.length_map, List.length_range, hl]
  have P0 := PU.mk' (ys := List.replicate r.length 0) hr (castI_mem hperm) (fun y hy => Int.le_of_eq (List.eq_of_mem_replicate hy).symm) htl List.length_replicate
  have e0 := P0.sum
  have hle := pur_le h0 r (castI (List.range n))
  rw [rep_sum] at e0
  rw [hl] at hle e0
  have hdm := Int.mul_ediv_add_emod ((c : Int) - r.sum + (n : Int) * ((n : Int) - 1) / 2) (n : Int)
  rw [hd] at hdm
  generalize ((c : Int) - r.sum + (n : Int) * ((n : Int) - 1) / 2) / (n : Int) = Q at *
  rw [hT] at e0
  generalize hw : wr r (castI (List.range n)) = W at *
  have hQ : W ≤ Q := by
    apply Classical.byContradiction
    intro hn
    have h1 : (n : Int) * (Q + 1) ≤ (n : Int) * W := Int.mul_le_mul_of_nonneg_left (by omega) (by omega)
    have h2 : (n : Int) * (W + 0) = (n : Int) * W := by rw [Int.add_zero]
    rw [h2] at e0
    rw [Int.mul_add] at h1
    omega
  obtain ⟨m, rfl⟩ : ∃ m, n = m + 1 := ⟨n - 1, by omega⟩
  have P := PU.mk' (ys := (Q - W) :: List.replicate m 0) hr (castI_mem hperm) (fun y hy => by
    rcases List.mem_cons.mp hy with rfl | hy
    · omega
    · rw [List.eq_of_mem_replicate hy]; exact Int.le_refl _) htl (by simp [hl])
  have e1 := P.sum
  rw [hw, hT, List.sum_cons, rep_sum, show W + (Q - W + 0) = Q by omega] at e1
  generalize hq : purI (m + 1) r (castI (List.range (m + 1))) ((Q - W) :: List.replicate m 0) = qs at P e1
  have hst : Stt (m + 1) (List.range (m + 1)) qs := ⟨hperm, by rw [P.len.2.2, hl], P.nn.1⟩
  have hres : resI (List.range (m + 1)) qs = r := by rw [resI_cast (n := m + 1) (by simp)]; exact P.res
  have hmem : ((List.range (m + 1), qs) : N.Sp) ∈ (stL (m + 1) c).filter (hasR r) := List.mem_filter.mpr ⟨(mem_st h0 _).mpr ⟨hst, by
    show qs.sum = _
    omega⟩, decide_eq_true hres⟩
  have := List.length_pos_of_mem hmem
  unfold cntR
  omega
end U
end DL
namespace DL
namespace K26
open PySem PySem.Spec L2 DL DL.C NM DL.N DL.T DL.U
abbrev krs (l : List (List Int)) : List PyData := l.map kr
theorem res_len2 {n : Nat} : ∀ k, (resL n k).length = n ^ k
  | 0 => rfl
  | k + 1 => by
    have key : ∀ l : List (List Int), (l.flatMap fun b => (rangeI n).map fun i => b ++ [i]).length = l.length * n := by
      intro l
      induction l with
      | nil => simp
      | cons a l ih => rw [List.flatMap_cons, List.length_append, ih, List.length_map, rangeI_len, List.length_cons, Nat.add_mul]; omega
    show ((resL n k).flatMap fun b => (rangeI n).map fun i => b ++ [i]).length = _
    rw [key, res_len2 k, Nat.pow_succ]
def E (n : Nat) (v1 v2 v3 v4 : Option Vl) : Env := [some (.d (.int (n : Nat))), v1, v2, v3, v4, none]
theorem rg_ok {n : Nat} {f : Ev} {e : Env} {N N1 : Mem} (h : f e N = .ok (.d (.int (n : Nat))) N1) (hn : n ≤ 1000) : rngI1 f e N = .ok (intsD (rangeI n)) N1 := (rngI1_a (i := ((n : Nat) : Int)) h (by omega)).trans (by rw [rangeD_int])
noncomputable def sB : Sv := (setS 3 (datE (catE (getV 3) (datE (lcE [5] (rngI1 (getV 0)) (setT 5) (fun _ M => .ok true M) (op2 addAV (getV 4) (tupE (consA (getV 5) nilA))))))))
noncomputable def sA : Sv := (seqS (setS 3 (datE (dispE nilA))) (seqS (forS (seqI (getV 1)) (setT 4) sB) (setS 1 (getV 3))))
theorem lc_res {n : Nat} (hn : n ≤ 4) {b : List Int} (hb : b.length ≤ 5) (v1 v2 v3 : Option Vl) (N : Mem) : lcE [5] (rngI1 (getV 0)) (setT 5) (fun _ M => .ok true M) (op2 addAV (getV 4) (tupE (consA (getV 5) nilA))) (E n v1 v2 v3 (some (.d (kr b)))) N = .ok (krs ((rangeI n).map fun i => b ++ [i])) N := by
  have hsz : sizeLine = 2 ^ 24 := rfl
  have hr := rg_ok (n := n) (f := getV 0) (e := E n v1 v2 v3 (some (.d (kr b)))) (N := N) (N1 := N) rfl (by omega)
  rw [lcE_at hr]
  rw [lcL_filter (fun _ => true) (fun z => match z with | .int x => kr (b ++ [x]) | _ => .none) _ _ (by rw [hsz]; simp [rangeI_len]; omega) (fun z hz => by
    obtain ⟨x, hx, rfl⟩ := List.mem_map.mp hz
    refine ⟨[some (.d (.int (n : Nat))), v1, v2, v3, some (.d (kr b)), some (.d (.int x))], rfl, rfl, fun _ => ?_⟩
    have : addAV (.d (kr b)) (.d (.tuple [.int x])) N = .ok (.d (kr (b ++ [x]))) N := by
      unfold kr
      rw [addA_t (by rw [hsz]; simp; omega)]
      simp
    simp only [defM, startE, seqS_a, setS_a, bindS_ok, bindS_er, then_nx, then_rt, then_er, ifS_a, ifK_t, ifK_f, retS_a, dropS_a, asgS_a, asK_a, goG_ok, subT_a, nopS_a, getV_0, getV_s, cst_a, op2_a, o2a_ok, o2b_ok, opT_a, oTa_ok, oTb_ok, consA_a, cAa_ok, cAb_ok, nilA_a, callF_a, cFa_ok, callE_a, cEa_ok, newE_a, nwa_ok, datE_a, dta_ok, dispE_a, tupE_a, tpa_ok, asDs_a, datas, bind_ok, pur_ok, bool_b, leave_d, leave_nx, leave_er, ifE_a, ifa_t, ifa_f, notT_a, nta_ok, andT_a, ana_t, ana_f, orT_a, ora_t, ora_f, tstE_a, tsa_b, andE_a, aEa_t, aEa_f, orE_a, oEa_t, oEa_f, notE_a, nEa_ok, add_ii, sub_ii, gt_ii, lt_ii, ge_ii, le_ii, setT_a, consT_a, cTa_ok, nilT_a, tupT_a, seqT_t, seqT_l, forS_a, List.map_cons, List.map_nil, List.length_cons, List.length_nil, Nat.reduceAdd, Nat.reduceSub, Nat.zero_add, Nat.add_zero, List.replicate, List.cons_append, List.nil_append, List.append_nil, List.getElem?_cons_zero, List.getElem?_cons_succ, List.set_cons_zero, List.set_cons_succ, List.getElem?_nil, Option.map_some, Option.map_none, Option.bind_some, if_true, if_false, ite_true, ite_false, eq_self_iff_true, and_self, and_true, true_and, decide_true, decide_false, Bool.false_eq_true, Bool.not_true, Bool.not_false, sizeLine, Nat.reducePow, Nat.reduceLeDiff, Nat.zero_le, pow_7, pow_18, pow_40, this])]
  rw [List.nil_append, List.filter_eq_self.mpr fun _ _ => rfl]
  have e : (intsD (rangeI n)).map (fun z => match z with | .int x => kr (b ++ [x]) | _ => .none) = krs ((rangeI n).map fun i => b ++ [i]) := by
    unfold intsD krs
    rw [List.map_map, List.map_map]
    rfl
  rw [e]
theorem residues_ok {n : Nat} {M : Mem} (hn : n ≤ 4) : m_l_residues [.d (.int (n : Nat))] M = .ok (.d (.list (krs (resL n n)))) M := by
  have hsz : sizeLine = 2 ^ 24 := rfl
  obtain ⟨e', M', el, v2, v3, v4, rfl, hMM⟩ := forL_all (γ := setT 2) (g := sA)
    (fun k e N => ∃ v2 v3 v4 : Option Vl, e = E n (some (.d (.list (krs (resL n k))))) v2 v3 v4 ∧ M = N)
    (xs := intsD (rangeI n)) (e := E n (some (.d (.list (krs (resL n 0))))) none none none) (M := M)
    (by
      rintro k z e N hz ⟨v2, v3, v4, rfl, rfl⟩
      have hk : k < n := by
        have := lt_of_getL hz
        simpa [rangeI_len] using this
      have hFl : (resL n k).length ≤ 256 := by
        rw [res_len2]
        have h1 : n ^ k ≤ 4 ^ k := Nat.pow_le_pow_left hn k
        have h2 : (4 : Nat) ^ k ≤ 4 ^ 4 := Nat.pow_le_pow_right (by decide) (by omega)
        omega
      have hFb : ∀ b ∈ resL n k, b.length ≤ 5 := fun b hb => by
        rw [(mem_res.mp hb).1]
        omega
      have hso : resL n (k + 1) = (resL n k).flatMap fun b => (rangeI n).map fun i => b ++ [i] := rfl
      rw [hso]
      generalize resL n k = F at *
      obtain ⟨e2, M2, el2, w4, rfl, hM2⟩ := forL_all (γ := setT 4) (g := sB)
        (fun j e N' => ∃ v4 : Option Vl, e = E n (some (.d (.list (krs F)))) (some (.d z)) (some (.d (.list (krs ((F.take j).flatMap fun b => (rangeI n).map fun i => b ++ [i]))))) v4 ∧ M = N')
        (xs := krs F) (e := E n (some (.d (.list (krs F)))) (some (.d z)) (some (.d (.list []))) v4) (M := M)
        (by
          rintro j y e N' hy ⟨v4, rfl, rfl⟩
          rw [List.getElem?_map] at hy
          obtain ⟨b, hb, rfl⟩ := Option.map_eq_some_iff.mp hy
          have hbm := List.mem_of_getElem? hb
          have hq := lc_res (n := n) hn (hFb b hbm) (some (.d (.list (krs F)))) (some (.d z)) (some (.d (.list (krs ((F.take j).flatMap fun b => (rangeI n).map fun i => b ++ [i]))))) M
          have ht : F.take (j + 1) = F.take j ++ [b] := by
            rw [List.take_add_one, hb]; rfl
          have hst : krs ((F.take (j + 1)).flatMap fun b => (rangeI n).map fun i => b ++ [i]) = krs ((F.take j).flatMap fun b => (rangeI n).map fun i => b ++ [i]) ++ krs ((rangeI n).map fun i => b ++ [i]) := by
            rw [ht, List.flatMap_append, List.flatMap_cons, List.flatMap_nil, List.append_nil]
            unfold krs
            rw [List.map_append]
          have hlen : (krs ((F.take j).flatMap fun b => (rangeI n).map fun i => b ++ [i])).length ≤ 256 * 4 := by
            rw [List.length_map]
            have h1 := T.flat_len (fun b : List Int => (rangeI n).map fun i => b ++ [i]) 4 (F.take j) fun b _ => by rw [List.length_map, rangeI_len]; exact hn
            have h2 : (F.take j).length ≤ 256 := by rw [List.length_take]; omega
            omega
          have hlen2 : (krs ((rangeI n).map fun i => b ++ [i])).length ≤ 4 := by rw [List.length_map, List.length_map, rangeI_len]; exact hn
          rw [hst]
          generalize krs ((F.take j).flatMap fun b => (rangeI n).map fun i => b ++ [i]) = A at *
          generalize krs ((rangeI n).map fun i => b ++ [i]) = B at *
          have hAB : A.length + B.length ≤ 16777216 := by omega
          simp only [E] at hq
          refine ⟨E n (some (.d (.list (krs F)))) (some (.d z)) (some (.d (.list A))) (some (.d (kr b))), M, E n (some (.d (.list (krs F)))) (some (.d z)) (some (.d (.list (A ++ B)))) (some (.d (kr b))), M, rfl, ?_, _, rfl, rfl⟩
          generalize kr b = KB at *
          unfold sB
          simp only [E]
          simp only [defM, startE, seqS_a, setS_a, bindS_ok, bindS_er, then_nx, then_rt, then_er, ifS_a, ifK_t, ifK_f, retS_a, dropS_a, asgS_a, asK_a, goG_ok, subT_a, nopS_a, getV_0, getV_s, cst_a, op2_a, o2a_ok, o2b_ok, opT_a, oTa_ok, oTb_ok, consA_a, cAa_ok, cAb_ok, nilA_a, callF_a, cFa_ok, callE_a, cEa_ok, newE_a, nwa_ok, datE_a, dta_ok, dispE_a, tupE_a, tpa_ok, asDs_a, datas, bind_ok, pur_ok, bool_b, leave_d, leave_nx, leave_er, ifE_a, ifa_t, ifa_f, notT_a, nta_ok, andT_a, ana_t, ana_f, orT_a, ora_t, ora_f, tstE_a, tsa_b, andE_a, aEa_t, aEa_f, orE_a, oEa_t, oEa_f, notE_a, nEa_ok, add_ii, sub_ii, gt_ii, lt_ii, ge_ii, le_ii, setT_a, consT_a, cTa_ok, nilT_a, tupT_a, seqT_t, seqT_l, forS_a, List.map_cons, List.map_nil, List.length_cons, List.length_nil, Nat.reduceAdd, Nat.reduceSub, Nat.zero_add, Nat.add_zero, List.replicate, List.cons_append, List.nil_append, List.append_nil, List.getElem?_cons_zero, List.getElem?_cons_succ, List.set_cons_zero, List.set_cons_succ, List.getElem?_nil, Option.map_some, Option.map_none, Option.bind_some, if_true, if_false, ite_true, ite_false, eq_self_iff_true, and_self, and_true, true_and, decide_true, decide_false, Bool.false_eq_true, Bool.not_true, Bool.not_false, sizeLine, Nat.reducePow, Nat.reduceLeDiff, Nat.zero_le, pow_7, pow_18, pow_40, catE_a, cta_l, hq, ctb_l, hAB])
        ⟨v4, by simp, rfl⟩
      subst hM2
      rw [List.length_map, List.take_length] at el2
      have hsq : seqI (getV 1) (E n (some (.d (.list (krs F)))) (some (.d z)) (some (.d (.list []))) v4) M = .ok (krs F) M := seqI_a (x := .d (.list (krs F))) rfl rfl
      simp only [E] at hsq el2
      refine ⟨E n (some (.d (.list (krs F)))) (some (.d z)) v3 v4, M, _, M, rfl, ?_, some (.d z), some (.d (.list (krs (F.flatMap fun b => (rangeI n).map fun i => b ++ [i])))), w4, rfl, rfl⟩
      simp only [E]
      unfold sA
      generalize krs (F.flatMap fun b => (rangeI n).map fun i => b ++ [i]) = FF at *
      simp only [defM, startE, seqS_a, setS_a, bindS_ok, bindS_er, then_nx, then_rt, then_er, ifS_a, ifK_t, ifK_f, retS_a, dropS_a, asgS_a, asK_a, goG_ok, subT_a, nopS_a, getV_0, getV_s, cst_a, op2_a, o2a_ok, o2b_ok, opT_a, oTa_ok, oTb_ok, consA_a, cAa_ok, cAb_ok, nilA_a, callF_a, cFa_ok, callE_a, cEa_ok, newE_a, nwa_ok, datE_a, dta_ok, dispE_a, tupE_a, tpa_ok, asDs_a, datas, bind_ok, pur_ok, bool_b, leave_d, leave_nx, leave_er, ifE_a, ifa_t, ifa_f, notT_a, nta_ok, andT_a, ana_t, ana_f, orT_a, ora_t, ora_f, tstE_a, tsa_b, andE_a, aEa_t, aEa_f, orE_a, oEa_t, oEa_f, notE_a, nEa_ok, add_ii, sub_ii, gt_ii, lt_ii, ge_ii, le_ii, setT_a, consT_a, cTa_ok, nilT_a, tupT_a, seqT_t, seqT_l, forS_a, List.map_cons, List.map_nil, List.length_cons, List.length_nil, Nat.reduceAdd, Nat.reduceSub, Nat.zero_add, Nat.add_zero, List.replicate, List.cons_append, List.nil_append, List.append_nil, List.getElem?_cons_zero, List.getElem?_cons_succ, List.set_cons_zero, List.set_cons_succ, List.getElem?_nil, Option.map_some, Option.map_none, Option.bind_some, if_true, if_false, ite_true, ite_false, eq_self_iff_true, and_self, and_true, true_and, decide_true, decide_false, Bool.false_eq_true, Bool.not_true, Bool.not_false, sizeLine, Nat.reducePow, Nat.reduceLeDiff, Nat.zero_le, pow_7, pow_18, pow_40, hsq, el2])
    ⟨none, none, none, rfl, rfl⟩
  subst hMM
  have hrl : (intsD (rangeI n)).length = n := by unfold intsD; rw [List.length_map, rangeI_len]
  rw [hrl] at el
  have hr := rg_ok (n := n) (f := getV 0) (e := E n (some (.d (.list (krs (resL n 0))))) none none none) (N := M) (N1 := M) rfl (by omega)
  have e0 : krs (resL n 0) = [.tuple []] := rfl
  rw [e0] at el hr
  generalize krs (resL n n) = RR at *
  simp only [E] at hr el
  unfold sA sB at el
  unfold m_l_residues g_l_residues
  simp only [defM, startE, seqS_a, setS_a, bindS_ok, bindS_er, then_nx, then_rt, then_er, ifS_a, ifK_t, ifK_f, retS_a, dropS_a, asgS_a, asK_a, goG_ok, subT_a, nopS_a, getV_0, getV_s, cst_a, op2_a, o2a_ok, o2b_ok, opT_a, oTa_ok, oTb_ok, consA_a, cAa_ok, cAb_ok, nilA_a, callF_a, cFa_ok, callE_a, cEa_ok, newE_a, nwa_ok, datE_a, dta_ok, dispE_a, tupE_a, tpa_ok, asDs_a, datas, bind_ok, pur_ok, bool_b, leave_d, leave_nx, leave_er, ifE_a, ifa_t, ifa_f, notT_a, nta_ok, andT_a, ana_t, ana_f, orT_a, ora_t, ora_f, tstE_a, tsa_b, andE_a, aEa_t, aEa_f, orE_a, oEa_t, oEa_f, notE_a, nEa_ok, add_ii, sub_ii, gt_ii, lt_ii, ge_ii, le_ii, setT_a, consT_a, cTa_ok, nilT_a, tupT_a, seqT_t, seqT_l, forS_a, List.map_cons, List.map_nil, List.length_cons, List.length_nil, Nat.reduceAdd, Nat.reduceSub, Nat.zero_add, Nat.add_zero, List.replicate, List.cons_append, List.nil_append, List.append_nil, List.getElem?_cons_zero, List.getElem?_cons_succ, List.set_cons_zero, List.set_cons_succ, List.getElem?_nil, Option.map_some, Option.map_none, Option.bind_some, if_true, if_false, ite_true, ite_false, eq_self_iff_true, and_self, and_true, true_and, decide_true, decide_false, Bool.false_eq_true, Bool.not_true, Bool.not_false, sizeLine, Nat.reducePow, Nat.reduceLeDiff, Nat.zero_le, pow_7, pow_18, pow_40, hr, el]
  rw [take_all (by simp)]
theorem half_ok {n c : Nat} (hn : n ∈ [2, 3, 4]) : ((resL n n).map fun r => manyI r (c : Int)).sum = allI n c ∧ ((((resL n n).map fun r => manyI r (c : Int)).filter fun x => decide (0 < x)).length : Int) = lotsI n c := by
  have h0 : 0 < n := by
    simp only [List.mem_cons, List.not_mem_nil, or_false] at hn
    omega
  have h4 : n ≤ 12 := by
    simp only [List.mem_cons, List.not_mem_nil, or_false] at hn
    omega
  refine ⟨by rw [sum_many h0, st_length hn, all_eq h0 h4], ?_⟩
  rw [← (cnt_cases (c := (c : Int)) hn (by omega)).2, List.filter_map, List.length_map]
  congr 2
  refine List.filter_congr fun r _ => ?_
  show decide (0 < manyI r (c : Int)) = U.pB c r
  unfold U.pB
  rw [many_C]
end K26
end DL
namespace DL
namespace K26
open PySem PySem.Spec L2 DL DL.C NM DL.N DL.T DL.U
theorem mod_fact {m l k S T D : Int} (h : m * D + l = S - T) (j : Int) : (l + m * k + j - S + T) % m = j % m := by
  have e : l + m * k + j - S + T = j + m * (k - D) := by
    rw [Int.mul_sub]
    omega
  rw [e, Int.add_mul_emod_self_left]
theorem right_ok (i : Nat) (M : Mem) (o : MO) (hM : M[i]? = some o) (hB : Bx 0 o) (hfl : ∀ m ∈ M, flatM m) : ∃ o', m_right [.h i] M = .ok (.d (.bool true)) (M.set i o') ∧ flatM o' := by
  have hsz : sizeLine = 2 ^ 24 := rfl
  have hi := lt_of_get hM
  obtain ⟨v, o1, e1, B1, v0, v1⟩ := take10 (sp := 3) hM hB (by omega) (by decide) (by omega)
  obtain ⟨w, rfl⟩ := Int.eq_ofNat_of_zero_le v0
  obtain ⟨P40, hP40, p40⟩ := DL.B.pow_p 40 (by decide)
  obtain ⟨P38, hP38, p38⟩ := DL.B.pow_p 38 (by decide)
  obtain ⟨d, o2, e2, B2, hd⟩ := of_ok (xs := [.int 4, .int 12, nD P40]) (getM (o' := o1) hM) B1 (by omega) (by simp) (by simp)
  obtain ⟨top, rfl, ht0, ht1⟩ : ∃ top : Nat, d = nD top ∧ 0 < top ∧ top ≤ P40 := by
    simp only [List.mem_cons, List.not_mem_nil, or_false] at hd
    rcases hd with rfl | rfl | rfl
    · exact ⟨4, rfl, by decide, by rw [hP40]; decide⟩
    · exact ⟨12, rfl, by decide, by rw [hP40]; decide⟩
    · exact ⟨P40, rfl, by rw [hP40]; decide, Nat.le_refl _⟩
  obtain ⟨u, o3, e3, B3, u0, u1⟩ := take10 (sp := (top : Int)) (getM (o' := o2) hM) B2 (by omega) (by omega) (by omega)
  obtain ⟨c, rfl⟩ := Int.eq_ofNat_of_zero_le u0
  rw [List.set_set] at e2 e3
  have hnl : 2 + w ∈ [2, 3, 4] := by
    have : w = 0 ∨ w = 1 ∨ w = 2 := by omega
    rcases this with rfl | rfl | rfl <;> decide
  have hw2 : (2 : Int) + (w : Int) = ((2 + w : Nat) : Int) := by omega
  generalize hn : 2 + w = n at *
  have hn4 : n ≤ 4 := by omega
  have hc60 : c ≤ 10 ^ 60 := by
    have : (10 : Nat) ^ 40 ≤ 10 ^ 60 := by decide
    omega
  have hres := fun N : Mem => residues_ok (M := N) hn4
  have hst := fun N : Mem => states_many_ok (n := n) (c := c) (M := N) (by omega) (by omega) hc60
  have hlo := fun N : Mem => lots_ok (n := n) (c := (c : Int)) (M := N) (by omega) (by omega)
  obtain ⟨hh1, hh2⟩ := half_ok (n := n) (c := c) hnl
  have hrl : (resL n n).length ≤ 256 := by
    rw [res_len2]
    have h1 : n ^ n ≤ 4 ^ n := Nat.pow_le_pow_left hn4 n
    have h2 : (4 : Nat) ^ n ≤ 4 ^ 4 := Nat.pow_le_pow_right (by decide) hn4
    omega
  let E5 (v3 v4 v5 v6 v7 v8 v9 : Option Vl) : Env := [some (.h i), some (.d (.int (n : Nat))), some (.d (.int (c : Nat))), v3, v4, v5, v6, v7, v8, v9]
  have hlc : lcE [5] (seqI (callF 1 m_l_residues (consA (getV 1) nilA))) (setT 5) (fun _ M => .ok true M) (callF 2 C.m_many_with (consA (getV 5) (consA (getV 2) nilA))) (E5 none none none none none none none) (M.set i o3) = .ok (intsD ((resL n n).map fun r => manyI r (c : Int))) (M.set i o3) := by
    rw [intsD, List.map_map]
    refine S.lc_list (l := resL n n) kr (PyData.int ∘ fun r => manyI r (c : Int)) (M1 := M.set i o3) ?_ (by omega) fun r hr => ?_
    · refine seqI_a (x := .d (.list (krs (resL n n)))) ?_ rfl
      have := hres (M.set i o3)
      generalize krs (resL n n) = RR at *
      simp only [E5]
      simp only [defM, startE, seqS_a, setS_a, bindS_ok, bindS_er, then_nx, then_rt, then_er, ifS_a, ifK_t, ifK_f, retS_a, dropS_a, asgS_a, asK_a, goG_ok, subT_a, nopS_a, getV_0, getV_s, cst_a, op2_a, o2a_ok, o2b_ok, opT_a, oTa_ok, oTb_ok, consA_a, cAa_ok, cAb_ok, nilA_a, callF_a, cFa_ok, callE_a, cEa_ok, newE_a, nwa_ok, datE_a, dta_ok, dispE_a, tupE_a, tpa_ok, asDs_a, datas, bind_ok, pur_ok, bool_b, leave_d, leave_nx, leave_er, ifE_a, ifa_t, ifa_f, notT_a, nta_ok, andT_a, ana_t, ana_f, orT_a, ora_t, ora_f, tstE_a, tsa_b, andE_a, aEa_t, aEa_f, orE_a, oEa_t, oEa_f, notE_a, nEa_ok, add_ii, sub_ii, gt_ii, lt_ii, ge_ii, le_ii, setT_a, consT_a, cTa_ok, nilT_a, tupT_a, seqT_t, seqT_l, forS_a, List.map_cons, List.map_nil, List.length_cons, List.length_nil, Nat.reduceAdd, Nat.reduceSub, Nat.zero_add, Nat.add_zero, List.replicate, List.cons_append, List.nil_append, List.append_nil, List.getElem?_cons_zero, List.getElem?_cons_succ, List.set_cons_zero, List.set_cons_succ, List.getElem?_nil, Option.map_some, Option.map_none, Option.bind_some, if_true, if_false, ite_true, ite_false, eq_self_iff_true, and_self, and_true, true_and, decide_true, decide_false, Bool.false_eq_true, Bool.not_true, Bool.not_false, sizeLine, Nat.reducePow, Nat.reduceLeDiff, Nat.zero_le, pow_7, pow_18, pow_40, this]
    · obtain ⟨h1, h2⟩ := mem_res.mp hr
      have hmw := C.many_ok (M := M.set i o3) (x := .d (.tuple (intsD r))) (rs := r) (K := (c : Int)) (.inr rfl) (by omega) (by omega) (fun m hm => by have := h2 m hm; omega) (by
        have : (10 : Nat) ^ 60 ≤ 2 ^ 240 := by decide
        rw [Int.natAbs_natCast]
        omega)
      refine ⟨E5 none none (some (.d (kr r))) none none none none, rfl, rfl, ?_⟩
      have hk : kr r = .tuple (intsD r) := rfl
      rw [hk]
      simp only [E5]
      generalize intsD r = RR at *
      simp only [defM, startE, seqS_a, setS_a, bindS_ok, bindS_er, then_nx, then_rt, then_er, ifS_a, ifK_t, ifK_f, retS_a, dropS_a, asgS_a, asK_a, goG_ok, subT_a, nopS_a, getV_0, getV_s, cst_a, op2_a, o2a_ok, o2b_ok, opT_a, oTa_ok, oTb_ok, consA_a, cAa_ok, cAb_ok, nilA_a, callF_a, cFa_ok, callE_a, cEa_ok, newE_a, nwa_ok, datE_a, dta_ok, dispE_a, tupE_a, tpa_ok, asDs_a, datas, bind_ok, pur_ok, bool_b, leave_d, leave_nx, leave_er, ifE_a, ifa_t, ifa_f, notT_a, nta_ok, andT_a, ana_t, ana_f, orT_a, ora_t, ora_f, tstE_a, tsa_b, andE_a, aEa_t, aEa_f, orE_a, oEa_t, oEa_f, notE_a, nEa_ok, add_ii, sub_ii, gt_ii, lt_ii, ge_ii, le_ii, setT_a, consT_a, cTa_ok, nilT_a, tupT_a, seqT_t, seqT_l, forS_a, List.map_cons, List.map_nil, List.length_cons, List.length_nil, Nat.reduceAdd, Nat.reduceSub, Nat.zero_add, Nat.add_zero, List.replicate, List.cons_append, List.nil_append, List.append_nil, List.getElem?_cons_zero, List.getElem?_cons_succ, List.set_cons_zero, List.set_cons_succ, List.getElem?_nil, Option.map_some, Option.map_none, Option.bind_some, if_true, if_false, ite_true, ite_false, eq_self_iff_true, and_self, and_true, true_and, decide_true, decide_false, Bool.false_eq_true, Bool.not_true, Bool.not_false, sizeLine, Nat.reducePow, Nat.reduceLeDiff, Nat.zero_le, pow_7, pow_18, pow_40, hmw]
      rfl
  have hlf : ∀ N : Mem, lcE [8] (seqI (getV 3)) (setT 8) (opT gtV (getV 8) (cst (.d (.int 0)))) (getV 8) (E5 (some (.d (.list (intsD ((resL n n).map fun r => manyI r (c : Int)))))) none none none none none none) N = .ok (intsD (((resL n n).map fun r => manyI r (c : Int)).filter fun x => decide (0 < x))) N := fun N => by
    refine lc_filter (fun x => decide (0 < x)) (M1 := N) (seqI_a rfl rfl) (by rw [List.length_map]; omega) fun a _ => ?_
    refine ⟨E5 (some (.d (.list (intsD ((resL n n).map fun r => manyI r (c : Int)))))) none none none none (some (.d (.int a))) none, rfl, ?_, rfl⟩
    generalize intsD ((resL n n).map fun r => manyI r (c : Int)) = RR
    simp only [E5]
    simp only [defM, startE, seqS_a, setS_a, bindS_ok, bindS_er, then_nx, then_rt, then_er, ifS_a, ifK_t, ifK_f, retS_a, dropS_a, asgS_a, asK_a, goG_ok, subT_a, nopS_a, getV_0, getV_s, cst_a, op2_a, o2a_ok, o2b_ok, opT_a, oTa_ok, oTb_ok, consA_a, cAa_ok, cAb_ok, nilA_a, callF_a, cFa_ok, callE_a, cEa_ok, newE_a, nwa_ok, datE_a, dta_ok, dispE_a, tupE_a, tpa_ok, asDs_a, datas, bind_ok, pur_ok, bool_b, leave_d, leave_nx, leave_er, ifE_a, ifa_t, ifa_f, notT_a, nta_ok, andT_a, ana_t, ana_f, orT_a, ora_t, ora_f, tstE_a, tsa_b, andE_a, aEa_t, aEa_f, orE_a, oEa_t, oEa_f, notE_a, nEa_ok, add_ii, sub_ii, gt_ii, lt_ii, ge_ii, le_ii, setT_a, consT_a, cTa_ok, nilT_a, tupT_a, seqT_t, seqT_l, forS_a, List.map_cons, List.map_nil, List.length_cons, List.length_nil, Nat.reduceAdd, Nat.reduceSub, Nat.zero_add, Nat.add_zero, List.replicate, List.cons_append, List.nil_append, List.append_nil, List.getElem?_cons_zero, List.getElem?_cons_succ, List.set_cons_zero, List.set_cons_succ, List.getElem?_nil, Option.map_some, Option.map_none, Option.bind_some, if_true, if_false, ite_true, ite_false, eq_self_iff_true, and_self, and_true, true_and, decide_true, decide_false, Bool.false_eq_true, Bool.not_true, Bool.not_false, sizeLine, Nat.reducePow, Nat.reduceLeDiff, Nat.zero_le, pow_7, pow_18, pow_40]
  have hsm : ∀ N : Mem, sumTV [.d (.list (intsD ((resL n n).map fun r => manyI r (c : Int))))] N = .ok (.d (.int (allI n c))) N := fun N => by rw [sum_l, hh1]
  have hln : ∀ N : Mem, lenV [.d (.list (intsD (((resL n n).map fun r => manyI r (c : Int)).filter fun x => decide (0 < x))))] N = .ok (.d (.int (lotsI n c))) N := fun N => by
    rw [len_l, ← hh2]
    unfold intsD
    rw [List.length_map]
  generalize intsD ((resL n n).map fun r => manyI r (c : Int)) = RM at *
  generalize intsD (((resL n n).map fun r => manyI r (c : Int)).filter fun x => decide (0 < x)) = RF at *
  generalize allI n c = AL at *
  generalize lotsI n c = LO at *
  -- the other half
  obtain ⟨v', o4, e4, B4, v0', v1'⟩ := take10 (sp := 11) (getM (o' := o3) hM) B3 (by omega) (by decide) (by omega)
  obtain ⟨w', rfl⟩ := Int.eq_ofNat_of_zero_le v0'
  rw [List.set_set] at e4
  have hw2' : (2 : Int) + (w' : Int) = ((2 + w' : Nat) : Int) := by omega
  have hm12 : 2 ≤ 2 + w' ∧ 2 + w' ≤ 12 := by omega
  generalize 2 + w' = m at *
  obtain ⟨zs, o5, e5, B5, hzl, hz⟩ := draws_g (a := 9) (b := 4) (n := m) (ew := E5 (some (.d (.list RM))) (some (.d (.int (m : Nat)))) none none none none none) (getM (o' := o4) hM) B4 (by omega) (by omega) (by omega) (fun v N => rfl) (fun v N => rfl) rfl
  rw [List.set_set] at e5
  obtain ⟨d2, o6, e6, B6, hd2⟩ := of_ok (xs := [.int 4, .int 15, nD P38]) (getM (o' := o5) hM) B5 (by omega) (by simp) (by simp)
  obtain ⟨top2, rfl, ht20, ht21⟩ : ∃ top : Nat, d2 = nD top ∧ 0 < top ∧ top ≤ P38 := by
    simp only [List.mem_cons, List.not_mem_nil, or_false] at hd2
    rcases hd2 with rfl | rfl | rfl
    · exact ⟨4, rfl, by decide, by rw [hP38]; decide⟩
    · exact ⟨15, rfl, by decide, by rw [hP38]; decide⟩
    · exact ⟨P38, rfl, by rw [hP38]; decide, Nat.le_refl _⟩
  obtain ⟨u', o7, e7, B7, u0', u1'⟩ := take10 (sp := (top2 : Int)) (getM (o' := o6) hM) B6 (by omega) (by omega) (by
    have h2 : (P38 : Int) ≤ 10 ^ 70 := by rw [hP38]; decide
    omega)
  obtain ⟨k, rfl⟩ := Int.eq_ofNat_of_zero_le u0'
  rw [List.set_set] at e6 e7
  -- the total
  have hsum0 := sum_nn zs fun z hzz => (hz z hzz).1
  have hT : (m : Int) * ((m : Int) - 1) / 2 = ((m * (m - 1) / 2 : Nat) : Int) := by
    rw [Int.natCast_ediv, Int.natCast_mul, show ((m - 1 : Nat) : Int) = (m : Int) - 1 by omega]
    rfl
  have hl0 := Int.emod_nonneg (zs.sum - (m : Int) * ((m : Int) - 1) / 2) (b := (m : Int)) (by omega)
  have hl1 := Int.emod_lt_of_pos (zs.sum - (m : Int) * ((m : Int) - 1) / 2) (show (0 : Int) < m by omega)
  have hlm := Int.mul_ediv_add_emod (zs.sum - (m : Int) * ((m : Int) - 1) / 2) (m : Int)
  obtain ⟨l, hl⟩ := Int.eq_ofNat_of_zero_le hl0
  rw [hl] at hl0 hl1 hlm
  have hmod : ∀ j : Int, ((((l + m * k : Nat) : Int) + j) - zs.sum + (m : Int) * ((m : Int) - 1) / 2) % (m : Int) = j % (m : Int) := fun j => by
    rw [Int.natCast_add, Int.natCast_mul]
    exact mod_fact hlm j
  have hcb : l + m * k ≤ 2 ^ 230 := by
    have h1 : m * k ≤ 12 * 10 ^ 38 := Nat.mul_le_mul hm12.2 (by rw [← hP38]; omega)
    have h2 : 12 * 10 ^ 38 + 12 ≤ 2 ^ 230 := by decide
    omega
  have hmm : m * m ≤ 144 := Nat.mul_le_mul hm12.2 hm12.2
  have hmany : ∀ (xs : List Int) (j : Nat) (N : Mem), xs.length = m → (∀ z ∈ xs, 0 ≤ z ∧ z < (m : Int)) → j ≤ 200 → C.m_many_with [.d (.tuple (intsD xs)), .d (.int ((l + m * k + j : Nat) : Int))] N = .ok (.d (.int (manyI xs ((l + m * k + j : Nat) : Int)))) N := fun xs j N h1 h2 hj => C.many_ok (.inr rfl) (by omega) (by omega) (fun r hr => by have := h2 r hr; omega) (by
    have h2 : (2 : Nat) ^ 230 + 200 ≤ 2 ^ 240 := by decide
    rw [Int.natAbs_natCast]
    omega)
  obtain ⟨ys, o8, e8, B8, hperm⟩ := strewn_tup (xs := intsD zs) (getM (o' := o7) hM) B7 (by simp [hzl]; omega) (by simp [hzl]; omega) (fun x hx => by
    obtain ⟨z, _, rfl⟩ := List.mem_map.mp hx
    rfl)
  rw [List.set_set] at e8
  obtain ⟨ys', rfl⟩ : ∃ ys' : List Int, ys = intsD ys' := by
    have : ∀ y ∈ ys, ∃ z : Int, y = .int z := fun y hy => by
      obtain ⟨z, _, e⟩ := List.mem_map.mp (hperm.mem_iff.mp hy)
      exact ⟨z, e.symm⟩
    clear e8 hperm
    induction ys with
    | nil => exact ⟨[], rfl⟩
    | cons y ys ih =>
      obtain ⟨z, rfl⟩ := this y List.mem_cons_self
      obtain ⟨l, rfl⟩ := ih fun y hy => this y (List.mem_cons_of_mem _ hy)
      exact ⟨z :: l, rfl⟩
  have hp2 : ys'.Perm zs := by
    have h1 := hperm.map (fun d : PyData => match d with | .int z => z | _ => 0)
    unfold intsD at h1
    rw [List.map_map, List.map_map] at h1
    have e : ((fun d : PyData => match d with | .int z => z | _ => 0) ∘ PyData.int) = (id : Int → Int) := rfl
    rw [e, List.map_id, List.map_id] at h1
    exact h1
  obtain ⟨v9, o9, e9, B9, v90, v91⟩ := take10 (sp := (m : Int) - 1) (getM (o' := o8) hM) B8 (by simp [hzl]; omega) (by omega) (by omega)
  obtain ⟨j, rfl⟩ := Int.eq_ofNat_of_zero_le v90
  rw [List.set_set] at e9
  have m0 := fun N : Mem => hmany zs 0 N hzl hz (by omega)
  have m1 := fun N : Mem => hmany ys' 0 N (by rw [hp2.length_eq, hzl]) (fun z hz' => hz z (hp2.mem_iff.mp hz')) (by omega)
  have m2 := fun N : Mem => hmany zs m N hzl hz (by omega)
  have m3 := fun N : Mem => hmany zs (1 + j) N hzl hz (by omega)
  have m4 := fun N : Mem => hmany zs (m * m) N hzl hz (by omega)
  rw [many_perm hp2] at m1
  have hmore := many_more (n := m) (c := l + m * k) (r := zs) (by omega) hzl hz
  rw [Nat.add_zero] at m0 m1
  have hz3 : manyI zs ((l + m * k + (1 + j) : Nat) : Int) = 0 := many_zero hzl (by
    rw [Int.natCast_add, hmod, Int.emod_eq_of_lt (by omega) (by omega)]
    omega)
  have hz4 : 0 < manyI zs ((l + m * k + m * m : Nat) : Int) := many_far (by omega) hzl hz (by
    rw [Int.natCast_add, hmod, Int.natCast_mul, Int.mul_emod_right]) (by
    rw [Int.natCast_add, Int.natCast_mul m m, Int.mul_sub]
    omega)
  rw [hz3] at m3
  have hsub : ∀ N : Mem, mulV (.d (.int (m : Nat))) (.d (.int ((m : Int) - 1))) N = .ok (.d (.int ((m : Int) * ((m : Int) - 1)))) N := fun N => mul_ii (.inl (by omega))
  have hfd : ∀ N : Mem, fdivV (.d (.int ((m : Int) * ((m : Int) - 1)))) (.d (.int 2)) N = .ok (.d (.int ((m : Int) * ((m : Int) - 1) / 2))) N := fun N => fdiv_ii (by decide) (by decide)
  have hmo : ∀ N : Mem, modV (.d (.int (zs.sum - (m : Int) * ((m : Int) - 1) / 2))) (.d (.int (m : Nat))) N = .ok (.d (.int (l : Nat))) N := fun N => by rw [mod_ii (by omega), hl]
  have hmk : ∀ N : Mem, mulV (.d (.int (m : Nat))) (.d (.int (k : Nat))) N = .ok (.d (.int ((m : Int) * (k : Int)))) N := fun N => mul_ii (.inl (by omega))
  have hmm2 : ∀ N : Mem, mulV (.d (.int (m : Nat))) (.d (.int (m : Nat))) N = .ok (.d (.int ((m : Int) * (m : Int)))) N := fun N => mul_ii (.inl (by omega))
  have q0 : ((l + m * k : Nat) : Int) = (l : Int) + (m : Int) * (k : Int) := by push_cast; rfl
  have q2 : ((l + m * k + m : Nat) : Int) = (l : Int) + (m : Int) * (k : Int) + (m : Int) := by push_cast; rfl
  have q3 : ((l + m * k + (1 + j) : Nat) : Int) = (l : Int) + (m : Int) * (k : Int) + 1 + (j : Int) := by push_cast; omega
  have q4 : ((l + m * k + m * m : Nat) : Int) = (l : Int) + (m : Int) * (k : Int) + (m : Int) * (m : Int) := by push_cast; rfl
  rw [q0, q2] at hmore
  rw [q4] at hz4 m4
  rw [q0] at m0 m1
  rw [q2] at m2
  rw [q3] at m3
  have hszs : ∀ N : Mem, sumTV [.d (.tuple (intsD zs))] N = .ok (.d (.int zs.sum)) N := fun N => sum_t
  have htup1 : ∀ N : Mem, tupleV [.d (.list (intsD zs))] N = .ok (.d (.tuple (intsD zs))) N := fun N => Eq.trans rfl rfl
  have htup2 : ∀ N : Mem, tupleV [.d (.list (intsD ys'))] N = .ok (.d (.tuple (intsD ys'))) N := fun N => Eq.trans rfl rfl
  refine ⟨o9, ?_, bx_flat B9⟩
  generalize manyI zs ((l : Int) + (m : Int) * (k : Int)) = Y0 at *
  generalize manyI zs ((l : Int) + (m : Int) * (k : Int) + (m : Int)) = Y2 at *
  generalize manyI zs ((l : Int) + (m : Int) * (k : Int) + (m : Int) * (m : Int)) = Y4 at *
  generalize intsD zs = ZS at *
  generalize intsD ys' = YS at *
  generalize zs.sum = S at *
  generalize (m : Int) * ((m : Int) - 1) / 2 = T2 at *
  generalize (m : Int) * ((m : Int) - 1) = T1 at *
  generalize (m : Int) * (m : Int) = mm at *
  generalize (m : Int) * (k : Int) = mk at *
  simp only [E5] at hlc hlf e5
  have p40' : ∀ N : Mem, powV (.d (.int 10)) (.d (.int 40)) N = .ok (.d (nD P40)) N := p40
  have p38' : ∀ N : Mem, powV (.d (.int 10)) (.d (.int 38)) N = .ok (.d (nD P38)) N := p38
  have e3' : C.m_take 10 [.h i, .d (nD top)] (M.set i o2) = .ok (.d (.int (c : Nat))) (M.set i o3) := e3
  have e7' : C.m_take 10 [.h i, .d (nD top2)] (M.set i o6) = .ok (.d (.int (k : Nat))) (M.set i o7) := e7
  generalize nD P40 = NP40 at *
  generalize nD P38 = NP38 at *
  generalize nD top = NT at *
  generalize nD top2 = NT2 at *
  have h1 : ¬ Y2 < Y0 := by omega
  have h2 : (!(AL == AL)) = false := by simp
  have h3 : (!(LO == LO)) = false := by simp
  have h4 : (!(Y0 == Y0)) = false := by simp
  have h5 : Y4 > 0 := hz4
  unfold m_right g_right
  simp only [defM, startE, seqS_a, setS_a, bindS_ok, bindS_er, then_nx, then_rt, then_er, ifS_a, ifK_t, ifK_f, retS_a, dropS_a, asgS_a, asK_a, goG_ok, subT_a, nopS_a, getV_0, getV_s, cst_a, op2_a, o2a_ok, o2b_ok, opT_a, oTa_ok, oTb_ok, consA_a, cAa_ok, cAb_ok, nilA_a, callF_a, cFa_ok, callE_a, cEa_ok, newE_a, nwa_ok, datE_a, dta_ok, dispE_a, tupE_a, tpa_ok, asDs_a, datas, bind_ok, pur_ok, bool_b, leave_d, leave_nx, leave_er, ifE_a, ifa_t, ifa_f, notT_a, nta_ok, andT_a, ana_t, ana_f, orT_a, ora_t, ora_f, tstE_a, tsa_b, andE_a, aEa_t, aEa_f, orE_a, oEa_t, oEa_f, notE_a, nEa_ok, add_ii, sub_ii, gt_ii, lt_ii, ge_ii, le_ii, setT_a, consT_a, cTa_ok, nilT_a, tupT_a, seqT_t, seqT_l, forS_a, List.map_cons, List.map_nil, List.length_cons, List.length_nil, Nat.reduceAdd, Nat.reduceSub, Nat.zero_add, Nat.add_zero, List.replicate, List.cons_append, List.nil_append, List.append_nil, List.getElem?_cons_zero, List.getElem?_cons_succ, List.set_cons_zero, List.set_cons_succ, List.getElem?_nil, Option.map_some, Option.map_none, Option.bind_some, if_true, if_false, ite_true, ite_false, eq_self_iff_true, and_self, and_true, true_and, decide_true, decide_false, Bool.false_eq_true, Bool.not_true, Bool.not_false, sizeLine, Nat.reducePow, Nat.reduceLeDiff, Nat.zero_le, pow_7, pow_18, pow_40, e1, hw2, p40', e2, e3', hlc, hsm, hst, ne_ii, h2, orT_a, hlf, hln, hlo, h3, e4, hw2', e5, htup1, hszs, hsub, hfd, hmo, p38', e6, e7', hmk, m0, e8, htup2, m1, h4, m2, h1, e9, m3, hmm2, m4, eq_ii, beq_self_eq_true, h5]
  rw [take_all (by simp)]
theorem law_ok (ns : List Int) (hn : ns.length ≤ 63) : ∃ M, m_law [.s (ns.map PyData.int)] [] = .ok (.d (.bool true)) M :=
  N.law_gen1 (k := 3) (right := m_right) (by decide) (by decide) right_ok ns hn
end K26
end DL
namespace DL.K26
open PySem PySem.Spec L2 DL
section
variable {P : Program} {w : World} {K : Frag} {mg : Str → Option Value} {base : Heap}
theorem ok_spreads_many {f : Addr} {fd : FuncData} (F : FunT K "spreads_many" "spreads_many" s_spreads_many f fd) (G : Gs mg)  : FnD P w K mg base 1 f fd ["rounds", "people"] N.m_spreads_many :=
  fnDD F sc_spreads_many fun cdv A outer s H E hr ga => (dss_cons (ds_if (dt_cmp opd_lt (de_var (i := 0) rfl (by first | exact Or.inl rfl | exact Or.inr (Or.inl rfl) | exact Or.inr (Or.inr rfl))) de_int) (dss_one (ds_ret de_int)) dss_nil) (dss_cons (ds_if (dt_cmp (opd_eq hr.units) (de_var (i := 1) rfl (by first | exact Or.inl rfl | exact Or.inr (Or.inl rfl) | exact Or.inr (Or.inr rfl))) de_int) (dss_one (ds_ret (de_if (dt_cmp (opd_eq hr.units) (de_var (i := 0) rfl (by first | exact Or.inl rfl | exact Or.inr (Or.inl rfl) | exact Or.inr (Or.inr rfl))) de_int) de_int de_int))) dss_nil) (dss_one (ds_ret (de_callFun cd_comb rfl G.m_comb (da_cons (de_op opd_sub (de_op opd_add (de_var (i := 0) rfl (by first | exact Or.inl rfl | exact Or.inr (Or.inl rfl) | exact Or.inr (Or.inr rfl))) (de_var (i := 1) rfl (by first | exact Or.inl rfl | exact Or.inr (Or.inl rfl) | exact Or.inr (Or.inr rfl)))) de_int) (da_cons (de_op opd_sub (de_var (i := 1) rfl (by first | exact Or.inl rfl | exact Or.inr (Or.inl rfl) | exact Or.inr (Or.inr rfl))) de_int) da_nil)))))))
theorem ok_rounds_of {f : Addr} {fd : FuncData} (F : FunT K "rounds_of" "rounds_of" s_rounds_of f fd) (G : Gs mg)  : FnD P w K mg base 1 f fd ["marks", "coins"] C.m_rounds_of :=
  fnDD F sc_rounds_of fun cdv A outer s H E hr ga => (dss_cons (ds_set (i := 2) sc_rounds_of.nd rfl (by first | exact Or.inl rfl | exact Or.inr rfl) (de_callB cd_len rfl G.b_len PySem.boot_len (da_cons (de_var (i := 0) rfl (by first | exact Or.inl rfl | exact Or.inr (Or.inl rfl) | exact Or.inr (Or.inr rfl))) da_nil))) (dss_cons (ds_set (i := 3) sc_rounds_of.nd rfl (by first | exact Or.inl rfl | exact Or.inr rfl) (de_op opd_add (de_op opd_sub (de_var (i := 1) rfl (by first | exact Or.inl rfl | exact Or.inr (Or.inl rfl) | exact Or.inr (Or.inr rfl))) (de_callB (cd_sum rfl) rfl G.b_sum PyProof.Rows.boot_sum (da_cons (de_var (i := 0) rfl (by first | exact Or.inl rfl | exact Or.inr (Or.inl rfl) | exact Or.inr (Or.inr rfl))) da_nil))) (de_op opd_fdiv (de_op opd_mul (de_var (i := 2) rfl (by first | exact Or.inl rfl | exact Or.inr (Or.inl rfl) | exact Or.inr (Or.inr rfl))) (de_op opd_sub (de_var (i := 2) rfl (by first | exact Or.inl rfl | exact Or.inr (Or.inl rfl) | exact Or.inr (Or.inr rfl))) de_int)) de_int))) (dss_cons (ds_if (dt_w (dw_or (dt_cmp opd_lt (de_var (i := 3) rfl (by first | exact Or.inl rfl | exact Or.inr (Or.inl rfl) | exact Or.inr (Or.inr rfl))) de_int) (dw_or1 (dt_cmp (opd_ne hr.units) (de_op opd_mod (de_var (i := 3) rfl (by first | exact Or.inl rfl | exact Or.inr (Or.inl rfl) | exact Or.inr (Or.inr rfl))) (de_var (i := 2) rfl (by first | exact Or.inl rfl | exact Or.inr (Or.inl rfl) | exact Or.inr (Or.inr rfl)))) de_int)))) (dss_one (ds_ret de_non)) dss_nil) (dss_one (ds_ret (de_op opd_fdiv (de_var (i := 3) rfl (by first | exact Or.inl rfl | exact Or.inr (Or.inl rfl) | exact Or.inr (Or.inr rfl))) (de_var (i := 2) rfl (by first | exact Or.inl rfl | exact Or.inr (Or.inl rfl) | exact Or.inr (Or.inr rfl)))))))))
theorem ok_up_to_rounds {f : Addr} {fd : FuncData} (F : FunT K "up_to_rounds" "up_to_rounds" s_up_to_rounds f fd) (G : Gs mg)  : FnD P w K mg base 1 f fd ["marks", "rounds"] C.m_up_to_rounds :=
  fnDD F sc_up_to_rounds fun cdv A outer s H E hr ga => (dss_cons (ds_set (i := 2) sc_up_to_rounds.nd rfl (by first | exact Or.inl rfl | exact Or.inr rfl) de_int) (dss_cons (ds_for (passes_of rfl) rfl (di_enum rfl G.b_enumerate (de_dat (df_sorted rfl G.b_sorted (de_var (i := 0) rfl (by first | exact Or.inl rfl | exact Or.inr (Or.inl rfl) | exact Or.inr (Or.inr rfl)))))) (gd_tup rfl (gds_cons (gd_name (i := 3) sc_up_to_rounds.nd rfl (by first | exact Or.inl rfl | exact Or.inr rfl)) (gds_cons (gd_name (i := 4) sc_up_to_rounds.nd rfl (by first | exact Or.inl rfl | exact Or.inr rfl)) gds_nil))) (dss_one (ds_set (i := 2) sc_up_to_rounds.nd rfl (by first | exact Or.inl rfl | exact Or.inr rfl) (de_op opd_mul (de_var (i := 2) rfl (by first | exact Or.inl rfl | exact Or.inr (Or.inl rfl) | exact Or.inr (Or.inr rfl))) (de_op opd_sub (de_op opd_add (de_op opd_add (de_var (i := 1) rfl (by first | exact Or.inl rfl | exact Or.inr (Or.inl rfl) | exact Or.inr (Or.inr rfl))) de_int) (de_var (i := 4) rfl (by first | exact Or.inl rfl | exact Or.inr (Or.inl rfl) | exact Or.inr (Or.inr rfl)))) (de_var (i := 3) rfl (by first | exact Or.inl rfl | exact Or.inr (Or.inl rfl) | exact Or.inr (Or.inr rfl)))))))) (dss_one (ds_ret (de_var (i := 2) rfl (by first | exact Or.inl rfl | exact Or.inr (Or.inl rfl) | exact Or.inr (Or.inr rfl)))))))
theorem ok_many_with {f : Addr} {fd : FuncData} (F : FunT K "many_with" "many_with" s_many_with f fd) (G : Gs mg) (c_rounds_of : Cald P w K mg base 1 "rounds_of" 2 C.m_rounds_of) (c_up_to_rounds : Cald P w K mg base 1 "up_to_rounds" 2 C.m_up_to_rounds) : FnD P w K mg base 2 f fd ["residues", "total"] C.m_many_with :=
  fnDD F sc_many_with fun cdv A outer s H E hr ga => (dss_cons (ds_set (i := 2) sc_many_with.nd rfl (by first | exact Or.inl rfl | exact Or.inr rfl) (de_call c_rounds_of hr ga (by decide) body_takes rfl (da_cons (de_var (i := 0) rfl (by first | exact Or.inl rfl | exact Or.inr (Or.inl rfl) | exact Or.inr (Or.inr rfl))) (da_cons (de_var (i := 1) rfl (by first | exact Or.inl rfl | exact Or.inr (Or.inl rfl) | exact Or.inr (Or.inr rfl))) da_nil)))) (dss_cons (ds_if (dt_cmp opd_is (de_var (i := 2) rfl (by first | exact Or.inl rfl | exact Or.inr (Or.inl rfl) | exact Or.inr (Or.inr rfl))) de_non) (dss_one (ds_ret de_int)) dss_nil) (dss_one (ds_ret (de_op opd_sub (de_call c_up_to_rounds hr ga (by decide) body_takes rfl (da_cons (de_var (i := 0) rfl (by first | exact Or.inl rfl | exact Or.inr (Or.inl rfl) | exact Or.inr (Or.inr rfl))) (da_cons (de_var (i := 2) rfl (by first | exact Or.inl rfl | exact Or.inr (Or.inl rfl) | exact Or.inr (Or.inr rfl))) da_nil))) (de_call c_up_to_rounds hr ga (by decide) body_takes rfl (da_cons (de_var (i := 0) rfl (by first | exact Or.inl rfl | exact Or.inr (Or.inl rfl) | exact Or.inr (Or.inr rfl))) (da_cons (de_op opd_sub (de_var (i := 2) rfl (by first | exact Or.inl rfl | exact Or.inr (Or.inl rfl) | exact Or.inr (Or.inr rfl))) de_int) da_nil))))))))
theorem ok_states_many {f : Addr} {fd : FuncData} (F : FunT K "states_many" "states_many" s_states_many f fd) (G : Gs mg) (c_spreads_many : Cald P w K mg base 1 "spreads_many" 2 N.m_spreads_many) : FnD P w K mg base 2 f fd ["size", "total"] U.m_states_many :=
  fnDD F sc_states_many fun cdv A outer s H E hr ga => (dss_one (ds_ret (de_op opd_mul (de_callFun cd_fact rfl G.m_factorial (da_cons (de_var (i := 0) rfl (by first | exact Or.inl rfl | exact Or.inr (Or.inl rfl) | exact Or.inr (Or.inr rfl))) da_nil)) (de_call c_spreads_many hr ga (by decide) body_takes rfl (da_cons (de_var (i := 1) rfl (by first | exact Or.inl rfl | exact Or.inr (Or.inl rfl) | exact Or.inr (Or.inr rfl))) (da_cons (de_var (i := 0) rfl (by first | exact Or.inl rfl | exact Or.inr (Or.inl rfl) | exact Or.inr (Or.inr rfl))) da_nil))))))
theorem ok_with_next_seat {f : Addr} {fd : FuncData} (F : FunT K "with_next_seat" "with_next_seat" s_with_next_seat f fd) (G : Gs mg)  : FnD P w K mg base 3 f fd ["ways", "seat", "people", "coins"] U.m_with_next_seat :=
  fnDD F sc_with_next_seat fun cdv A outer s H E hr ga => (dss_cons (ds_set (i := 4) sc_with_next_seat.nd rfl (by first | exact Or.inl rfl | exact Or.inr rfl) de_knew) (dss_cons (ds_forK (passes_of rfl) rfl (de_var (i := 0) rfl (by first | exact Or.inl rfl | exact Or.inr (Or.inl rfl) | exact Or.inr (Or.inr rfl))) (gd_tup rfl (gds_cons (gd_tup rfl (gds_cons (gd_name (i := 5) sc_with_next_seat.nd rfl (by first | exact Or.inl rfl | exact Or.inr rfl)) (gds_cons (gd_name (i := 6) sc_with_next_seat.nd rfl (by first | exact Or.inl rfl | exact Or.inr rfl)) gds_nil))) (gds_cons (gd_name (i := 7) sc_with_next_seat.nd rfl (by first | exact Or.inl rfl | exact Or.inr rfl)) gds_nil))) (dss_one (ds_for (passes_of rfl) rfl (di_range1 rfl G.b_range (de_op opd_add (de_op opd_sub (de_var (i := 2) rfl (by first | exact Or.inl rfl | exact Or.inr (Or.inl rfl) | exact Or.inr (Or.inr rfl))) (de_var (i := 5) rfl (by first | exact Or.inl rfl | exact Or.inr (Or.inl rfl) | exact Or.inr (Or.inr rfl)))) de_int)) (gd_name (i := 8) sc_with_next_seat.nd rfl (by first | exact Or.inl rfl | exact Or.inr rfl)) (dss_cons (ds_set (i := 9) sc_with_next_seat.nd rfl (by first | exact Or.inl rfl | exact Or.inr rfl) (de_op opd_sub (de_op opd_sub (de_op opd_add (de_var (i := 5) rfl (by first | exact Or.inl rfl | exact Or.inr (Or.inl rfl) | exact Or.inr (Or.inr rfl))) (de_var (i := 8) rfl (by first | exact Or.inl rfl | exact Or.inr (Or.inl rfl) | exact Or.inr (Or.inr rfl)))) (de_var (i := 1) rfl (by first | exact Or.inl rfl | exact Or.inr (Or.inl rfl) | exact Or.inr (Or.inr rfl)))) de_int)) (dss_one (ds_if (dt_w (dw_and (dt_cmp opd_ge (de_var (i := 9) rfl (by first | exact Or.inl rfl | exact Or.inr (Or.inl rfl) | exact Or.inr (Or.inr rfl))) de_int) (dw_and1 (dt_cmp opd_le (de_op opd_add (de_var (i := 6) rfl (by first | exact Or.inl rfl | exact Or.inr (Or.inl rfl) | exact Or.inr (Or.inr rfl))) (de_var (i := 9) rfl (by first | exact Or.inl rfl | exact Or.inr (Or.inl rfl) | exact Or.inr (Or.inr rfl)))) (de_var (i := 3) rfl (by first | exact Or.inl rfl | exact Or.inr (Or.inl rfl) | exact Or.inr (Or.inr rfl))))))) (dss_cons (ds_set (i := 10) sc_with_next_seat.nd rfl (by first | exact Or.inl rfl | exact Or.inr rfl) (de_tup (da_cons (de_op opd_add (de_var (i := 5) rfl (by first | exact Or.inl rfl | exact Or.inr (Or.inl rfl) | exact Or.inr (Or.inr rfl))) (de_var (i := 8) rfl (by first | exact Or.inl rfl | exact Or.inr (Or.inl rfl) | exact Or.inr (Or.inr rfl)))) (da_cons (de_op opd_add (de_var (i := 6) rfl (by first | exact Or.inl rfl | exact Or.inr (Or.inl rfl) | exact Or.inr (Or.inr rfl))) (de_var (i := 9) rfl (by first | exact Or.inl rfl | exact Or.inr (Or.inl rfl) | exact Or.inr (Or.inr rfl)))) da_nil)))) (dss_one (ds_asg (de_op opd_add (de_kgetM (room65 hr) (de_var (i := 4) rfl (by first | exact Or.inl rfl | exact Or.inr (Or.inl rfl) | exact Or.inr (Or.inr rfl))) (de_var (i := 10) rfl (by first | exact Or.inl rfl | exact Or.inr (Or.inl rfl) | exact Or.inr (Or.inr rfl))) de_int) (de_op opd_mul (de_var (i := 7) rfl (by first | exact Or.inl rfl | exact Or.inr (Or.inl rfl) | exact Or.inr (Or.inr rfl))) (de_callFun cd_comb rfl G.m_comb (da_cons (de_op opd_sub (de_var (i := 2) rfl (by first | exact Or.inl rfl | exact Or.inr (Or.inl rfl) | exact Or.inr (Or.inr rfl))) (de_var (i := 5) rfl (by first | exact Or.inl rfl | exact Or.inr (Or.inl rfl) | exact Or.inr (Or.inr rfl)))) (da_cons (de_var (i := 8) rfl (by first | exact Or.inl rfl | exact Or.inr (Or.inl rfl) | exact Or.inr (Or.inr rfl))) da_nil))))) (gd_kput (room65 hr) (de_var (i := 4) rfl (by first | exact Or.inl rfl | exact Or.inr (Or.inl rfl) | exact Or.inr (Or.inr rfl))) (de_var (i := 10) rfl (by first | exact Or.inl rfl | exact Or.inr (Or.inl rfl) | exact Or.inr (Or.inr rfl))))))) dss_nil)))))) (dss_one (ds_ret (de_var (i := 4) rfl (by first | exact Or.inl rfl | exact Or.inr (Or.inl rfl) | exact Or.inr (Or.inr rfl)))))))
theorem ok_rows_many {f : Addr} {fd : FuncData} (F : FunT K "rows_many" "rows_many" s_rows_many f fd) (G : Gs mg) (c_with_next_seat : Cald P w K mg base 3 "with_next_seat" 4 U.m_with_next_seat) : FnD P w K mg base 4 f fd ["people", "coins"] U.m_rows_many :=
  fnDD F sc_rows_many fun cdv A outer s H E hr ga => (dss_cons (ds_set (i := 2) sc_rows_many.nd rfl (by first | exact Or.inl rfl | exact Or.inr rfl) (de_kdisp (room65 hr) (de_tup (da_cons de_int (da_cons de_int da_nil))) de_int)) (dss_cons (ds_for (passes_of rfl) rfl (di_range1 rfl G.b_range (de_var (i := 0) rfl (by first | exact Or.inl rfl | exact Or.inr (Or.inl rfl) | exact Or.inr (Or.inr rfl)))) (gd_name (i := 3) sc_rows_many.nd rfl (by first | exact Or.inl rfl | exact Or.inr rfl)) (dss_one (ds_set (i := 2) sc_rows_many.nd rfl (by first | exact Or.inl rfl | exact Or.inr rfl) (de_call c_with_next_seat hr ga (by decide) body_takes rfl (da_cons (de_var (i := 2) rfl (by first | exact Or.inl rfl | exact Or.inr (Or.inl rfl) | exact Or.inr (Or.inr rfl))) (da_cons (de_var (i := 3) rfl (by first | exact Or.inl rfl | exact Or.inr (Or.inl rfl) | exact Or.inr (Or.inr rfl))) (da_cons (de_var (i := 0) rfl (by first | exact Or.inl rfl | exact Or.inr (Or.inl rfl) | exact Or.inr (Or.inr rfl))) (da_cons (de_var (i := 1) rfl (by first | exact Or.inl rfl | exact Or.inr (Or.inl rfl) | exact Or.inr (Or.inr rfl))) da_nil)))))))) (dss_one (ds_ret (de_sumK rfl rfl G.b_sum (de_var (i := 2) rfl (by first | exact Or.inl rfl | exact Or.inr (Or.inl rfl) | exact Or.inr (Or.inr rfl))))))))
theorem ok_lots_many {f : Addr} {fd : FuncData} (F : FunT K "lots_many" "lots_many" s_lots_many f fd) (G : Gs mg) (c_rows_many : Cald P w K mg base 4 "rows_many" 2 U.m_rows_many) : FnD P w K mg base 5 f fd ["size", "total"] U.m_lots_many :=
  fnDD F sc_lots_many fun cdv A outer s H E hr ga => (dss_one (ds_ret (de_op opd_mul (de_var (i := 0) rfl (by first | exact Or.inl rfl | exact Or.inr (Or.inl rfl) | exact Or.inr (Or.inr rfl))) (de_call c_rows_many hr ga (by decide) body_takes rfl (da_cons (de_op opd_sub (de_var (i := 0) rfl (by first | exact Or.inl rfl | exact Or.inr (Or.inl rfl) | exact Or.inr (Or.inr rfl))) de_int) (da_cons (de_var (i := 1) rfl (by first | exact Or.inl rfl | exact Or.inr (Or.inl rfl) | exact Or.inr (Or.inr rfl))) da_nil))))))
theorem ok_box {f : Addr} {fd : FuncData} (F : FunT K "_law_box" "_law_box" s_box f fd) (G : Gs mg)  : FnD P w K mg base 1 f fd ["_law_script", "_law_k"] C.m_box :=
  fnDD F sc_box fun cdv A outer s H E hr ga => (dss_cons (ds_set (i := 2) sc_box.nd rfl (by first | exact Or.inl rfl | exact Or.inr rfl) (de_if (dt_cmp opd_lt (de_var (i := 1) rfl (by first | exact Or.inl rfl | exact Or.inr (Or.inl rfl) | exact Or.inr (Or.inr rfl))) (de_callB cd_len rfl G.b_len PySem.boot_len (da_cons (de_var (i := 0) rfl (by first | exact Or.inl rfl | exact Or.inr (Or.inl rfl) | exact Or.inr (Or.inr rfl))) da_nil))) (de_ix (de_var (i := 0) rfl (by first | exact Or.inl rfl | exact Or.inr (Or.inl rfl) | exact Or.inr (Or.inr rfl))) (de_var (i := 1) rfl (by first | exact Or.inl rfl | exact Or.inr (Or.inl rfl) | exact Or.inr (Or.inr rfl)))) de_int)) (dss_one (ds_ret (de_new (df_lst (da_cons (de_op opd_mul (de_callB cd_abs rfl G.b_abs PyProof.Rows.boot_abs (da_cons (de_var (i := 2) rfl (by first | exact Or.inl rfl | exact Or.inr (Or.inl rfl) | exact Or.inr (Or.inr rfl))) da_nil)) (de_callTy cd_int rfl G.b_int PySem.Pv.boot_int (da_cons (de_cmp opd_ge (de_callB cd_abs rfl G.b_abs PyProof.Rows.boot_abs (da_cons (de_var (i := 2) rfl (by first | exact Or.inl rfl | exact Or.inr (Or.inl rfl) | exact Or.inr (Or.inr rfl))) da_nil)) (de_op opd_pow de_int de_int)) da_nil))) (da_cons (de_op opd_add (de_op opd_add (de_op opd_mod (de_var (i := 2) rfl (by first | exact Or.inl rfl | exact Or.inr (Or.inl rfl) | exact Or.inr (Or.inr rfl))) de_int) (de_op opd_mul de_int (de_var (i := 1) rfl (by first | exact Or.inl rfl | exact Or.inr (Or.inl rfl) | exact Or.inr (Or.inr rfl))))) de_int) (da_cons de_int da_nil))))))))
theorem ok_take {f : Addr} {fd : FuncData} (F : FunT K "_law_take" "_law_take" s_take f fd) (hm : mg "_law_take" = some (.ref f)) (G : Gs mg)  : ∀ n : Nat, FnD P w K mg base (0 + n) f fd ["_law_box_here", "_law_span"] (C.m_take n)
  | 0 => fnD0
  | n + 1 => by
    have c_take : Cald P w K mg base (0 + n) "_law_take" 2 (C.m_take n) := cald_of F hm (ok_take F hm G  n) (fun _ _ _ _ _ _ us hl => match us, hl with | [_, _], _ => rfl)
    exact fnDD F sc_take fun cdv A outer s H E hr ga => (dss_cons (ds_if (dt_cmp opd_gt (de_ix (de_var (i := 0) rfl (by first | exact Or.inl rfl | exact Or.inr (Or.inl rfl) | exact Or.inr (Or.inr rfl))) de_int) de_int) (dss_cons (ds_set (i := 2) sc_take.nd rfl (by first | exact Or.inl rfl | exact Or.inr rfl) (de_op opd_mod (de_ix (de_var (i := 0) rfl (by first | exact Or.inl rfl | exact Or.inr (Or.inl rfl) | exact Or.inr (Or.inr rfl))) de_int) (de_var (i := 1) rfl (by first | exact Or.inl rfl | exact Or.inr (Or.inl rfl) | exact Or.inr (Or.inr rfl))))) (dss_cons (ds_asg (de_op opd_fdiv (de_ix (de_var (i := 0) rfl (by first | exact Or.inl rfl | exact Or.inr (Or.inl rfl) | exact Or.inr (Or.inr rfl))) de_int) (de_var (i := 1) rfl (by first | exact Or.inl rfl | exact Or.inr (Or.inl rfl) | exact Or.inr (Or.inr rfl)))) (gd_sub (de_var (i := 0) rfl (by first | exact Or.inl rfl | exact Or.inr (Or.inl rfl) | exact Or.inr (Or.inr rfl))) de_int)) (dss_one (ds_ret (de_var (i := 2) rfl (by first | exact Or.inl rfl | exact Or.inr (Or.inl rfl) | exact Or.inr (Or.inr rfl))))))) dss_nil) (dss_cons (ds_if (dt_cmp opd_gt (de_var (i := 1) rfl (by first | exact Or.inl rfl | exact Or.inr (Or.inl rfl) | exact Or.inr (Or.inr rfl))) (de_op opd_pow de_int de_int)) (dss_one (ds_ret (de_op opd_mod (de_op opd_add (de_call c_take hr ga (Nat.le_refl _) body_takes rfl (da_cons (de_var (i := 0) rfl (by first | exact Or.inl rfl | exact Or.inr (Or.inl rfl) | exact Or.inr (Or.inr rfl))) (da_cons (de_op opd_pow de_int de_int) da_nil))) (de_op opd_mul (de_op opd_pow de_int de_int) (de_call c_take hr ga (Nat.le_refl _) body_takes rfl (da_cons (de_var (i := 0) rfl (by first | exact Or.inl rfl | exact Or.inr (Or.inl rfl) | exact Or.inr (Or.inr rfl))) (da_cons (de_op opd_add (de_op opd_fdiv (de_op opd_sub (de_var (i := 1) rfl (by first | exact Or.inl rfl | exact Or.inr (Or.inl rfl) | exact Or.inr (Or.inr rfl))) de_int) (de_op opd_pow de_int de_int)) de_int) da_nil))))) (de_var (i := 1) rfl (by first | exact Or.inl rfl | exact Or.inr (Or.inl rfl) | exact Or.inr (Or.inr rfl)))))) dss_nil) (dss_cons (ds_asg (de_op opd_add (de_ix (de_var (i := 0) rfl (by first | exact Or.inl rfl | exact Or.inr (Or.inl rfl) | exact Or.inr (Or.inr rfl))) de_int) de_int) (gd_sub (de_var (i := 0) rfl (by first | exact Or.inl rfl | exact Or.inr (Or.inl rfl) | exact Or.inr (Or.inr rfl))) de_int)) (dss_cons (ds_set (i := 3) sc_take.nd rfl (by first | exact Or.inl rfl | exact Or.inr rfl) (de_op opd_mod (de_op opd_pow (de_op opd_add (de_ix (de_var (i := 0) rfl (by first | exact Or.inl rfl | exact Or.inr (Or.inl rfl) | exact Or.inr (Or.inr rfl))) de_int) (de_op opd_mul de_int (de_ix (de_var (i := 0) rfl (by first | exact Or.inl rfl | exact Or.inr (Or.inl rfl) | exact Or.inr (Or.inr rfl))) de_int))) de_int) de_int)) (dss_one (ds_ret (de_op opd_mod (de_op opd_fdiv (de_op opd_mod (de_op opd_add (de_op opd_mul (de_var (i := 3) rfl (by first | exact Or.inl rfl | exact Or.inr (Or.inl rfl) | exact Or.inr (Or.inr rfl))) (de_op opd_add (de_op opd_mod (de_var (i := 3) rfl (by first | exact Or.inl rfl | exact Or.inr (Or.inl rfl) | exact Or.inr (Or.inr rfl))) de_int) de_int)) (de_op opd_mul (de_ix (de_var (i := 0) rfl (by first | exact Or.inl rfl | exact Or.inr (Or.inl rfl) | exact Or.inr (Or.inr rfl))) de_int) de_int)) de_int) de_int) (de_var (i := 1) rfl (by first | exact Or.inl rfl | exact Or.inr (Or.inl rfl) | exact Or.inr (Or.inr rfl))))))))))
theorem ok_cells {f : Addr} {fd : FuncData} (F : FunT K "_law_cells" "_law_cells" s_cells f fd) (G : Gs mg)  : FnD P w K mg base 1 f fd ["_law_script", "_law_most"] C.m_cells :=
  fnDD F sc_cells fun cdv A outer s H E hr ga => (dss_cons (ds_set (i := 2) sc_cells.nd rfl (by first | exact Or.inl rfl | exact Or.inr rfl) (de_new (df_list rfl G.b_list (de_slice (de_var (i := 0) rfl (by first | exact Or.inl rfl | exact Or.inr (Or.inl rfl) | exact Or.inr (Or.inr rfl))) do_none (do_some (de_var (i := 1) rfl (by first | exact Or.inl rfl | exact Or.inr (Or.inl rfl) | exact Or.inr (Or.inr rfl)))))))) (dss_cons (ds_for (passes_of rfl) rfl (di_enum rfl G.b_enumerate (de_slice (de_var (i := 0) rfl (by first | exact Or.inl rfl | exact Or.inr (Or.inl rfl) | exact Or.inr (Or.inr rfl))) (do_some (de_var (i := 1) rfl (by first | exact Or.inl rfl | exact Or.inr (Or.inl rfl) | exact Or.inr (Or.inr rfl)))) (do_some de_int))) (gd_tup rfl (gds_cons (gd_name (i := 3) sc_cells.nd rfl (by first | exact Or.inl rfl | exact Or.inr rfl)) (gds_cons (gd_name (i := 4) sc_cells.nd rfl (by first | exact Or.inl rfl | exact Or.inr rfl)) gds_nil))) (dss_one (ds_asg (de_op opd_add (de_ix (de_var (i := 2) rfl (by first | exact Or.inl rfl | exact Or.inr (Or.inl rfl) | exact Or.inr (Or.inr rfl))) (de_op opd_mod (de_var (i := 3) rfl (by first | exact Or.inl rfl | exact Or.inr (Or.inl rfl) | exact Or.inr (Or.inr rfl))) (de_var (i := 1) rfl (by first | exact Or.inl rfl | exact Or.inr (Or.inl rfl) | exact Or.inr (Or.inr rfl))))) (de_op opd_mul (de_var (i := 4) rfl (by first | exact Or.inl rfl | exact Or.inr (Or.inl rfl) | exact Or.inr (Or.inr rfl))) (de_op opd_add (de_var (i := 3) rfl (by first | exact Or.inl rfl | exact Or.inr (Or.inl rfl) | exact Or.inr (Or.inr rfl))) de_int))) (gd_sub (de_var (i := 2) rfl (by first | exact Or.inl rfl | exact Or.inr (Or.inl rfl) | exact Or.inr (Or.inr rfl))) (de_op opd_mod (de_var (i := 3) rfl (by first | exact Or.inl rfl | exact Or.inr (Or.inl rfl) | exact Or.inr (Or.inr rfl))) (de_var (i := 1) rfl (by first | exact Or.inl rfl | exact Or.inr (Or.inl rfl) | exact Or.inr (Or.inr rfl)))))))) (dss_freeze 2 (dss_one (ds_ret (de_if (dt_cmp (opd_ne hr.units) (de_var (i := 2) rfl (by first | exact Or.inl rfl | exact Or.inr (Or.inl rfl) | exact Or.inr (Or.inr rfl))) (de_dat (df_lst da_nil))) (de_var (i := 2) rfl (by first | exact Or.inl rfl | exact Or.inr (Or.inl rfl) | exact Or.inr (Or.inr rfl))) (de_dat (df_lst (da_cons de_int da_nil)))))))))
theorem ok_of {f : Addr} {fd : FuncData} (F : FunT K "_law_of" "_law_of" s_of f fd) (G : Gs mg) (c_take : Cald P w K mg base 10 "_law_take" 2 (C.m_take 10)) : FnD P w K mg base 11 f fd ["_law_box_here", "_law_some"] C.m_of :=
  fnDD F sc_of fun cdv A outer s H E hr ga => (dss_one (ds_ret (de_ix (de_var (i := 1) rfl (by first | exact Or.inl rfl | exact Or.inr (Or.inl rfl) | exact Or.inr (Or.inr rfl))) (de_call c_take hr ga (by decide) body_takes rfl (da_cons (de_var (i := 0) rfl (by first | exact Or.inl rfl | exact Or.inr (Or.inl rfl) | exact Or.inr (Or.inr rfl))) (da_cons (de_callB cd_len rfl G.b_len PySem.boot_len (da_cons (de_var (i := 1) rfl (by first | exact Or.inl rfl | exact Or.inr (Or.inl rfl) | exact Or.inr (Or.inr rfl))) da_nil)) da_nil))))))
theorem ok_strewn {f : Addr} {fd : FuncData} (F : FunT K "_law_strewn" "_law_strewn" s_strewn f fd) (G : Gs mg) (c_take : Cald P w K mg base 10 "_law_take" 2 (C.m_take 10)) : FnD P w K mg base 11 f fd ["_law_box_here", "_law_some"] C.m_strewn :=
  fnDD F sc_strewn fun cdv A outer s H E hr ga => (dss_cons (ds_par (i := 2) (j := 3) rfl sc_strewn.nd rfl rfl (by decide) rfl rfl (da_cons (de_new (df_list rfl G.b_list (de_var (i := 1) rfl (by first | exact Or.inl rfl | exact Or.inr (Or.inl rfl) | exact Or.inr (Or.inr rfl))))) (da_cons (de_new (df_lst da_nil)) da_nil)) rfl) (dss_cons (ds_while (lenAt 2) (passes_of rfl) (dt_cmp (opd_ne hr.units) (de_var (i := 2) rfl (by first | exact Or.inl rfl | exact Or.inr (Or.inl rfl) | exact Or.inr (Or.inr rfl))) (de_dat (df_lst da_nil))) (dss_one (ds_expr (de_m PySem.F.plainAttrs_list PySem.F.slot_list_append PySem.F.type_list_append md_append (de_var (i := 3) rfl (by first | exact Or.inl rfl | exact Or.inr (Or.inl rfl) | exact Or.inr (Or.inr rfl))) (da_cons (de_m PySem.F.plainAttrs_list PySem.F.slot_list_pop PySem.F.type_list_pop md_pop (de_var (i := 2) rfl (by first | exact Or.inl rfl | exact Or.inr (Or.inl rfl) | exact Or.inr (Or.inr rfl))) (da_cons (de_call c_take hr ga (by decide) body_takes rfl (da_cons (de_var (i := 0) rfl (by first | exact Or.inl rfl | exact Or.inr (Or.inl rfl) | exact Or.inr (Or.inr rfl))) (da_cons (de_callB cd_len rfl G.b_len PySem.boot_len (da_cons (de_var (i := 2) rfl (by first | exact Or.inl rfl | exact Or.inr (Or.inl rfl) | exact Or.inr (Or.inr rfl))) da_nil)) da_nil))) da_nil)) da_nil))))) (dss_freeze 3 (dss_one (ds_ret (de_var (i := 3) rfl (by first | exact Or.inl rfl | exact Or.inr (Or.inl rfl) | exact Or.inr (Or.inr rfl))))))))
theorem ok_l_residues {f : Addr} {fd : FuncData} (F : FunT K "_law_residues" "_law_residues" s_l_residues f fd) (G : Gs mg)  : FnD P w K mg base 1 f fd ["_law_count"] m_l_residues :=
  fnDD F sc_l_residues fun cdv A outer s H E hr ga => (dss_cons (ds_set (i := 1) sc_l_residues.nd rfl (by first | exact Or.inl rfl | exact Or.inr rfl) (de_dat (df_lst (da_cons (de_tup da_nil) da_nil)))) (dss_cons (ds_for (passes_of rfl) rfl (di_range1 rfl G.b_range (de_var (i := 0) rfl (by first | exact Or.inl rfl | exact Or.inr (Or.inl rfl) | exact Or.inr (Or.inr rfl)))) (gd_name (i := 2) sc_l_residues.nd rfl (by first | exact Or.inl rfl | exact Or.inr rfl)) (dss_cons (ds_set (i := 3) sc_l_residues.nd rfl (by first | exact Or.inl rfl | exact Or.inr rfl) (de_dat (df_lst da_nil))) (dss_cons (ds_for (passes_of rfl) rfl (di_seq (de_var (i := 1) rfl (by first | exact Or.inl rfl | exact Or.inr (Or.inl rfl) | exact Or.inr (Or.inr rfl)))) (gd_name (i := 4) sc_l_residues.nd rfl (by first | exact Or.inl rfl | exact Or.inr rfl)) (dss_one (ds_set (i := 3) sc_l_residues.nd rfl (by first | exact Or.inl rfl | exact Or.inr rfl) (de_dat (df_cat (de_var (i := 3) rfl (by first | exact Or.inl rfl | exact Or.inr (Or.inl rfl) | exact Or.inr (Or.inr rfl))) (de_dat (df_lc (own := [("_law_its", 5)]) rfl sc_l_residues.nd (di_range1 rfl G.b_range (de_var (i := 0) rfl (by first | exact Or.inl rfl | exact Or.inr (Or.inl rfl) | exact Or.inr (Or.inr rfl)))) (blkOk_by rfl) (fun _ _ _ _ _ => (gv_name (i := 5) (by decide) sc_l_residues.nd rfl (by first | exact Or.inl rfl | exact Or.inr rfl))) (fun _ _ _ _ _ => dts_nil) (fun _ _ _ _ _ => (de_op opd_addA (de_var (i := 4) rfl (by first | exact Or.inl rfl | exact Or.inr (Or.inl rfl) | exact Or.inr (Or.inr rfl))) (de_tup (da_cons (de_var (i := 5) rfl (by first | exact Or.inl rfl | exact Or.inr (Or.inl rfl) | exact Or.inr (Or.inr rfl))) da_nil))))))))))) (dss_one (ds_set (i := 1) sc_l_residues.nd rfl (by first | exact Or.inl rfl | exact Or.inr rfl) (de_var (i := 3) rfl (by first | exact Or.inl rfl | exact Or.inr (Or.inl rfl) | exact Or.inr (Or.inr rfl)))))))) (dss_one (ds_ret (de_var (i := 1) rfl (by first | exact Or.inl rfl | exact Or.inr (Or.inl rfl) | exact Or.inr (Or.inr rfl)))))))
theorem ok_right {f : Addr} {fd : FuncData} (F : FunT K "_law_right" "_law_right" s_right f fd) (G : Gs mg) (c_take : Cald P w K mg base 10 "_law_take" 2 (C.m_take 10)) (c_many_with : Cald P w K mg base 2 "many_with" 2 C.m_many_with) (c_of : Cald P w K mg base 11 "_law_of" 2 C.m_of) (c_l_residues : Cald P w K mg base 1 "_law_residues" 1 m_l_residues) (c_states_many : Cald P w K mg base 2 "states_many" 2 U.m_states_many) (c_lots_many : Cald P w K mg base 5 "lots_many" 2 U.m_lots_many) (c_strewn : Cald P w K mg base 11 "_law_strewn" 2 C.m_strewn) : FnD P w K mg base 12 f fd ["_law_box_here"] m_right :=
  fnDD F sc_right fun cdv A outer s H E hr ga => (dss_cons (ds_set (i := 1) sc_right.nd rfl (by first | exact Or.inl rfl | exact Or.inr rfl) (de_op opd_add de_int (de_call c_take hr ga (by decide) body_takes rfl (da_cons (de_var (i := 0) rfl (by first | exact Or.inl rfl | exact Or.inr (Or.inl rfl) | exact Or.inr (Or.inr rfl))) (da_cons de_int da_nil))))) (dss_cons (ds_set (i := 2) sc_right.nd rfl (by first | exact Or.inl rfl | exact Or.inr rfl) (de_call c_take hr ga (by decide) body_takes rfl (da_cons (de_var (i := 0) rfl (by first | exact Or.inl rfl | exact Or.inr (Or.inl rfl) | exact Or.inr (Or.inr rfl))) (da_cons (de_call c_of hr ga (by decide) body_takes rfl (da_cons (de_var (i := 0) rfl (by first | exact Or.inl rfl | exact Or.inr (Or.inl rfl) | exact Or.inr (Or.inr rfl))) (da_cons (de_dat (df_lst (da_cons de_int (da_cons de_int (da_cons (de_op opd_pow de_int de_int) da_nil))))) da_nil))) da_nil)))) (dss_cons (ds_setLc (i := 3) (own := [("_law_those", 5)]) rfl sc_right.nd rfl rfl rfl (di_seq (de_call c_l_residues hr ga (by decide) body_takes rfl (da_cons (de_var (i := 1) rfl (by first | exact Or.inl rfl | exact Or.inr (Or.inl rfl) | exact Or.inr (Or.inr rfl))) da_nil))) (blkOk_by rfl) (fun _ _ _ _ _ => (gv_name (i := 5) (by decide) sc_right.nd rfl (by first | exact Or.inl rfl | exact Or.inr rfl))) (fun _ _ _ _ _ => dts_nil) (fun _ _ _ _ _ => (de_call c_many_with hr ga (by decide) takesW0 rfl (da_cons (de_var (i := 5) rfl (by first | exact Or.inl rfl | exact Or.inr (Or.inl rfl) | exact Or.inr (Or.inr rfl))) (da_cons (de_var (i := 2) rfl (by first | exact Or.inl rfl | exact Or.inr (Or.inl rfl) | exact Or.inr (Or.inr rfl))) da_nil))))) (dss_cons (ds_if (dt_w (dw_or (dt_cmp (opd_ne hr.units) (de_callB (cd_sum rfl) rfl G.b_sum PyProof.Rows.boot_sum (da_cons (de_var (i := 3) rfl (by first | exact Or.inl rfl | exact Or.inr (Or.inl rfl) | exact Or.inr (Or.inr rfl))) da_nil)) (de_call c_states_many hr ga (by decide) body_takes rfl (da_cons (de_var (i := 1) rfl (by first | exact Or.inl rfl | exact Or.inr (Or.inl rfl) | exact Or.inr (Or.inr rfl))) (da_cons (de_var (i := 2) rfl (by first | exact Or.inl rfl | exact Or.inr (Or.inl rfl) | exact Or.inr (Or.inr rfl))) da_nil)))) (dw_or1 (dt_cmp (opd_ne hr.units) (de_callB cd_len rfl G.b_len PySem.boot_len (da_cons (de_dat (df_lc (own := [("_law_many", 8)]) rfl sc_right.nd (di_seq (de_var (i := 3) rfl (by first | exact Or.inl rfl | exact Or.inr (Or.inl rfl) | exact Or.inr (Or.inr rfl)))) (blkOk_by rfl) (fun _ _ _ _ _ => (gv_name (i := 8) (by decide) sc_right.nd rfl (by first | exact Or.inl rfl | exact Or.inr rfl))) (fun _ _ _ _ _ => (dts_one (dt_cmp opd_gt (de_var (i := 8) rfl (by first | exact Or.inl rfl | exact Or.inr (Or.inl rfl) | exact Or.inr (Or.inr rfl))) de_int))) (fun _ _ _ _ _ => (de_var (i := 8) rfl (by first | exact Or.inl rfl | exact Or.inr (Or.inl rfl) | exact Or.inr (Or.inr rfl)))))) da_nil)) (de_call c_lots_many hr ga (by decide) body_takes rfl (da_cons (de_var (i := 1) rfl (by first | exact Or.inl rfl | exact Or.inr (Or.inl rfl) | exact Or.inr (Or.inr rfl))) (da_cons (de_var (i := 2) rfl (by first | exact Or.inl rfl | exact Or.inr (Or.inl rfl) | exact Or.inr (Or.inr rfl))) da_nil))))))) (dss_one (ds_ret de_bl)) dss_nil) (dss_cons (ds_set (i := 4) sc_right.nd rfl (by first | exact Or.inl rfl | exact Or.inr rfl) (de_op opd_add de_int (de_call c_take hr ga (by decide) body_takes rfl (da_cons (de_var (i := 0) rfl (by first | exact Or.inl rfl | exact Or.inr (Or.inl rfl) | exact Or.inr (Or.inr rfl))) (da_cons de_int da_nil))))) (dss_cons (ds_set (i := 5) sc_right.nd rfl (by first | exact Or.inl rfl | exact Or.inr rfl) (de_callTy cd_tuple rfl G.b_tuple PySem.Pv.boot_tuple (da_cons (de_dat (df_lc (own := [("_law_who", 9)]) rfl sc_right.nd (di_range1 rfl G.b_range (de_var (i := 4) rfl (by first | exact Or.inl rfl | exact Or.inr (Or.inl rfl) | exact Or.inr (Or.inr rfl)))) (blkOk_by rfl) (fun _ _ _ _ _ => (gv_name (i := 9) (by decide) sc_right.nd rfl (by first | exact Or.inl rfl | exact Or.inr rfl))) (fun _ _ _ _ _ => dts_nil) (fun _ _ _ _ _ => (de_call c_take hr ga (by decide) takesW0 rfl (da_cons (de_var (i := 0) rfl (by first | exact Or.inl rfl | exact Or.inr (Or.inl rfl) | exact Or.inr (Or.inr rfl))) (da_cons (de_var (i := 4) rfl (by first | exact Or.inl rfl | exact Or.inr (Or.inl rfl) | exact Or.inr (Or.inr rfl))) da_nil)))))) da_nil))) (dss_cons (ds_set (i := 6) sc_right.nd rfl (by first | exact Or.inl rfl | exact Or.inr rfl) (de_op opd_mod (de_op opd_sub (de_callB (cd_sum rfl) rfl G.b_sum PyProof.Rows.boot_sum (da_cons (de_var (i := 5) rfl (by first | exact Or.inl rfl | exact Or.inr (Or.inl rfl) | exact Or.inr (Or.inr rfl))) da_nil)) (de_op opd_fdiv (de_op opd_mul (de_var (i := 4) rfl (by first | exact Or.inl rfl | exact Or.inr (Or.inl rfl) | exact Or.inr (Or.inr rfl))) (de_op opd_sub (de_var (i := 4) rfl (by first | exact Or.inl rfl | exact Or.inr (Or.inl rfl) | exact Or.inr (Or.inr rfl))) de_int)) de_int)) (de_var (i := 4) rfl (by first | exact Or.inl rfl | exact Or.inr (Or.inl rfl) | exact Or.inr (Or.inr rfl))))) (dss_cons (ds_set (i := 2) sc_right.nd rfl (by first | exact Or.inl rfl | exact Or.inr rfl) (de_op opd_add (de_var (i := 6) rfl (by first | exact Or.inl rfl | exact Or.inr (Or.inl rfl) | exact Or.inr (Or.inr rfl))) (de_op opd_mul (de_var (i := 4) rfl (by first | exact Or.inl rfl | exact Or.inr (Or.inl rfl) | exact Or.inr (Or.inr rfl))) (de_call c_take hr ga (by decide) body_takes rfl (da_cons (de_var (i := 0) rfl (by first | exact Or.inl rfl | exact Or.inr (Or.inl rfl) | exact Or.inr (Or.inr rfl))) (da_cons (de_call c_of hr ga (by decide) body_takes rfl (da_cons (de_var (i := 0) rfl (by first | exact Or.inl rfl | exact Or.inr (Or.inl rfl) | exact Or.inr (Or.inr rfl))) (da_cons (de_dat (df_lst (da_cons de_int (da_cons de_int (da_cons (de_op opd_pow de_int de_int) da_nil))))) da_nil))) da_nil)))))) (dss_cons (ds_set (i := 7) sc_right.nd rfl (by first | exact Or.inl rfl | exact Or.inr rfl) (de_call c_many_with hr ga (by decide) body_takes rfl (da_cons (de_var (i := 5) rfl (by first | exact Or.inl rfl | exact Or.inr (Or.inl rfl) | exact Or.inr (Or.inr rfl))) (da_cons (de_var (i := 2) rfl (by first | exact Or.inl rfl | exact Or.inr (Or.inl rfl) | exact Or.inr (Or.inr rfl))) da_nil)))) (dss_cons (ds_if (dt_w (dw_or (dt_cmp (opd_ne hr.units) (de_call c_many_with hr ga (by decide) body_takes rfl (da_cons (de_callTy cd_tuple rfl G.b_tuple PySem.Pv.boot_tuple (da_cons (de_call c_strewn hr ga (by decide) body_takes rfl (da_cons (de_var (i := 0) rfl (by first | exact Or.inl rfl | exact Or.inr (Or.inl rfl) | exact Or.inr (Or.inr rfl))) (da_cons (de_var (i := 5) rfl (by first | exact Or.inl rfl | exact Or.inr (Or.inl rfl) | exact Or.inr (Or.inr rfl))) da_nil))) da_nil)) (da_cons (de_var (i := 2) rfl (by first | exact Or.inl rfl | exact Or.inr (Or.inl rfl) | exact Or.inr (Or.inr rfl))) da_nil))) (de_var (i := 7) rfl (by first | exact Or.inl rfl | exact Or.inr (Or.inl rfl) | exact Or.inr (Or.inr rfl)))) (dw_or1 (dt_cmp opd_lt (de_call c_many_with hr ga (by decide) body_takes rfl (da_cons (de_var (i := 5) rfl (by first | exact Or.inl rfl | exact Or.inr (Or.inl rfl) | exact Or.inr (Or.inr rfl))) (da_cons (de_op opd_add (de_var (i := 2) rfl (by first | exact Or.inl rfl | exact Or.inr (Or.inl rfl) | exact Or.inr (Or.inr rfl))) (de_var (i := 4) rfl (by first | exact Or.inl rfl | exact Or.inr (Or.inl rfl) | exact Or.inr (Or.inr rfl)))) da_nil))) (de_var (i := 7) rfl (by first | exact Or.inl rfl | exact Or.inr (Or.inl rfl) | exact Or.inr (Or.inr rfl))))))) (dss_one (ds_ret de_bl)) dss_nil) (dss_one (ds_ret (de_and (de_cmp (opd_eq hr.units) (de_call c_many_with hr ga (by decide) body_takes rfl (da_cons (de_var (i := 5) rfl (by first | exact Or.inl rfl | exact Or.inr (Or.inl rfl) | exact Or.inr (Or.inr rfl))) (da_cons (de_op opd_add (de_op opd_add (de_var (i := 2) rfl (by first | exact Or.inl rfl | exact Or.inr (Or.inl rfl) | exact Or.inr (Or.inr rfl))) de_int) (de_call c_take hr ga (by decide) body_takes rfl (da_cons (de_var (i := 0) rfl (by first | exact Or.inl rfl | exact Or.inr (Or.inl rfl) | exact Or.inr (Or.inr rfl))) (da_cons (de_op opd_sub (de_var (i := 4) rfl (by first | exact Or.inl rfl | exact Or.inr (Or.inl rfl) | exact Or.inr (Or.inr rfl))) de_int) da_nil)))) da_nil))) de_int) (de_one (de_cmp opd_gt (de_call c_many_with hr ga (by decide) body_takes rfl (da_cons (de_var (i := 5) rfl (by first | exact Or.inl rfl | exact Or.inr (Or.inl rfl) | exact Or.inr (Or.inr rfl))) (da_cons (de_op opd_add (de_var (i := 2) rfl (by first | exact Or.inl rfl | exact Or.inr (Or.inl rfl) | exact Or.inr (Or.inr rfl))) (de_op opd_mul (de_var (i := 4) rfl (by first | exact Or.inl rfl | exact Or.inr (Or.inl rfl) | exact Or.inr (Or.inr rfl))) (de_var (i := 4) rfl (by first | exact Or.inl rfl | exact Or.inr (Or.inl rfl) | exact Or.inr (Or.inr rfl))))) da_nil))) de_int)))))))))))))))
theorem ok_law {f : Addr} {fd : FuncData} (F : FunT K "law" "law" s_law f fd) (G : Gs mg) (c_cells : Cald P w K mg base 1 "_law_cells" 2 C.m_cells) (c_box : Cald P w K mg base 1 "_law_box" 2 C.m_box) (c_right : Cald P w K mg base 12 "_law_right" 1 m_right) : FnD P w K mg base 13 f fd ["_law_script"] m_law :=
  fnDD F sc_law fun cdv A outer s H E hr ga => (dss_cons (ds_set (i := 1) sc_law.nd rfl (by first | exact Or.inl rfl | exact Or.inr rfl) (de_call c_cells hr ga (by decide) body_takes rfl (da_cons (de_var (i := 0) rfl (by first | exact Or.inl rfl | exact Or.inr (Or.inl rfl) | exact Or.inr (Or.inr rfl))) (da_cons de_int da_nil)))) (dss_cons (ds_for (passes_of rfl) rfl (di_range1 rfl G.b_range (de_callB cd_len rfl G.b_len PySem.boot_len (da_cons (de_var (i := 1) rfl (by first | exact Or.inl rfl | exact Or.inr (Or.inl rfl) | exact Or.inr (Or.inr rfl))) da_nil))) (gd_name (i := 2) sc_law.nd rfl (by first | exact Or.inl rfl | exact Or.inr rfl)) (dss_cons (ds_set (i := 3) sc_law.nd rfl (by first | exact Or.inl rfl | exact Or.inr rfl) (de_call c_box hr ga (by decide) body_takes rfl (da_cons (de_var (i := 1) rfl (by first | exact Or.inl rfl | exact Or.inr (Or.inl rfl) | exact Or.inr (Or.inr rfl))) (da_cons (de_var (i := 2) rfl (by first | exact Or.inl rfl | exact Or.inr (Or.inl rfl) | exact Or.inr (Or.inr rfl))) da_nil)))) (dss_one (ds_if (dt_not (dt_e (de_call c_right hr ga (by decide) body_takes rfl (da_cons (de_var (i := 3) rfl (by first | exact Or.inl rfl | exact Or.inr (Or.inl rfl) | exact Or.inr (Or.inr rfl))) da_nil)))) (dss_one (ds_ret de_bl)) dss_nil)))) (dss_one (ds_ret de_bl))))
end
end DL.K26
namespace DL.K26
open PySem PySem.Spec L2 DL
theorem facts {P : Program} {w : World} {K : Frag} {h : Heap} {mg : Str → Option Value} {f : Addr} (X : K.In h) (G0 : h.Ns mainGlobals mg) (hfa : mg ("law" : Str) = some (.ref f)) (c0 : SaysZ fa fn xf KS TS IB K) :
    ∃ fd : FuncData, (∀ (s : Shared) (v : Value), BindsTo s fd ⟨[v], []⟩ [("_law_script", v)]) ∧ ∀ base : Heap, K.In base → base.Ns mainGlobals mg → FnD P w K mg base 13 f fd ["_law_script"] m_law := by
  have ib0 := c0
  replace c0 := c0.y
  replace c0 := c0.x
  have c : He.SaysD fa fn K := c0.d
  have G : Gs mg := ⟨He.free_ok X G0 (c.fact 16 (f := .free "len") rfl), He.free_ok X G0 (c.fact 17 (f := .free "sum") rfl), He.free_ok X G0 (c.fact 18 (f := .free "sorted") rfl), He.free_ok X G0 (c.fact 19 (f := .free "enumerate") rfl), He.free_ok X G0 (c.fact 20 (f := .free "range") rfl), He.free_ok X G0 (c.fact 21 (f := .free "abs") rfl), He.free_ok X G0 (c.fact 22 (f := .free "int") rfl), He.free_ok X G0 (c.fact 23 (f := .free "list") rfl), He.free_ok X G0 (c.fact 24 (f := .free "tuple") rfl), imp_ok X G0 (ib0.ib 0 (p := ("comb", "math.comb")) rfl), imp_ok X G0 (ib0.ib 1 (p := ("factorial", "math.factorial")) rfl)⟩
  obtain ⟨fd_spreads_many, F0_spreads_many⟩ := c.def_ 0 (d := ⟨("spreads_many", none), "spreads_many", "spreads_many", defArgs s_spreads_many, defBody s_spreads_many, defScope s_spreads_many, [], []⟩) rfl
  have F_spreads_many : FunT K "spreads_many" "spreads_many" s_spreads_many _ _ := F0_spreads_many
  have hm_spreads_many := He.glo_ok X G0 (c.fact 0 (f := .glo "spreads_many") rfl)
  obtain ⟨fd_rounds_of, F0_rounds_of⟩ := c.def_ 1 (d := ⟨("rounds_of", none), "rounds_of", "rounds_of", defArgs s_rounds_of, defBody s_rounds_of, defScope s_rounds_of, [], []⟩) rfl
  have F_rounds_of : FunT K "rounds_of" "rounds_of" s_rounds_of _ _ := F0_rounds_of
  have hm_rounds_of := He.glo_ok X G0 (c.fact 1 (f := .glo "rounds_of") rfl)
  obtain ⟨fd_up_to_rounds, F0_up_to_rounds⟩ := c.def_ 2 (d := ⟨("up_to_rounds", none), "up_to_rounds", "up_to_rounds", defArgs s_up_to_rounds, defBody s_up_to_rounds, defScope s_up_to_rounds, [], []⟩) rfl
  have F_up_to_rounds : FunT K "up_to_rounds" "up_to_rounds" s_up_to_rounds _ _ := F0_up_to_rounds
  have hm_up_to_rounds := He.glo_ok X G0 (c.fact 2 (f := .glo "up_to_rounds") rfl)
  obtain ⟨fd_many_with, F0_many_with⟩ := c.def_ 3 (d := ⟨("many_with", none), "many_with", "many_with", defArgs s_many_with, defBody s_many_with, defScope s_many_with, [], []⟩) rfl
  have F_many_with : FunT K "many_with" "many_with" s_many_with _ _ := F0_many_with
  have hm_many_with := He.glo_ok X G0 (c.fact 3 (f := .glo "many_with") rfl)
  obtain ⟨fd_states_many, F0_states_many⟩ := c.def_ 4 (d := ⟨("states_many", none), "states_many", "states_many", defArgs s_states_many, defBody s_states_many, defScope s_states_many, [], []⟩) rfl
  have F_states_many : FunT K "states_many" "states_many" s_states_many _ _ := F0_states_many
  have hm_states_many := He.glo_ok X G0 (c.fact 4 (f := .glo "states_many") rfl)
  obtain ⟨fd_with_next_seat, F0_with_next_seat⟩ := c.def_ 5 (d := ⟨("with_next_seat", none), "with_next_seat", "with_next_seat", defArgs s_with_next_seat, defBody s_with_next_seat, defScope s_with_next_seat, [], []⟩) rfl
  have F_with_next_seat : FunT K "with_next_seat" "with_next_seat" s_with_next_seat _ _ := F0_with_next_seat
  have hm_with_next_seat := He.glo_ok X G0 (c.fact 5 (f := .glo "with_next_seat") rfl)
  obtain ⟨fd_rows_many, F0_rows_many⟩ := c.def_ 6 (d := ⟨("rows_many", none), "rows_many", "rows_many", defArgs s_rows_many, defBody s_rows_many, defScope s_rows_many, [], []⟩) rfl
  have F_rows_many : FunT K "rows_many" "rows_many" s_rows_many _ _ := F0_rows_many
  have hm_rows_many := He.glo_ok X G0 (c.fact 6 (f := .glo "rows_many") rfl)
  obtain ⟨fd_lots_many, F0_lots_many⟩ := c.def_ 7 (d := ⟨("lots_many", none), "lots_many", "lots_many", defArgs s_lots_many, defBody s_lots_many, defScope s_lots_many, [], []⟩) rfl
  have F_lots_many : FunT K "lots_many" "lots_many" s_lots_many _ _ := F0_lots_many
  have hm_lots_many := He.glo_ok X G0 (c.fact 7 (f := .glo "lots_many") rfl)
  obtain ⟨fd_box, F0_box⟩ := c.def_ 8 (d := ⟨("_law_box", none), "_law_box", "_law_box", defArgs s_box, defBody s_box, defScope s_box, [], []⟩) rfl
  have F_box : FunT K "_law_box" "_law_box" s_box _ _ := F0_box
  have hm_box := He.glo_ok X G0 (c.fact 8 (f := .glo "_law_box") rfl)
  obtain ⟨fd_take, F0_take⟩ := c.def_ 9 (d := ⟨("_law_take", none), "_law_take", "_law_take", defArgs s_take, defBody s_take, defScope s_take, [], []⟩) rfl
  have F_take : FunT K "_law_take" "_law_take" s_take _ _ := F0_take
  have hm_take := He.glo_ok X G0 (c.fact 9 (f := .glo "_law_take") rfl)
  obtain ⟨fd_cells, F0_cells⟩ := c.def_ 10 (d := ⟨("_law_cells", none), "_law_cells", "_law_cells", defArgs s_cells, defBody s_cells, defScope s_cells, [], []⟩) rfl
  have F_cells : FunT K "_law_cells" "_law_cells" s_cells _ _ := F0_cells
  have hm_cells := He.glo_ok X G0 (c.fact 10 (f := .glo "_law_cells") rfl)
  obtain ⟨fd_of, F0_of⟩ := c.def_ 11 (d := ⟨("_law_of", none), "_law_of", "_law_of", defArgs s_of, defBody s_of, defScope s_of, [], []⟩) rfl
  have F_of : FunT K "_law_of" "_law_of" s_of _ _ := F0_of
  have hm_of := He.glo_ok X G0 (c.fact 11 (f := .glo "_law_of") rfl)
  obtain ⟨fd_strewn, F0_strewn⟩ := c.def_ 12 (d := ⟨("_law_strewn", none), "_law_strewn", "_law_strewn", defArgs s_strewn, defBody s_strewn, defScope s_strewn, [], []⟩) rfl
  have F_strewn : FunT K "_law_strewn" "_law_strewn" s_strewn _ _ := F0_strewn
  have hm_strewn := He.glo_ok X G0 (c.fact 12 (f := .glo "_law_strewn") rfl)
  obtain ⟨fd_l_residues, F0_l_residues⟩ := c.def_ 13 (d := ⟨("_law_residues", none), "_law_residues", "_law_residues", defArgs s_l_residues, defBody s_l_residues, defScope s_l_residues, [], []⟩) rfl
  have F_l_residues : FunT K "_law_residues" "_law_residues" s_l_residues _ _ := F0_l_residues
  have hm_l_residues := He.glo_ok X G0 (c.fact 13 (f := .glo "_law_residues") rfl)
  obtain ⟨fd_right, F0_right⟩ := c.def_ 14 (d := ⟨("_law_right", none), "_law_right", "_law_right", defArgs s_right, defBody s_right, defScope s_right, [], []⟩) rfl
  have F_right : FunT K "_law_right" "_law_right" s_right _ _ := F0_right
  have hm_right := He.glo_ok X G0 (c.fact 14 (f := .glo "_law_right") rfl)
  obtain ⟨fd_law, F0_law⟩ := c.def_ 15 (d := ⟨("law", none), "law", "law", defArgs s_law, defBody s_law, defScope s_law, [], []⟩) rfl
  have F_law : FunT K "law" "law" s_law _ _ := F0_law
  have hm_law := He.glo_ok X G0 (c.fact 15 (f := .glo "law") rfl)
  have e := hfa.symm.trans hm_law
  cases e
  refine ⟨fd_law, fun s v => FunD.bindsA (ps := ["_law_script"]) F_law (fun _ _ _ _ _ _ us hl => match us, hl with | [_], _ => rfl) s [v] rfl, fun base _ _ => ?_⟩
  have o_spreads_many := ok_spreads_many (P := P) (w := w) (base := base) F_spreads_many G 
  have c_spreads_many := cald_of (st := s_spreads_many) F_spreads_many hm_spreads_many o_spreads_many (fun _ _ _ _ _ _ us hl => match us, hl with | [_, _], _ => rfl)
  have o_rounds_of := ok_rounds_of (P := P) (w := w) (base := base) F_rounds_of G 
  have c_rounds_of := cald_of (st := s_rounds_of) F_rounds_of hm_rounds_of o_rounds_of (fun _ _ _ _ _ _ us hl => match us, hl with | [_, _], _ => rfl)
  have o_up_to_rounds := ok_up_to_rounds (P := P) (w := w) (base := base) F_up_to_rounds G 
  have c_up_to_rounds := cald_of (st := s_up_to_rounds) F_up_to_rounds hm_up_to_rounds o_up_to_rounds (fun _ _ _ _ _ _ us hl => match us, hl with | [_, _], _ => rfl)
  have o_many_with := ok_many_with (P := P) (w := w) (base := base) F_many_with G c_rounds_of c_up_to_rounds
  have c_many_with := cald_of (st := s_many_with) F_many_with hm_many_with o_many_with (fun _ _ _ _ _ _ us hl => match us, hl with | [_, _], _ => rfl)
  have o_states_many := ok_states_many (P := P) (w := w) (base := base) F_states_many G c_spreads_many
  have c_states_many := cald_of (st := s_states_many) F_states_many hm_states_many o_states_many (fun _ _ _ _ _ _ us hl => match us, hl with | [_, _], _ => rfl)
  have o_with_next_seat := ok_with_next_seat (P := P) (w := w) (base := base) F_with_next_seat G 
  have c_with_next_seat := cald_of (st := s_with_next_seat) F_with_next_seat hm_with_next_seat o_with_next_seat (fun _ _ _ _ _ _ us hl => match us, hl with | [_, _, _, _], _ => rfl)
  have o_rows_many := ok_rows_many (P := P) (w := w) (base := base) F_rows_many G c_with_next_seat
  have c_rows_many := cald_of (st := s_rows_many) F_rows_many hm_rows_many o_rows_many (fun _ _ _ _ _ _ us hl => match us, hl with | [_, _], _ => rfl)
  have o_lots_many := ok_lots_many (P := P) (w := w) (base := base) F_lots_many G c_rows_many
  have c_lots_many := cald_of (st := s_lots_many) F_lots_many hm_lots_many o_lots_many (fun _ _ _ _ _ _ us hl => match us, hl with | [_, _], _ => rfl)
  have o_box := ok_box (P := P) (w := w) (base := base) F_box G 
  have c_box := cald_of (st := s_box) F_box hm_box o_box (fun _ _ _ _ _ _ us hl => match us, hl with | [_, _], _ => rfl)
  have o_take := ok_take (P := P) (w := w) (base := base) F_take hm_take G  10
  have c_take := cald_of (st := s_take) F_take hm_take o_take (fun _ _ _ _ _ _ us hl => match us, hl with | [_, _], _ => rfl)
  have o_cells := ok_cells (P := P) (w := w) (base := base) F_cells G 
  have c_cells := cald_of (st := s_cells) F_cells hm_cells o_cells (fun _ _ _ _ _ _ us hl => match us, hl with | [_, _], _ => rfl)
  have o_of := ok_of (P := P) (w := w) (base := base) F_of G c_take
  have c_of := cald_of (st := s_of) F_of hm_of o_of (fun _ _ _ _ _ _ us hl => match us, hl with | [_, _], _ => rfl)
  have o_strewn := ok_strewn (P := P) (w := w) (base := base) F_strewn G c_take
  have c_strewn := cald_of (st := s_strewn) F_strewn hm_strewn o_strewn (fun _ _ _ _ _ _ us hl => match us, hl with | [_, _], _ => rfl)
  have o_l_residues := ok_l_residues (P := P) (w := w) (base := base) F_l_residues G 
  have c_l_residues := cald_of (st := s_l_residues) F_l_residues hm_l_residues o_l_residues (fun _ _ _ _ _ _ us hl => match us, hl with | [_], _ => rfl)
  have o_right := ok_right (P := P) (w := w) (base := base) F_right G c_take c_many_with c_of c_l_residues c_states_many c_lots_many c_strewn
  have c_right := cald_of (st := s_right) F_right hm_right o_right (fun _ _ _ _ _ _ us hl => match us, hl with | [_], _ => rfl)
  exact ok_law F_law G c_cells c_box c_right
end DL.K26
namespace DL.K26
open PySem PySem.Spec L2 DL
end DL.K26
open PySem PySem.W PySem.Calls PyProof.Rows
theorem DL.K26.goal (hspec : ∀ ns : List Int, ns.length ≤ 63 → ∃ M, DL.K26.m_law [.s (ns.map PyData.int)] [] = .ok (.d (.bool true)) M) : PySem.Challenge.rw_tollround_k26_whole_counts_of_all_lots.Holds := by
  w_on; o_law
  refine HandSHeadRun.head_imp (r := OpenLaw.row PySem.Challenge.rw_tollround_k26_whole_counts_of_all_lots) (q := view (OpenLaw.row PySem.Challenge.rw_tollround_k26_whole_counts_of_all_lots).prog [0, 20]) (H := DL.K26.hk) (ob := DL.K26.ob) (M := 20000) (loose := DL.K26.loose) (d := HandSHeadRun.topDef (OpenLaw.row PySem.Challenge.rw_tollround_k26_whole_counts_of_all_lots).prog 20) (kwd := []) DL.K26.ob_eq
    DL.K26.run (by kernel_rfl) (by kernel_rfl) (by kernel_rfl) (by rfl) (by first | assumption | decide +kernel) (by decide +kernel) ⟨rfl, rfl, rfl, rfl, rfl, by decide +kernel⟩ ?hw ?hc
  case hw => w_witness2
  case hc =>
    refine DL.walk_end (l := PySem.Challenge.rw_tollround_k26_whole_counts_of_all_lots) (n := 63) (k := 13) (x := "_law_script") (m := DL.K26.m_law) rfl (by decide) (by kernel_rfl) ⟨rfl, by decide, by decide⟩ ?F hspec
    intro w mg fa h Y G hmg0
    obtain ⟨K, KX, c⟩ := Y
    have hmg : mg ("law" : PySem.Str) = some (.ref fa) := by
      have e : (HandSHeadRun.topDef (OpenLaw.row PySem.Challenge.rw_tollround_k26_whole_counts_of_all_lots).prog 20).name = ("law" : PySem.Str) := by kernel_rfl
      rw [← e]
      exact hmg0
    obtain ⟨fd, hb, hF⟩ := DL.K26.facts (P := (PySem.Challenge.rw_tollround_k26_whole_counts_of_all_lots).prog) (w := w) KX G hmg c
    exact ⟨K, fd, KX, hb, hF⟩
theorem PySem.Challenge.cw_tollround_k26_whole_counts_of_all_lots_holds : PySem.Challenge.rw_tollround_k26_whole_counts_of_all_lots.Holds :=
  DL.K26.goal fun ns h => DL.K26.law_ok ns h
