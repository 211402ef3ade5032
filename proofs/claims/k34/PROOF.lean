import PyProof.Rows.All
import Wide.All
import OpenK.AllK
import Wide.FinOn
import HandS.Base
import HandS.Call
import HandS.List
import HandS.Conv
import HandS.TupAny
import HandS.TupMul
import HandS.Exc
import HandS.Comp
import HandS.HeadHook1
import HandS.ExcOwn
import HandS.CallSlots
import HandS.Wide
import HandS.Text
import HandS.Deep
import HandS.IsInst
import HandS.Zip0
import HandS.Zip
import HandS.TupLe
import HandS.Walk
import KE.KTupSum
import KE.GoesEnum
import HandS.Words
import HandS.WordsExc
import HandS.Defaults
import HandS.HeadEnd
import HandS.HeadHook2
import HandS.Head2
import HandS.Style
import PyProof.ReprRoads
import PyProof.ReprLen
import PyProof.FitsInt
import PyProof.ListIndex
import HandS.Strs
import HandS.SortInts
import HandS.SortOrd
import PyProof.ReprBulk
import KE.DataMinMax
import HandS.TupSets
import HandS.Flow
import HandS.SortKw
import HandS.ExcInit
import HandS.TryMany
import KE.KExcInit
import KE.KExcIs
import HandS.ExcField
import HandS.ExcValue
import HandS.SetFor
import KE.KDictZip
import HandS.MapObj
import HandS.Ends
import HandS.More
import HandS.Head0
import HandS.Head1
import KE.KStateDown
import Lean
import PySem.Challenge.RW_tollround_k34_wishes_that_are_met
set_option Elab.async false
set_option linter.all false
set_option maxRecDepth 100000
set_option maxHeartbeats 0
set_option autoImplicit false
namespace DL
open PySem PySem.Spec L2
def TupO (o : Obj) : Prop := o.cls = .type "tuple" ∧ o.dict = none
/-- what a new tuple of xs must end at -/
def NewT (xs : List V) (H : Hp) (Q : VK) : Prop := ∀ p o, TupO o → H p = none → Q (.ref p) (upd H p (.frz o (.tup xs)))
/-- .. or the thing that stood there -/
def rTupOf (K : PySem.W.Frag) : List V → Hp → VK → Prop := fun us H Q => ∃ p ys, us = [.ref p] ∧ ((SqL K H p ys ∧ NewT ys H Q) ∨ (SqT K H p ys ∧ Q (.ref p) H))
def rAddT (K : PySem.W.Frag) : R2 := fun x y H Q => ∃ a b xs ys, (x = .ref a ∧ SqT K H a xs) ∧ (y = .ref b ∧ SqT K H b ys) ∧ xs.length + ys.length ≤ sizeLine ∧ (xs = [] → Q (.ref b) H) ∧ (xs ≠ [] → ys = [] → Q (.ref a) H) ∧ NewT (xs ++ ys) H Q
section
variable {X : Cx} {pins : List (Addr × Obj)} {σ : L2.St} {H : Hp} {s : Shared} {xs : List V} {its : List Value} {Q : VK}
theorem tup_laid (I : Inv X pins σ H s) (r : Vals xs its) (hz : xs.length ≤ sizeLine) (q : NewT xs H Q) {t : Nat} : EP X pins σ Q (.ref s.heap.objs.size) { s with heap := s.heap.push { cls := .type "tuple", data := .seq its.toArray }, toks := t } := by
  have at0 := Heap.get?_push_size s.heap (o := { cls := .type "tuple", data := .seq its.toArray }) rfl
  exact ⟨.ref s.heap.objs.size, _, I.laid (t' := t) (o := .frz _ (.tup xs)) (fun _ _ => Heap.get?_push_of_some _) (Nat.le_refl _) ⟨at0, hz, its, r, _, at0, rfl, _, rfl⟩, rfl, q _ _ ⟨rfl, rfl⟩ (I.hok.fresh (Nat.le_refl _))⟩
theorem pe_tupX {es : List Expr} {k : Nat} {pos : Pos} {t : TA} (h : PA X es t) : PE X (.Tuple es k pos) (fun σ H Q => t σ H fun xs H1 => xs.length ≤ sizeLine ∧ NewT xs H1 Q) :=
  ⟨fun pins s σ H Q I q => wpAny_Tuple_spliced (thn (h.run pos pins s σ H _ I q) fun us s1 ⟨xs, H1, I1, r, z, q1⟩ => ⟨r.length ▸ z, tup_laid I1 r z q1⟩)⟩
open PyProof.Rows in
theorem call_tupX : CallR X (.type "tuple") (rTupOf X.K) := by
  rintro pins s σ H vs us Q I rv ⟨p, ys, rfl, h⟩
  obtain ⟨u, rfl, ru⟩ := vals1 rv
  obtain rfl : u = Value.ref p := ru
  cases h with
  | inl h =>
    obtain ⟨its, r, pl, hz⟩ := I.list h.1
    exact call_tuple_list pl.isList (fun h' kp => tup_laid (I.kept (t' := s.toks) kp) r hz h.2) (by rw [List.size_toArray, ← r.length]; exact hz)
  | inr h =>
    obtain ⟨its, r, pl, hz⟩ := I.tuple h.1
    exact call_tuple_same pl ⟨.ref p, H, I, rfl, h.2⟩
open PyProof.Rows in
theorem op_addT : OpR X (binaryOp .Add) (rAddT X.K) := by
  rintro pins s σ H x y v u Q I rx ry ⟨a, b, xs, ys, ⟨rfl, ha⟩, ⟨rfl, hb⟩, hz, q0, q1, q2⟩
  obtain rfl : v = Value.ref a := rx
  obtain rfl : u = Value.ref b := ry
  obtain ⟨i1, r1, p1, _⟩ := I.tuple ha
  obtain ⟨i2, r2, p2, _⟩ := I.tuple hb
  rcases Classical.em (xs = []) with hx | hx
  · subst hx
    cases r1
    exact cat_tup0 p1 p2 ⟨.ref b, H, I, rfl, q0 rfl⟩
  · exact HT.cat_tup p1 p2 (fun z => hx (r1.nil_iff.mp z)) (fun z => ⟨.ref a, H, I, rfl, q1 hx (r2.nil_iff.mp z)⟩) (fun _ => tup_laid I (r1.append r2) (by rw [List.length_append]; exact hz) q2) (by rw [← r1.length, ← r2.length]; exact hz)
/-- t * k -/
def rMulX (K : PySem.W.Frag) : R2 := fun x y H Q => ∃ l k xs, (x = .ref l ∧ SqT K H l xs) ∧ y = .int k ∧ (xs ≠ [] ∧ 2 ≤ k ∧ k ≤ 1000 ∧ xs.length ≤ 1000) ∧ NewT (List.replicate k.toNat xs).flatten H Q
open PyProof.Rows in
theorem op_mulX : OpR X (binaryOp .Mult) (rMulX X.K) := by
  rintro pins s σ H x y v u Q I rx ry ⟨l, k, xs, ⟨rfl, hT⟩, rfl, ⟨hne, k1, k2, hx⟩, q⟩
  obtain rfl : v = Value.ref l := rx
  obtain ⟨t, rfl⟩ := ry
  obtain ⟨its, r, ⟨ob, ho, hc, n, hd⟩, _⟩ := I.tuple hT
  have hlen := r.length
  have hob : ob = { cls := .type "tuple", dict := ob.dict, data := .seq its.toArray n, slots := ob.slots } := by
    rw [← hc, ← hd]
  rw [hob] at ho
  have hpos : 0 < its.length := by
    rw [← hlen]
    exact List.length_pos_iff.mpr hne
  have hemp : its.toArray.isEmpty = false := by
    rw [Array.isEmpty, decide_eq_false]
    rw [List.size_toArray]
    omega
  have hbig : k.toNat * xs.length ≤ 1000000 := Nat.le_trans (Nat.mul_le_mul (show k.toNat ≤ 1000 by omega) hx) (by decide)
  have hprod : ((its.toArray.size : Nat) : Int) * k ≤ 1000000 := by
    rw [List.size_toArray, ← hlen]
    have e : ((xs.length : Nat) : Int) * k = ((k.toNat * xs.length : Nat) : Int) := by
      rw [Int.natCast_mul, Int.toNat_of_nonneg (by omega), Int.mul_comm]
    rw [e]
    omega
  have hfl : (List.replicate k.toNat its).flatten.length = k.toNat * xs.length := by rw [lm_len_rep_flat, hlen]
  have hmul := tuple_mulW l its.toArray n ob.dict ob.slots k t (by simp only [Bool.or_eq_false_iff, decide_eq_false_iff_not]; omega) (by rw [hemp]; simp only [Bool.false_or, beq_eq_false_iff_ne]; omega) (by rw [hemp]; simp only [Bool.or_false, decide_eq_false_iff_not]; omega) (by omega)
    (by unfold Builtin.Tuple.tupleTooMany; rw [sizeLine_eq]; simp only [decide_eq_false_iff_not]; omega) (by rw [size_rep, List.size_toArray, hfl, sizeLine_eq]; omega)
  have isT : s.TypeIs (.ref l) "tuple" := ⟨_, ho, rfl⟩
  have done := tup_laid I (r.rep k.toNat) (by rw [lm_len_rep_flat, sizeLine_eq]; omega) q (t := s.toks)
  refine wpAny_binaryOp_repeat_ref (T := "tuple") (U := "int") (by decide) isT (fun s' => typeIs_int s' k t) noFill_tuple_mul F.fills_int_mul F.slot_int_rmul repeat_tuple F.slot_int_index.lookup ?_
  refine call_meets F.slot_int_rmul (typeIs_int s k t) F.entry_int_rmul (F.args_int_rmul_2 _ _) (int_rmul_tuple k t l its.toArray n ob.dict ob.slots) ⟨ho, rfl, isT, ?_⟩
  refine call_meets F.slot_tuple_mul isT F.entry_tuple_mul (F.args_tuple_mul_2 _ _) hmul ⟨ho, ?_⟩
  rw [size_rep]
  exact done
end
end DL
namespace DL
open PySem PySem.Spec L2
/-- a value: data that does not change, a handle of a list that may change, an object of the module, a built-in class -/
inductive Vl where
  | d (x : PyData)
  | h (i : Nat)
  | a (p : Addr)
  | t (n : String)
  /-- a caught error of the class n, with its fields; a class of the program -/
  | x (n : Str) (fs : List (Str × PyData))
  | c (n : Str)
  /-- a list that is only read: the script -/
  | s (xs : List PyData)
/-- what a handle stands for -/
inductive MO where
  | gone
  | lst (xs : List PyData)
  /-- a list that holds lists which may change -/
  | nest (vs : List Vl)
abbrev Mem := List MO
abbrev Env := List (Option Vl)
/-- an outcome: a value and the store; an error of the class at C with its fields; no promise -/
inductive Res (α : Type) where
  | ok (x : α) (M : Mem)
  | er (C : Str) (fs : List (Str × PyData)) (M : Mem)
  | st
def Res.bind {α β : Type} (r : Res α) (k : α → Mem → Res β) : Res β :=
  match r with
  | .ok x M => k x M
  | .er C fs M => .er C fs M
  | .st => .st
abbrev Ev := Env → Mem → Res Vl
abbrev Evs := Env → Mem → Res (List Vl)
/-- the world: where the handles stand, what is frozen -/
structure Wd where
  as : List Addr
  F : Hp
  /-- what is set aside: it stays as it is -/
  P : Hp
structure Wd.le (w w' : Wd) : Prop where
  «1» : w.as <+: w'.as
  «2» : ∀ a o, w.F a = some o → w'.F a = some o
  «3» : w'.P = w.P
theorem Wd.le_refl (w : Wd) : w.le w := ⟨List.prefix_refl _, fun _ _ h => h, rfl⟩
theorem Wd.le.trans {a b c : Wd} (h : a.le b) (k : b.le c) : a.le c := ⟨h.1.trans k.1, fun x o e => k.2 x o (h.2 x o e), k.3.trans h.3⟩
theorem Wd.le.get {w w' : Wd} (l : w.le w') {i : Nat} {a : Addr} (h : w.as[i]? = some a) : w'.as[i]? = some a := by
  obtain ⟨t, e⟩ := l.1
  have hi : i < w.as.length := (List.getElem?_eq_some_iff.mp h).1
  rw [← e, List.getElem?_append_left hi]
  exact h
theorem Rd.up {F F' : Hp} (l : ∀ a o, F a = some o → F' a = some o) {a : Addr} {u : HO} (h : Rd F a u) : Rd F' a u := by
  rcases h with h | ⟨o, h⟩
  · exact .inl (l _ _ h)
  · exact .inr ⟨o, l _ _ h⟩
theorem SqL.up {K : PySem.W.Frag} {F F' : Hp} (l : ∀ a o, F a = some o → F' a = some o) {a : Addr} {xs : List V} (h : SqL K F a xs) : SqL K F' a xs :=
  h.elim (fun r => .inl (Rd.up l r)) .inr
theorem SqT.up {K : PySem.W.Frag} {F F' : Hp} (l : ∀ a o, F a = some o → F' a = some o) {a : Addr} {xs : List V} (h : SqT K F a xs) : SqT K F' a xs :=
  h.elim (fun r => .inl (Rd.up l r)) .inr
/-- a tuple whose object is known -/
def SqX (F : Hp) (p : Addr) (xs : List V) : Prop := ∃ o, TupO o ∧ F p = some (.frz o (.tup xs))
theorem SqX.up {F F' : Hp} (l : ∀ a o, F a = some o → F' a = some o) {a : Addr} {xs : List V} : SqX F a xs → SqX F' a xs := fun ⟨o, h, e⟩ => ⟨o, h, l _ _ e⟩
theorem SqX.t {K : PySem.W.Frag} {F : Hp} {a : Addr} {xs : List V} : SqX F a xs → SqT K F a xs := fun ⟨o, _, e⟩ => .inl (.inr ⟨o, e⟩)
mutual
inductive Dp (K : PySem.W.Frag) (F : Hp) : V → PyData → Prop
  | non : Dp K F .non .none
  | bl (b : Bool) : Dp K F (.bl b) (.bool b)
  | int (i : Int) : Dp K F (.int i) (.int i)
  | str (x : Str) : Dp K F (.str x) (.str x)
  | lst {p : Addr} {xs : List V} {ds : List PyData} : F p = some (.lst xs) → DpAll K F xs ds → Dp K F (.ref p) (.list ds)
  | tup {p : Addr} {xs : List V} {ds : List PyData} : SqX F p xs → DpAll K F xs ds → Dp K F (.ref p) (.tuple ds)
inductive DpAll (K : PySem.W.Frag) (F : Hp) : List V → List PyData → Prop
  | nil : DpAll K F [] []
  | cons {v : V} {vs : List V} {d : PyData} {ds : List PyData} : Dp K F v d → DpAll K F vs ds → DpAll K F (v :: vs) (d :: ds)
end
mutual
theorem Dp.deep {K : PySem.W.Frag} {F F' : Hp} (l : ∀ a o, F a = some o → F' a = some o) : ∀ (d : PyData) (v : V), Dp K F v d → L2.Dp K F' v d
  | .none, _, h => by cases h; exact .non
  | .bool b, _, h => by cases h; exact .bl b
  | .int i, _, h => by cases h; exact .int i
  | .str x, _, h => by cases h; exact .str x
  | .list ds, _, h => by
    cases h with
    | lst hs ha => exact .lst (.inl (.inl (l _ _ hs))) (DpAll.deep l ds _ ha)
  | .tuple ds, _, h => by
    cases h with
    | tup hs ha => exact .tup (SqT.up l hs.t) (DpAll.deep l ds _ ha)
  | .dict _, _, h => by cases h
theorem DpAll.deep {K : PySem.W.Frag} {F F' : Hp} (l : ∀ a o, F a = some o → F' a = some o) : ∀ (ds : List PyData) (vs : List V), DpAll K F vs ds → L2.DpAll K F' vs ds
  | [], _, h => by cases h; exact .nil
  | d :: ds, _, h => by
    cases h with
    | cons h1 h2 => exact .cons (Dp.deep l d _ h1) (DpAll.deep l ds _ h2)
end
mutual
theorem Dp.up {K : PySem.W.Frag} {F F' : Hp} (l : ∀ a o, F a = some o → F' a = some o) : ∀ (d : PyData) (v : V), Dp K F v d → Dp K F' v d
  | .none, _, h => by cases h; exact .non
  | .bool b, _, h => by cases h; exact .bl b
  | .int i, _, h => by cases h; exact .int i
  | .str x, _, h => by cases h; exact .str x
  | .list ds, _, h => by
    cases h with
    | lst hs ha => exact .lst (l _ _ hs) (DpAll.up l ds _ ha)
  | .tuple ds, _, h => by
    cases h with
    | tup hs ha => exact .tup (hs.up l) (DpAll.up l ds _ ha)
  | .dict _, _, h => by cases h
theorem DpAll.up {K : PySem.W.Frag} {F F' : Hp} (l : ∀ a o, F a = some o → F' a = some o) : ∀ (ds : List PyData) (vs : List V), DpAll K F vs ds → DpAll K F' vs ds
  | [], _, h => by cases h; exact .nil
  | d :: ds, _, h => by
    cases h with
    | cons h1 h2 => exact .cons (Dp.up l d _ h1) (DpAll.up l ds _ h2)
end
theorem DpAll.len {K : PySem.W.Frag} {F : Hp} : ∀ {vs : List V} {ds : List PyData}, DpAll K F vs ds → vs.length = ds.length
  | _, _, .nil => rfl
  | _, _, .cons _ t => by simp [DpAll.len t]
theorem DpAll.get {K : PySem.W.Frag} {F : Hp} : ∀ {vs : List V} {ds : List PyData} {i : Nat} {d : PyData}, DpAll K F vs ds → ds[i]? = some d → ∃ v, vs[i]? = some v ∧ Dp K F v d
  | _, _, _, _, .nil, e => by simp at e
  | _, _, 0, _, .cons r _, e => by simp at e; subst e; exact ⟨_, rfl, r⟩
  | _, _, i + 1, d, .cons _ t, e => by
    obtain ⟨u, h1, h2⟩ := DpAll.get (i := i) (d := d) t (by simpa using e)
    exact ⟨u, by simpa using h1, h2⟩
theorem DpAll.get' {K : PySem.W.Frag} {F : Hp} : ∀ {vs : List V} {ds : List PyData} {i : Nat} {v : V}, DpAll K F vs ds → vs[i]? = some v → ∃ d, ds[i]? = some d ∧ Dp K F v d
  | _, _, _, _, .nil, e => by simp at e
  | _, _, 0, _, .cons r _, e => by simp at e; subst e; exact ⟨_, rfl, r⟩
  | _, _, i + 1, v, .cons _ t, e => by
    obtain ⟨u, h1, h2⟩ := DpAll.get' (i := i) (v := v) t (by simpa using e)
    exact ⟨u, by simpa using h1, h2⟩
theorem DpAll.app {K : PySem.W.Frag} {F : Hp} : ∀ {vs ws : List V} {ds es : List PyData}, DpAll K F vs ds → DpAll K F ws es → DpAll K F (vs ++ ws) (ds ++ es)
  | _, _, _, _, .nil, h => h
  | _, _, _, _, .cons r t, h => .cons r (DpAll.app t h)
theorem DpAll.one {K : PySem.W.Frag} {F : Hp} {v : V} {d : PyData} (h : Dp K F v d) : DpAll K F [v] [d] := .cons h .nil
theorem DpAll.take {K : PySem.W.Frag} {F : Hp} : ∀ {vs : List V} {ds : List PyData} (n : Nat), DpAll K F vs ds → DpAll K F (vs.take n) (ds.take n)
  | _, _, 0, _ => .nil
  | _, _, _ + 1, .nil => .nil
  | _, _, n + 1, .cons r t => .cons r (DpAll.take n t)
theorem DpAll.drop {K : PySem.W.Frag} {F : Hp} : ∀ {vs : List V} {ds : List PyData} (n : Nat), DpAll K F vs ds → DpAll K F (vs.drop n) (ds.drop n)
  | _, _, 0, h => h
  | _, _, _ + 1, .nil => .nil
  | _, _, n + 1, .cons _ t => DpAll.drop n t
theorem DpAll.set {K : PySem.W.Frag} {F : Hp} {v : V} {d : PyData} (r : Dp K F v d) : ∀ {vs : List V} {ds : List PyData} (i : Nat), DpAll K F vs ds → DpAll K F (vs.set i v) (ds.set i d)
  | _, _, _, .nil => .nil
  | _, _, 0, .cons _ t => .cons r t
  | _, _, i + 1, .cons q t => .cons q (DpAll.set r i t)
theorem DpAll.erase {K : PySem.W.Frag} {F : Hp} : ∀ {vs : List V} {ds : List PyData} (i : Nat), DpAll K F vs ds → DpAll K F (vs.eraseIdx i) (ds.eraseIdx i)
  | _, _, _, .nil => .nil
  | _, _, 0, .cons _ t => t
  | _, _, i + 1, .cons r t => .cons r (DpAll.erase i t)
theorem DpAll.rep {K : PySem.W.Frag} {F : Hp} {vs : List V} {ds : List PyData} (h : DpAll K F vs ds) : ∀ k : Nat, DpAll K F (List.replicate k vs).flatten (List.replicate k ds).flatten
  | 0 => .nil
  | k + 1 => by
    rw [List.replicate_succ, List.replicate_succ, List.flatten_cons, List.flatten_cons]
    exact DpAll.app h (DpAll.rep h k)
theorem DpAll.ints {K : PySem.W.Frag} {F : Hp} : ∀ (ns : List Int), DpAll K F (ns.map V.int) (ns.map PyData.int)
  | [] => .nil
  | n :: ns => .cons (.int n) (DpAll.ints ns)
/-- an error that is kept -/
def errO (e : Addr) (cls : Value) (d : Option Addr) : HO := .ext fun h => ∃ (o : Obj) (vs : Array Value), h.get? e = some o ∧ o.cls = cls ∧ o.dict = d ∧ o.data = .fields vs
def XF (K : PySem.W.Frag) (F : Hp) (d : Option Addr) (fs : List (Str × PyData)) : Prop :=
  (fs = [] → d = none) ∧ (fs ≠ [] → ∃ q vs, d = some q ∧ F q = some (.xd vs) ∧ vs.map (·.1) = fs.map (·.1) ∧ DpAll K F (vs.map (·.2)) (fs.map (·.2)))
/-- how a value lies -/
def RV (K : PySem.W.Frag) (w : Wd) : Vl → V → Prop
  | .d x, v => Dp K w.F v x
  | .h i, v => ∃ a, w.as[i]? = some a ∧ v = .ref a
  | .a p, v => v = .ref p
  | .t n, v => v = .ty n
  | .x n fs, v => ∃ p d, v = .ref p ∧ w.F p = some (errO p (.ref (He.ga K n)) d) ∧ XF K w.F d fs
  | .c n, v => v = .ref (He.ga K n)
  | .s xs, v => ∃ p vs, v = .ref p ∧ SqL K w.F p vs ∧ DpAll K w.F vs xs
theorem XF.up {K : PySem.W.Frag} {F F' : Hp} (l : ∀ a o, F a = some o → F' a = some o) {d : Option Addr} {fs : List (Str × PyData)} (h : XF K F d fs) : XF K F' d fs := ⟨h.1, fun hn => by
  obtain ⟨q, vs, e1, e2, e3, e4⟩ := h.2 hn
  exact ⟨q, vs, e1, l _ _ e2, e3, DpAll.up l _ _ e4⟩⟩
theorem RV.up {K : PySem.W.Frag} {w w' : Wd} (l : w.le w') : ∀ {x : Vl} {v : V}, RV K w x v → RV K w' x v
  | .d x, v, h => Dp.up l.2 x v h
  | .h i, v, ⟨a, e, r⟩ => ⟨a, l.get e, r⟩
  | .a p, v, h => h
  | .t n, v, h => h
  | .x n fs, v, ⟨p, d, e, r, q⟩ => ⟨p, d, e, l.2 _ _ r, q.up l.2⟩
  | .c n, v, h => h
  | .s xs, v, ⟨p, vs, e, r, q⟩ => ⟨p, vs, e, SqL.up l.2 r, DpAll.up l.2 _ _ q⟩
inductive RVs (K : PySem.W.Frag) (w : Wd) : List Vl → List V → Prop
  | nil : RVs K w [] []
  | cons {x : Vl} {xs : List Vl} {v : V} {vs : List V} : RV K w x v → RVs K w xs vs → RVs K w (x :: xs) (v :: vs)
theorem RVs.up {K : PySem.W.Frag} {w w' : Wd} (l : w.le w') : ∀ {xs : List Vl} {vs : List V}, RVs K w xs vs → RVs K w' xs vs
  | _, _, .nil => .nil
  | _, _, .cons r t => .cons (RV.up l r) (RVs.up l t)
theorem RVs.len {K : PySem.W.Frag} {w : Wd} : ∀ {xs : List Vl} {vs : List V}, RVs K w xs vs → xs.length = vs.length
  | _, _, .nil => rfl
  | _, _, .cons _ t => by simp [RVs.len t]
theorem RVs.get {K : PySem.W.Frag} {w : Wd} : ∀ {xs : List Vl} {vs : List V} {i : Nat} {x : Vl}, RVs K w xs vs → xs[i]? = some x → ∃ v, vs[i]? = some v ∧ RV K w x v
  | _, _, _, _, .nil, e => by simp at e
  | _, _, 0, _, .cons r _, e => by simp at e; subst e; exact ⟨_, rfl, r⟩
  | _, _, i + 1, x, .cons _ t, e => by
    obtain ⟨u, h1, h2⟩ := RVs.get (i := i) (x := x) t (by simpa using e)
    exact ⟨u, by simpa using h1, h2⟩
theorem RVs.app {K : PySem.W.Frag} {w : Wd} : ∀ {xs ys : List Vl} {vs us : List V}, RVs K w xs vs → RVs K w ys us → RVs K w (xs ++ ys) (vs ++ us)
  | _, _, _, _, .nil, h => h
  | _, _, _, _, .cons r t, h => .cons r (RVs.app t h)
theorem RV.reP {K : PySem.W.Frag} {w : Wd} {P : Hp} : ∀ {x : Vl} {v : V}, RV K w x v → RV K ⟨w.as, w.F, P⟩ x v
  | .d _, _, h => h
  | .h _, _, h => h
  | .a _, _, h => h
  | .t _, _, h => h
  | .x _ _, _, h => h
  | .c _, _, h => h
  | .s _, _, h => h
theorem RVs.reP {K : PySem.W.Frag} {w : Wd} {P : Hp} : ∀ {xs : List Vl} {vs : List V}, RVs K w xs vs → RVs K ⟨w.as, w.F, P⟩ xs vs
  | _, _, .nil => .nil
  | _, _, .cons r t => .cons r.reP (RVs.reP t)
/-- with fewer handles -/
theorem RVs.low {K : PySem.W.Frag} {w : Wd} {n : Nat} : ∀ {xs : List Vl} {vs : List V}, RVs K w xs vs → (∀ j, Vl.h j ∈ xs → j < n) → RVs K ⟨w.as.take n, w.F, w.P⟩ xs vs
  | _, _, .nil, _ => .nil
  | .d _ :: _, _, .cons r t, h => .cons r (RVs.low t fun j hj => h j (List.mem_cons_of_mem _ hj))
  | .h k :: _, _, .cons ⟨a, e, v⟩ t, h => .cons ⟨a, (List.getElem?_take_of_lt (h k List.mem_cons_self)).trans e, v⟩ (RVs.low t fun j hj => h j (List.mem_cons_of_mem _ hj))
  | .a _ :: _, _, .cons r t, h => .cons r (RVs.low t fun j hj => h j (List.mem_cons_of_mem _ hj))
  | .t _ :: _, _, .cons r t, h => .cons r (RVs.low t fun j hj => h j (List.mem_cons_of_mem _ hj))
  | .x _ _ :: _, _, .cons r t, h => .cons r (RVs.low t fun j hj => h j (List.mem_cons_of_mem _ hj))
  | .c _ :: _, _, .cons r t, h => .cons r (RVs.low t fun j hj => h j (List.mem_cons_of_mem _ hj))
  | .s _ :: _, _, .cons r t, h => .cons r (RVs.low t fun j hj => h j (List.mem_cons_of_mem _ hj))
/-- all of them data -/
def datas : List Vl → Option (List PyData)
  | [] => some []
  | .d x :: r => (datas r).map (x :: ·)
  | _ :: _ => none
theorem RVs.dat {K : PySem.W.Frag} {w : Wd} : ∀ {xs : List Vl} {vs : List V} {ds : List PyData}, RVs K w xs vs → datas xs = some ds → DpAll K w.F vs ds
  | _, _, _, .nil, e => by
    have : [] = _ := Option.some.inj e
    subst this
    exact .nil
  | .d x :: r, _, ds, .cons h t, e => by
    cases q : datas r with
    | none => simp [datas, q] at e
    | some l =>
      simp [datas, q] at e
      subst e
      exact .cons h (RVs.dat t q)
  | .h _ :: _, _, _, .cons _ _, e => by simp [datas] at e
  | .a _ :: _, _, _, .cons _ _, e => by simp [datas] at e
  | .t _ :: _, _, _, .cons _ _, e => by simp [datas] at e
  | .x _ _ :: _, _, _, .cons _ _, e => by simp [datas] at e
  | .c _ :: _, _, _, .cons _ _, e => by simp [datas] at e
  | .s _ :: _, _, _, .cons _ _, e => by simp [datas] at e
/-- the names' values -/
structure RE (K : PySem.W.Frag) (w : Wd) (e : Env) (σ : L2.St) : Prop where
  len : e.length = σ.length
  get : ∀ (i : Nat) (x : Vl), e[i]? = some (some x) → ∃ v, σ[i]? = some (some v) ∧ RV K w x v
theorem RE.up {K : PySem.W.Frag} {w w' : Wd} (l : w.le w') {e : Env} {σ : St} (h : RE K w e σ) : RE K w' e σ :=
  ⟨h.len, fun i x q => let ⟨v, a, b⟩ := h.get i x q; ⟨v, a, RV.up l b⟩⟩
theorem RE.set {K : PySem.W.Frag} {w : Wd} {e : Env} {σ : St} (h : RE K w e σ) {x : Vl} {v : V} (r : RV K w x v) (i : Nat) : RE K w (e.set i (some x)) (σ.set i (some v)) :=
  ⟨by simp [h.len], fun j y q => by
    by_cases hj : i = j
    · subst hj
      by_cases hi : i < e.length
      · rw [List.getElem?_set_self hi] at q
        cases q
        exact ⟨v, by rw [List.getElem?_set_self (by rw [← h.len]; exact hi)], r⟩
      · rw [List.getElem?_eq_none (by simpa using hi)] at q
        cases q
    · rw [List.getElem?_set_ne hj] at q ⊢
      exact h.get j y q⟩
theorem RE.unset {K : PySem.W.Frag} {w : Wd} {e : Env} {σ : St} (h : RE K w e σ) (i : Nat) : RE K w (e.set i none) (σ.set i none) :=
  ⟨by simp [h.len], fun j y q => by
    by_cases hj : i = j
    · subst hj
      by_cases hi : i < e.length
      · rw [List.getElem?_set_self hi] at q
        cases q
      · rw [List.getElem?_eq_none (by simpa using hi)] at q
        cases q
    · rw [List.getElem?_set_ne hj] at q ⊢
      exact h.get j y q⟩
/-- a slot that is known no more -/
def ewipe (e : Env) : List Nat → Env
  | [] => e
  | v :: vs => (ewipe e vs).set v none
theorem RE.wiped {K : PySem.W.Frag} {w : Wd} {e : Env} {σ : L2.St} (h : RE K w e σ) : ∀ vs : List Nat, RE K w (ewipe e vs) (wipe σ vs)
  | [] => h
  | v :: vs => (RE.wiped h vs).unset v
/-- how a handle's matter lies -/
def MOk (K : PySem.W.Frag) (w : Wd) (a : Addr) (o : Option HO) : MO → Prop
  | .gone => ∃ u, o = some u
  | .lst xs => w.F a = none ∧ ∃ vs, o = some (.lst vs) ∧ DpAll K w.F vs xs
  | .nest xs => w.F a = none ∧ ∃ i vs, w.as[i]? = some a ∧ o = some (.lst vs) ∧ RVs K w xs vs ∧ ∀ j, Vl.h j ∈ xs → j < i
/-- the world's shape in the abstract heap -/
structure Rel (K : PySem.W.Frag) (w : Wd) (M : Mem) (H : Hp) : Prop where
  sub : ∀ a o, w.F a = some o → H a = some o
  len : w.as.length = M.length
  nd : w.as.Nodup
  pin : ∀ a o, w.P a = some o → H a = some o ∧ w.F a = none ∧ a ∉ w.as
  ob : ∀ (i : Nat) (a : Addr) (m : MO), w.as[i]? = some a → M[i]? = some m → MOk K w a (H a) m
theorem Rel.there {K : PySem.W.Frag} {w : Wd} {M : Mem} {H : Hp} (r : Rel K w M H) {a : Addr} (h : a ∈ w.as) : ∃ u, H a = some u := by
  obtain ⟨i, hi⟩ := List.mem_iff_getElem?.mp h
  have hl : i < M.length := by rw [← r.len]; exact (List.getElem?_eq_some_iff.mp hi).1
  have q := r.ob i a _ hi (List.getElem?_eq_getElem hl)
  cases e : M[i] with
  | gone => rw [e] at q; exact q
  | lst xs => rw [e] at q; obtain ⟨_, vs, e2, _⟩ := q; exact ⟨_, e2⟩
  | nest xs => rw [e] at q; obtain ⟨_, _, vs, _, e2, _⟩ := q; exact ⟨_, e2⟩
theorem Rel.new {K : PySem.W.Frag} {w : Wd} {M : Mem} {H : Hp} (r : Rel K w M H) {p : Addr} (h : H p = none) : p ∉ w.as ∧ w.F p = none := by
  refine ⟨fun hm => ?_, ?_⟩
  · obtain ⟨u, e⟩ := r.there hm
    rw [h] at e; cases e
  · cases e : w.F p with
    | none => rfl
    | some o => have := r.sub p o e; rw [h] at this; cases this
/-- the world with p frozen as o -/
def Wd.fz (w : Wd) (p : Addr) (o : HO) : Wd := ⟨w.as, upd w.F p o, w.P⟩
def Wd.add (w : Wd) (p : Addr) : Wd := ⟨w.as ++ [p], w.F, w.P⟩
theorem Wd.le_fz {w : Wd} {p : Addr} {o : HO} (h : w.F p = none) : w.le (w.fz p o) :=
  ⟨List.prefix_refl _, fun a u e => by
    show upd w.F p o a = some u
    rw [upd_ne (ne_of_none e h)]; exact e, rfl⟩
theorem Wd.le_add {w : Wd} {p : Addr} : w.le (w.add p) := ⟨List.prefix_append _ _, fun _ _ e => e, rfl⟩
theorem MOk.up {K : PySem.W.Frag} {w w' : Wd} (l : w.le w') {a : Addr} {o : Option HO} (hF : w'.F a = none ∨ w.F a = w'.F a) : ∀ {m : MO}, MOk K w a o m → MOk K w' a o m
  | .gone, h => h
  | .lst xs, ⟨e, vs, e2, d⟩ => ⟨by rcases hF with q | q; exact q; rw [← q]; exact e, vs, e2, DpAll.up l.2 _ _ d⟩
  | .nest xs, ⟨e, i, vs, ei, e2, d, hj⟩ => ⟨by rcases hF with q | q; exact q; rw [← q]; exact e, i, vs, l.get ei, e2, RVs.up l d, hj⟩
/-- a new frozen object -/
theorem Rel.alloc {K : PySem.W.Frag} {w : Wd} {M : Mem} {H : Hp} (r : Rel K w M H) {p : Addr} (h : H p = none) (o : HO) : Rel K (w.fz p o) M (upd H p o) := by
  obtain ⟨h1, h2⟩ := r.new h
  refine ⟨fun a u e => ?_, r.len, r.nd, fun a u e => ?_, fun i a m e1 e2 => ?_⟩
  rotate_left
  · obtain ⟨q1, q2, q3⟩ := r.pin a u e
    have ha : a ≠ p := ne_of_none q1 h
    exact ⟨by rw [upd_ne ha]; exact q1, by show upd w.F p o a = none; rw [upd_ne ha]; exact q2, q3⟩
  rotate_left
  · have e : upd w.F p o a = some u := e
    by_cases ha : a = p
    · subst ha; rw [upd_same] at e ⊢; exact e
    · rw [upd_ne ha] at e ⊢; exact r.sub a u e
  · have ha : a ≠ p := fun z => h1 (z ▸ List.mem_of_getElem? e1)
    rw [upd_ne ha]
    exact (r.ob i a m e1 e2).up (Wd.le_fz h2) (.inr (by show _ = upd w.F p o a; rw [upd_ne ha]))
/-- a new handle -/
theorem Rel.fresh {K : PySem.W.Frag} {w : Wd} {M : Mem} {H : Hp} (r : Rel K w M H) {p : Addr} (h : H p = none) {vs : List V} {xs : List PyData} (d : DpAll K w.F vs xs) : Rel K (w.add p) (M ++ [.lst xs]) (upd H p (.lst vs)) := by
  obtain ⟨h1, h2⟩ := r.new h
  refine ⟨fun a u e => ?_, by show (w.as ++ [p]).length = _; simp [r.len], ?_, fun a u e => ?_, fun i a m e1 e2 => ?_⟩
  rotate_left 2
  · obtain ⟨q1, q2, q3⟩ := r.pin a u e
    have ha : a ≠ p := ne_of_none q1 h
    exact ⟨by rw [upd_ne ha]; exact q1, q2, by show a ∉ w.as ++ [p]; simp [q3, ha]⟩
  rotate_left
  · have e : w.F a = some u := e
    rw [upd_ne (ne_of_none e h2)]; exact r.sub a u e
  · show (w.as ++ [p]).Nodup
    rw [List.nodup_append]
    refine ⟨r.nd, by simp, fun a ha b hb z => ?_⟩
    have : b = p := by simpa using hb
    exact h1 (this ▸ z ▸ ha)
  · have e1 : (w.as ++ [p])[i]? = some a := e1
    by_cases hi : i < w.as.length
    · rw [List.getElem?_append_left hi] at e1
      rw [List.getElem?_append_left (by rw [← r.len]; exact hi)] at e2
      have ha : a ≠ p := fun z => h1 (z ▸ List.mem_of_getElem? e1)
      rw [upd_ne ha]
      exact (r.ob i a m e1 e2).up Wd.le_add (.inr rfl)
    · have hl : i = w.as.length := by
        have := (List.getElem?_eq_some_iff.mp e1).1
        simp at this; omega
      subst hl
      rw [List.getElem?_append_right (Nat.le_refl _)] at e1
      rw [r.len, List.getElem?_append_right (Nat.le_refl _)] at e2
      simp at e1 e2
      subst e1 e2
      rw [upd_same]
      exact ⟨h2, vs, rfl, d⟩
theorem Rel.at {K : PySem.W.Frag} {w : Wd} {M : Mem} {H : Hp} (r : Rel K w M H) {i : Nat} {a : Addr} {xs : List PyData} (h : w.as[i]? = some a) (hm : M[i]? = some (.lst xs)) : w.F a = none ∧ ∃ vs, H a = some (.lst vs) ∧ DpAll K w.F vs xs := r.ob i a _ h hm
theorem nodup_get {l : List Addr} (h : l.Nodup) {i j : Nat} {a : Addr} (hi : l[i]? = some a) (hj : l[j]? = some a) : i = j := by
  obtain ⟨h1, e1⟩ := List.getElem?_eq_some_iff.mp hi
  obtain ⟨h2, e2⟩ := List.getElem?_eq_some_iff.mp hj
  exact (List.getElem_inj h).mp (e1.trans e2.symm)
/-- a handle's list is changed -/
theorem Rel.write {K : PySem.W.Frag} {w : Wd} {M : Mem} {H : Hp} (r : Rel K w M H) {i : Nat} {a : Addr} (h : w.as[i]? = some a) (hF : w.F a = none) {vs : List V} {xs : List PyData} (d : DpAll K w.F vs xs) : Rel K w (M.set i (.lst xs)) (upd H a (.lst vs)) := by
  have ha : a ∈ w.as := List.mem_of_getElem? h
  refine ⟨fun b u e => ?_, by simp [r.len], r.nd, fun b u e => ?_, fun j b m e1 e2 => ?_⟩
  rotate_left
  · obtain ⟨q1, q2, q3⟩ := r.pin b u e
    have hb : b ≠ a := fun z => q3 (z ▸ ha)
    exact ⟨by rw [upd_ne hb]; exact q1, q2, q3⟩
  rotate_left
  · rw [upd_ne (ne_of_none e hF)]; exact r.sub b u e
  · by_cases hj : i = j
    · subst hj
      rw [h] at e1; cases e1
      have hl : i < M.length := by rw [← r.len]; exact (List.getElem?_eq_some_iff.mp h).1
      rw [List.getElem?_set_self hl] at e2; cases e2
      rw [upd_same]
      exact ⟨hF, vs, rfl, d⟩
    · rw [List.getElem?_set_ne hj] at e2
      have hb : b ≠ a := fun z => hj (nodup_get r.nd h (z ▸ e1))
      rw [upd_ne hb]
      exact r.ob j b m e1 e2
/-- a handle's list is frozen -/
theorem Rel.freeze {K : PySem.W.Frag} {w : Wd} {M : Mem} {H : Hp} (r : Rel K w M H) {i : Nat} {a : Addr} (h : w.as[i]? = some a) {vs : List V} {xs : List PyData} (hF : w.F a = none) (e : H a = some (.lst vs)) : Rel K (w.fz a (.lst vs)) (M.set i .gone) H := by
  have ha : a ∈ w.as := List.mem_of_getElem? h
  refine ⟨fun b u q => ?_, by show w.as.length = _; simp [r.len], r.nd, fun b u e => ?_, fun j b m e1 e2 => ?_⟩
  rotate_left
  · obtain ⟨q1, q2, q3⟩ := r.pin b u e
    have hb : b ≠ a := fun z => q3 (z ▸ ha)
    exact ⟨q1, by show upd w.F a _ b = none; rw [upd_ne hb]; exact q2, q3⟩
  rotate_left
  · have q : upd w.F a (.lst vs) b = some u := q
    by_cases hb : b = a
    · subst hb; rw [upd_same] at q; rw [← q]; exact e
    · rw [upd_ne hb] at q; exact r.sub b u q
  · have e1 : w.as[j]? = some b := e1
    by_cases hj : i = j
    · subst hj
      rw [h] at e1; cases e1
      have hl : i < M.length := by rw [← r.len]; exact (List.getElem?_eq_some_iff.mp h).1
      rw [List.getElem?_set_self hl] at e2; cases e2
      exact ⟨_, e⟩
    · rw [List.getElem?_set_ne hj] at e2
      have hb : b ≠ a := fun z => hj (nodup_get r.nd h (z ▸ e1))
      exact (r.ob j b m e1 e2).up (Wd.le_fz hF) (.inr (by show _ = upd w.F a _ b; rw [upd_ne hb]))
/-- set aside, and taken back -/
theorem Rel.aside {K : PySem.W.Frag} {w : Wd} {M : Mem} {H : Hp} (r : Rel K w M H) {p : Addr} {o : HO} (hF : w.F p = none) (hA : p ∉ w.as) : Rel K ⟨w.as, w.F, upd w.P p o⟩ M (upd H p o) := by
  refine ⟨fun a u e => ?_, r.len, r.nd, fun a u e => ?_, fun i a m e1 e2 => ?_⟩
  · rw [upd_ne (ne_of_none e hF)]; exact r.sub a u e
  · have e : upd w.P p o a = some u := e
    by_cases ha : a = p
    · subst ha
      rw [upd_same] at e
      exact ⟨by rw [upd_same]; exact e, hF, hA⟩
    · rw [upd_ne ha] at e
      rw [upd_ne ha]
      exact r.pin a u e
  · have ha : a ≠ p := fun z => hA (z ▸ List.mem_of_getElem? e1)
    rw [upd_ne ha]
    have q := r.ob i a m e1 e2
    cases m with
    | gone => exact q
    | lst xs => exact q
    | nest xs => obtain ⟨q1, j, vs, q2, q3, q4, q5⟩ := q; exact ⟨q1, j, vs, q2, q3, q4.reP, q5⟩
theorem Rel.back {K : PySem.W.Frag} {w : Wd} {M : Mem} {H : Hp} (r : Rel K w M H) {P : Hp} (hP : ∀ a o, P a = some o → w.P a = some o) : Rel K ⟨w.as, w.F, P⟩ M H := by
  refine ⟨r.sub, r.len, r.nd, fun a u e => r.pin a u (hP a u e), fun i a m e1 e2 => ?_⟩
  have q := r.ob i a m e1 e2
  cases m with
  | gone => exact q
  | lst xs => exact q
  | nest xs => obtain ⟨q1, j, vs, q2, q3, q4, q5⟩ := q; exact ⟨q1, j, vs, q2, q3, q4.reP, q5⟩
/-- younger handles are forgotten -/
theorem Rel.cut {K : PySem.W.Frag} {w : Wd} {M : Mem} {H : Hp} (r : Rel K w M H) (n : Nat) : Rel K ⟨w.as.take n, w.F, w.P⟩ (M.take n) H := by
  refine ⟨r.sub, by simp [r.len], r.nd.sublist (List.take_sublist _ _), fun a u e => let ⟨q1, q2, q3⟩ := r.pin a u e; ⟨q1, q2, fun z => q3 (List.mem_of_mem_take z)⟩, fun i a m e1 e2 => ?_⟩
  have e1 : (w.as.take n)[i]? = some a := e1
  have hi : i < n := by
    have := (List.getElem?_eq_some_iff.mp e1).1
    simp at this; omega
  rw [List.getElem?_take_of_lt hi] at e1 e2
  have q := r.ob i a m e1 e2
  cases m with
  | gone => exact q
  | lst xs => exact q
  | nest xs =>
    obtain ⟨q1, j, vs, q2, q3, q4, q5⟩ := q
    have hj : j = i := by
      exact nodup_get r.nd q2 e1
    subst hj
    exact ⟨q1, j, vs, (List.getElem?_take_of_lt hi).trans q2, q3, q4.low fun k hk => Nat.lt_trans (q5 k hk) hi, q5⟩
end DL
namespace DL
open PySem PySem.Spec L2
abbrev Frag := PySem.W.Frag
/-- an error's own dict -/
def XD (K : Frag) (w : Wd) (H : Hp) (d : Option Addr) (fs : List (Str × PyData)) : Prop :=
  (fs = [] → d = none) ∧ (fs ≠ [] → ∃ p vs, d = some p ∧ H p = some (.xd vs) ∧ vs.map (·.1) = fs.map (·.1) ∧ DpAll K w.F (vs.map (·.2)) (fs.map (·.2)) ∧ w.F p = none ∧ p ∉ w.as ∧ w.P p = none)
theorem XD.cut {K : Frag} {w : Wd} {H : Hp} {d : Option Addr} {fs : List (Str × PyData)} (h : XD K w H d fs) (n : Nat) : XD K ⟨w.as.take n, w.F, w.P⟩ H d fs := ⟨h.1, fun hn => by
  obtain ⟨p, vs, e1, e2, e3, e4, e5, e6, e7⟩ := h.2 hn
  exact ⟨p, vs, e1, e2, e3, e4, e5, fun z => e6 (List.mem_of_mem_take z), e7⟩⟩
/-- what is wanted of an outcome -/
def Post {α β : Type} (K : Frag) (E : XK) (RR : Wd → α → β → Prop) (w : Wd) (r : Res α) (Q : β → Hp → Prop) : Prop :=
  match r with
  | .ok x M => ∀ w' v H', w.le w' → Rel K w' M H' → RR w' x v → Q v H'
  | .er C fs M => ∀ w' d H', w.le w' → Rel K w' M H' → XD K w' H' d fs → E (.ref (He.ga K C)) d H'
  | .st => False
section
variable {α β γ δ : Type} {K : Frag} {E : XK} {RR : Wd → α → β → Prop} {RS : Wd → γ → δ → Prop} {w w' : Wd}
theorem Post.up {r : Res α} {Q : β → Hp → Prop} (l : w.le w') (h : Post K E RR w r Q) : Post K E RR w' r Q := by
  cases r with
  | ok x M => exact fun w2 v H' l2 => h w2 v H' (l.trans l2)
  | er C fs M => exact fun w2 d H' l2 => h w2 d H' (l.trans l2)
  | st => exact h
theorem Post.bind {r : Res α} {k : α → Mem → Res γ} {Q : δ → Hp → Prop} {R : β → Hp → Prop} (p : Post K E RS w (r.bind k) Q)
    (h : ∀ x M w' v H', w.le w' → Rel K w' M H' → RR w' x v → Post K E RS w' (k x M) Q → R v H') : Post K E RR w r R := by
  cases r with
  | ok x M => exact fun w' v H' l a b => h x M w' v H' l a b (Post.up l p)
  | er C fs M => exact p
  | st => exact p
theorem Post.at {x : α} {M : Mem} {Q : β → Hp → Prop} {H : Hp} {v : β} (p : Post K E RR w (.ok x M) Q) (r : Rel K w M H) (rv : RR w x v) : Q v H := p w v H (Wd.le_refl w) r rv
end
def tG {α β : Type} (K : Frag) (W : WX) (RR : Wd → α → β → Prop) (f : Env → Mem → Res α) : L2.St → Hp → (β → Hp → Prop) → Prop := fun σ H Q =>
  ∃ w e M, Rel K w M H ∧ RE K w e σ ∧ Post K (WE W σ) RR w (f e M) Q
abbrev tE (K : Frag) (W : WX) (f : Ev) : TE := tG K W (RV K) f
abbrev tT (K : Frag) (W : WX) (f : Env → Mem → Res Bool) : TT := tG K W (fun _ a b => a = b) f
abbrev tA (K : Frag) (W : WX) (f : Evs) : TA := tG K W (RVs K) f
/-- an expression's worth -/
def DE (X : Cx) (W : WX) (e : Expr) (f : Ev) : Prop := PE X e (tE X.K W f)
def DT (X : Cx) (W : WX) (e : Expr) (f : Env → Mem → Res Bool) : Prop := PT X e (tT X.K W f)
def DA (X : Cx) (W : WX) (es : List Expr) (f : Evs) : Prop := PA X es (tA X.K W f)
theorem PEweak {X : Cx} {e : Expr} {t t' : TE} (h : PE X e t) (k : ∀ σ H Q, t' σ H Q → t σ H Q) : PE X e t' := ⟨fun pins s σ H Q I q => h.run pins s σ H Q I (k σ H Q q)⟩
theorem PTweak {X : Cx} {e : Expr} {t t' : TT} (h : PT X e t) (k : ∀ σ H Q, t' σ H Q → t σ H Q) : PT X e t' := ⟨fun pins s σ H Q I q => h.run pins s σ H Q I (k σ H Q q)⟩
theorem PWweak {X : Cx} {e : Expr} {t t' : TT} (h : PW X e t) (k : ∀ σ H Q, t' σ H Q → t σ H Q) : PW X e t' := ⟨fun wh pins s σ H Q I q => h.run wh pins s σ H Q I (k σ H Q q)⟩
theorem PAweak {X : Cx} {e : List Expr} {t t' : TA} (h : PA X e t) (k : ∀ σ H Q, t' σ H Q → t σ H Q) : PA X e t' := ⟨fun pos pins s σ H Q I q => h.run pos pins s σ H Q I (k σ H Q q)⟩
theorem PSweak {X : Cx} {e : Stmt} {t t' : TS} (h : PS X e t) (k : ∀ D σ H, t' D σ H → t D σ H) : PS X e t' := ⟨fun pins s σ H D I q => h.run pins s σ H D I (k D σ H q)⟩
theorem PSsweak {X : Cx} {e : List Stmt} {t t' : TS} (h : PSs X e t) (k : ∀ D σ H, t' D σ H → t D σ H) : PSs X e t' := ⟨fun pins s σ H D I q => h.run pins s σ H D I (k D σ H q)⟩
section
variable {X : Cx} {W : WX}
def getV (i : Nat) : Ev := fun e M => match e[i]? with
  | some (some v) => .ok v M
  | _ => .st
def cst (v : Vl) : Ev := fun _ M => .ok v M
theorem de_var {i : Nat} {x : Str} {pos : Pos} (hN : X.N[i]? = some x) (hv : Vis X.env.scope x) (hd : (x == ("__debug__" : Str)) = false := by decide) (hcd : (x == ("__classdict__" : Str)) = false := by decide) : DE X W (.Name x pos) (getV i) :=
  PEweak (pe_var hN hv hd hcd) fun σ H Q ⟨w, e, M, r, re, p⟩ => by
    unfold getV at p
    cases h : e[i]? with
    | none => rw [h] at p; exact p.elim
    | some o =>
      cases o with
      | none => rw [h] at p; exact p.elim
      | some v =>
        rw [h] at p
        obtain ⟨u, e1, rv⟩ := re.get i v h
        exact ⟨u, e1, p.at r rv⟩
theorem de_c {ex : Expr} {v : V} {x : Vl} (h : PE X ex (tC v)) (hx : ∀ w, RV X.K w x v) : DE X W ex (cst x) :=
  PEweak h fun σ H Q ⟨w, e, M, r, re, p⟩ => p.at r (hx w)
theorem de_int {i j pos} : DE X W (.Constant (.int i) j pos) (cst (.d (.int i))) := de_c pe_int fun _ => .int i
theorem de_bl {b j pos} : DE X W (.Constant (.bool b) j pos) (cst (.d (.bool b))) := de_c pe_bl fun _ => .bl b
theorem de_non {j pos} : DE X W (.Constant .none j pos) (cst (.d .none)) := de_c pe_non fun _ => .non
theorem de_ty {x : Str} {n : String} {pos : Pos} (hg : Gl X x) (hm : X.mg x = none) (hv : bootBuiltins x = some (.type n)) (hn : x ≠ "__name__" := by decide) (hd : (x == ("__debug__" : Str)) = false := by decide) : DE X W (.Name x pos) (cst (.t n)) :=
  de_c (pe_bltn (v := .ty n) hg hm hv rfl hn hd) fun _ => rfl
def nilA : Evs := fun _ M => .ok [] M
def consA (f : Ev) (g : Evs) : Evs := fun e M => (f e M).bind fun x M1 => (g e M1).bind fun xs M2 => .ok (x :: xs) M2
theorem da_nil : DA X W [] nilA := PAweak pa_nil fun σ H Q ⟨w, e, M, r, re, p⟩ => p.at r .nil
theorem da_cons {e : Expr} {es : List Expr} {f : Ev} {g : Evs} (ha : DE X W e f) (hr : DA X W es g) (hs : starEach (e :: es) X.env = (false, eval e X.env) :: starEach es X.env := by rfl) : DA X W (e :: es) (consA f g) :=
  PAweak (pa_cons ha hr hs) fun σ H Q ⟨w, e, M, r, re, p⟩ =>
    ⟨w, e, M, r, re, p.bind fun x M1 w1 v H1 l1 r1 rv p1 =>
      ⟨w1, e, M1, r1, re.up l1, p1.bind fun xs M2 w2 vs H2 l2 r2 rvs p2 => p2.at r2 (.cons (rv.up l2) rvs)⟩⟩
/-- an operation on values, in data's words -/
def OpD (X : Cx) (F : Value → Value → Sem Value) (g : Vl → Vl → Mem → Res Vl) : Prop :=
  OpR X F fun x y H Q => ∃ (w : Wd) (M : Mem) (a b : Vl), Rel X.K w M H ∧ RV X.K w a x ∧ RV X.K w b y ∧ Post X.K (fun _ _ _ => False) (RV X.K) w (g a b M) Q
/-- no error comes of it -/
def Res.pur {α : Type} : Res α → Res α
  | .ok x M => .ok x M
  | _ => .st
theorem Post.pur {α β : Type} {K : Frag} {E E' : XK} {RR : Wd → α → β → Prop} {w : Wd} {r : Res α} {Q : β → Hp → Prop} (p : Post K E RR w r.pur Q) : Post K E' RR w r Q := by
  cases r with
  | ok x M => exact p
  | er C fs M => exact p.elim
  | st => exact p
def op2 (g : Vl → Vl → Mem → Res Vl) (f1 f2 : Ev) : Ev := fun e M => (f1 e M).bind fun x M1 => (f2 e M1).bind fun y M2 => (g x y M2).pur
theorem de_op {op : Operator} {a b : Expr} {g : Vl → Vl → Mem → Res Vl} {f1 f2 : Ev} {pos : Pos} (ho : OpD X (binaryOp op) g) (ha : DE X W a f1) (hb : DE X W b f2) : DE X W (.BinOp a op b pos) (op2 g f1 f2) :=
  PEweak (pe_op ho ha hb) fun σ H Q ⟨w, e, M, r, re, p⟩ =>
    ⟨w, e, M, r, re, p.bind fun x M1 w1 v H1 l1 r1 rv p1 =>
      ⟨w1, e, M1, r1, re.up l1, p1.bind fun y M2 w2 u H2 l2 r2 ru p2 => ⟨w2, M2, x, y, r2, rv.up l2, ru, p2.pur⟩⟩⟩
theorem de_cmp {op : CmpOp} {a b : Expr} {g : Vl → Vl → Mem → Res Vl} {f1 f2 : Ev} {pos : Pos} (ho : OpD X (compareOp op) g) (ha : DE X W a f1) (hb : DE X W b f2)
    (hm : behindInMarks op b = false := by first | exact nomark _ | rfl) : DE X W (.Compare a [op] [b] pos) (op2 g f1 f2) :=
  PEweak (pe_cmpR ho ha hb hm) fun σ H Q ⟨w, e, M, r, re, p⟩ =>
    ⟨w, e, M, r, re, p.bind fun x M1 w1 v H1 l1 r1 rv p1 =>
      ⟨w1, e, M1, r1, re.up l1, p1.bind fun y M2 w2 u H2 l2 r2 ru p2 => ⟨w2, M2, x, y, r2, rv.up l2, ru, p2.pur⟩⟩⟩
end
end DL
namespace DL
open PySem PySem.Spec L2
/-- a list that stands by itself -/
def lstOf (M : Mem) : Vl → Option (List PyData)
  | .d (.list xs) => some xs
  | .h i => match M[i]? with
    | some (.lst xs) => some xs
    | _ => none
  | _ => none
/-- a list that may be read -/
def rdOf (M : Mem) : Vl → Option (List PyData)
  | .s xs => some xs
  | x => lstOf M x
def tupOf : Vl → Option (List PyData)
  | .d (.tuple xs) => some xs
  | _ => none
section
variable {K : Frag} {w : Wd} {M : Mem} {H : Hp} {x : Vl} {v : V} {xs : List PyData}
theorem lst_at (r : Rel K w M H) (rv : RV K w x v) (h : lstOf M x = some xs) : ∃ p vs, v = .ref p ∧ H p = some (.lst vs) ∧ DpAll K w.F vs xs := by
  cases x with
  | d y =>
    cases y with
    | list ys =>
      obtain rfl : ys = xs := Option.some.inj h
      cases rv with
      | lst h1 h2 => exact ⟨_, _, rfl, r.sub _ _ h1, h2⟩
    | _ => cases h
  | h i =>
    obtain ⟨a, e, ev⟩ := rv
    unfold lstOf at h
    cases q : M[i]? with
    | none => simp only [q] at h; cases h
    | some m =>
      cases m with
      | gone => simp only [q] at h; cases h
      | nest _ => simp only [q] at h; cases h
      | lst ys =>
        simp only [q] at h
        cases h
        obtain ⟨_, vs, e2, d⟩ := r.at e q
        exact ⟨a, vs, ev, e2, d⟩
  | _ => cases h
theorem rd_at (r : Rel K w M H) (rv : RV K w x v) (h : rdOf M x = some xs) : ∃ p vs, v = .ref p ∧ SqL K H p vs ∧ DpAll K w.F vs xs := by
  cases x with
  | s ys =>
    have h : some ys = some xs := h
    cases h
    obtain ⟨p, vs, e, q, d⟩ := rv
    exact ⟨p, vs, e, SqL.up r.sub q, d⟩
  | d y => obtain ⟨p, vs, e, q, d⟩ := lst_at r rv (show lstOf M _ = _ from h); exact ⟨p, vs, e, .of q, d⟩
  | h i => obtain ⟨p, vs, e, q, d⟩ := lst_at r rv (show lstOf M _ = _ from h); exact ⟨p, vs, e, .of q, d⟩
  | a p => cases h
  | t n => cases h
  | x _ _ => cases h
  | c _ => cases h
theorem tup_at (r : Rel K w M H) (rv : RV K w x v) (h : tupOf x = some xs) : ∃ p vs, v = .ref p ∧ SqT K H p vs ∧ DpAll K w.F vs xs := by
  cases x with
  | d y =>
    cases y with
    | tuple ys =>
      obtain rfl : ys = xs := Option.some.inj h
      cases rv with
      | tup h1 h2 => exact ⟨_, _, rfl, SqT.up r.sub h1.t, h2⟩
    | _ => cases h
  | _ => cases h
theorem newT_of {E : XK} {vs : List V} {ds : List PyData} {Q : VK} (r : Rel K w M H) (d : DpAll K w.F vs ds) (p : Post K E (RV K) w (.ok (.d (.tuple ds)) M) Q) : NewT vs H Q := fun q o ho hq =>
  p _ _ _ (Wd.le_fz (r.new hq).2) (r.alloc hq _) (Dp.tup ⟨o, ho, upd_same⟩ (DpAll.up (Wd.le_fz (w := w) (o := .frz o (.tup vs)) (r.new hq).2).2 _ _ d))
end
def ret (x : PyData) (M : Mem) : Res Vl := .ok (.d x) M
def addV : Vl → Vl → Mem → Res Vl
  | .d (.int i), .d (.int j), M => .ok (.d (.int (i + j))) M
  | .d (.str i), .d (.str j), M => if i.length + j.length ≤ sizeLine then .ok (.d (.str (i ++ j))) M else .st
  | .d (.tuple xs), .d (.tuple ys), M => if xs ≠ [] ∧ xs.length + ys.length ≤ sizeLine then .ok (.d (.tuple (xs ++ ys))) M else .st
  | a, b, M => match lstOf M a, lstOf M b with
    | some xs, some ys => if xs.length + ys.length ≤ sizeLine then .ok (.d (.list (xs ++ ys))) M else .st
    | _, _ => .st
def subV : Vl → Vl → Mem → Res Vl
  | .d (.int i), .d (.int j), M => .ok (.d (.int (i - j))) M
  | _, _, _ => .st
/-- two ints multiplied: below a million bits together; a list so many times -/
def mulV : Vl → Vl → Mem → Res Vl
  | .d (.int i), .d (.int j), M => if (-(2 ^ 64) < i ∧ i < 2 ^ 64) ∨ (-(2 ^ 64) < j ∧ j < 2 ^ 64) ∨ i.natAbs.log2 + j.natAbs.log2 < 1000000 then .ok (.d (.int (i * j))) M else .st
  | a, .d (.int k), M => match lstOf M a with
    | some xs => if k < 2 ^ 62 ∧ -(2 ^ 62) < k ∧ xs.length * k.toNat ≤ sizeLine then .ok (.d (.list (List.replicate k.toNat xs).flatten)) M else .st
    | none => .st
  | _, _, _ => .st
def fdivV : Vl → Vl → Mem → Res Vl
  | .d (.int i), .d (.int j), M => if 0 < j ∧ j.natAbs.log2 < 9000 then .ok (.d (.int (i / j))) M else .st
  | _, _, _ => .st
def modV : Vl → Vl → Mem → Res Vl
  | .d (.int i), .d (.int j), M => if 0 < j then .ok (.d (.int (i % j))) M else .st
  | _, _, _ => .st
def powV : Vl → Vl → Mem → Res Vl
  | .d (.int i), .d (.int j), M => if 0 ≤ j ∧ j ≤ 1000000 ∧ i.natAbs < 2 ^ 64 then .ok (.d (.int (i ^ j.toNat))) M else .st
  | _, _, _ => .st
section
variable {X : Cx} {W : WX}
theorem opd_add : OpD X (binaryOp .Add) addV := by
  rintro pins s σ H x y v u Q I rx ry ⟨w, M, a, b, r, ra, rb, p⟩
  unfold addV at p
  split at p
  · cases ra; cases rb
    exact op_add pins s σ H _ _ v u Q I rx ry ⟨_, _, rfl, rfl, p.at r (.int _)⟩
  · split at p
    · rename_i hz
      cases ra; cases rb
      exact op_add_str pins s σ H _ _ v u Q I rx ry ⟨_, _, rfl, rfl, hz, p.at r (.str _)⟩
    · exact p.elim
  · split at p
    · rename_i hz
      obtain ⟨p1, vs, rfl, s1, d1⟩ := tup_at r ra (show tupOf _ = some _ from rfl)
      obtain ⟨p2, us, rfl, s2, d2⟩ := tup_at r rb (show tupOf _ = some _ from rfl)
      have l1 := d1.len
      have l2 := d2.len
      refine op_addT pins s σ H _ _ v u Q I rx ry ⟨p1, p2, vs, us, ⟨rfl, s1⟩, ⟨rfl, s2⟩, by rw [l1, l2]; exact hz.2, fun z => absurd ?_ hz.1, fun _ z => ?_, newT_of r (DpAll.app d1 d2) p⟩
      · subst z; exact List.eq_nil_of_length_eq_zero (by simpa using l1.symm)
      · subst z
        have e : _ = [] := List.eq_nil_of_length_eq_zero (by simpa using l2.symm)
        subst e
        rw [List.append_nil] at p
        exact p.at r ra
    · exact p.elim
  · split at p
    · rename_i xs ys h1 h2
      split at p
      · rename_i hz
        obtain ⟨p1, vs, rfl, s1, d1⟩ := lst_at r ra h1
        obtain ⟨p2, us, rfl, s2, d2⟩ := lst_at r rb h2
        refine op_cat pins s σ H _ _ v u Q I rx ry ⟨p1, p2, vs, us, rfl, rfl, s1, s2, by rw [d1.len, d2.len]; exact hz, fun q hq => ?_⟩
        exact p _ _ _ (Wd.le_fz (r.new hq).2) (r.alloc hq _) (Dp.lst upd_same (DpAll.up (Wd.le_fz (w := w) (o := .lst (vs ++ us)) (r.new hq).2).2 _ _ (DpAll.app d1 d2)))
      · exact p.elim
    · exact p.elim
theorem opd_sub : OpD X (binaryOp .Sub) subV := by
  rintro pins s σ H x y v u Q I rx ry ⟨w, M, a, b, r, ra, rb, p⟩
  unfold subV at p
  split at p
  · cases ra; cases rb
    exact op_sub pins s σ H _ _ v u Q I rx ry ⟨_, _, rfl, rfl, p.at r (.int _)⟩
  · exact p.elim
theorem opd_mul : OpD X (binaryOp .Mult) mulV := by
  rintro pins s σ H x y v u Q I rx ry ⟨w, M, a, b, r, ra, rb, p⟩
  unfold mulV at p
  split at p
  · split at p
    · rename_i hz
      cases ra; cases rb
      rcases hz with hz | hz | hz
      · exact op_mul pins s σ H _ _ v u Q I rx ry ⟨_, _, rfl, rfl, .inl hz, p.at r (.int _)⟩
      · exact op_mul pins s σ H _ _ v u Q I rx ry ⟨_, _, rfl, rfl, .inr hz, p.at r (.int _)⟩
      · exact op_mulW pins s σ H _ _ v u Q I rx ry ⟨_, _, rfl, rfl, hz, p.at r (.int _)⟩
    · exact p.elim
  · split at p
    · rename_i xs h1
      split at p
      · rename_i hz
        cases rb
        obtain ⟨p1, vs, rfl, s1, d1⟩ := lst_at r ra h1
        refine op_rep pins s σ H _ _ v u Q I rx ry ⟨p1, _, vs, rfl, rfl, s1, by have := hz.1; have := hz.2.1; omega, by have := hz.1; omega, by rw [d1.len]; exact hz.2.2, fun q hq => ?_⟩
        exact p _ _ _ (Wd.le_fz (r.new hq).2) (r.alloc hq _) (Dp.lst upd_same (DpAll.up (Wd.le_fz (w := w) (r.new hq).2).2 _ _ (DpAll.rep d1 _)))
      · exact p.elim
    · exact p.elim
  · exact p.elim
theorem opd_fdiv : OpD X (binaryOp .FloorDiv) fdivV := by
  rintro pins s σ H x y v u Q I rx ry ⟨w, M, a, b, r, ra, rb, p⟩
  unfold fdivV at p
  split at p
  · split at p
    · rename_i hz
      cases ra; cases rb
      exact op_fdivW pins s σ H _ _ v u Q I rx ry ⟨_, _, rfl, rfl, hz, p.at r (.int _)⟩
    · exact p.elim
  · exact p.elim
theorem opd_mod : OpD X (binaryOp .Mod) modV := by
  rintro pins s σ H x y v u Q I rx ry ⟨w, M, a, b, r, ra, rb, p⟩
  unfold modV at p
  split at p
  · split at p
    · rename_i hz
      cases ra; cases rb
      exact op_mod pins s σ H _ _ v u Q I rx ry ⟨_, _, rfl, rfl, hz, p.at r (.int _)⟩
    · exact p.elim
  · exact p.elim
theorem opd_pow : OpD X (binaryOp .Pow) powV := by
  rintro pins s σ H x y v u Q I rx ry ⟨w, M, a, b, r, ra, rb, p⟩
  unfold powV at p
  split at p
  · split at p
    · rename_i hz
      cases ra; cases rb
      exact op_pow pins s σ H _ _ v u Q I rx ry ⟨_, _, rfl, rfl, hz, p.at r (.int _)⟩
    · exact p.elim
  · exact p.elim
end
end DL
namespace ZP
open PySem
open PySem.Sem (wp)
open PySem.Builtin.SmallTypes (nextOf)
/-- a source: where its iterator stands, what it leans on, what a step changes, how many items there are, the state at each turn, the item of each turn -/
structure Src where
  it : Addr
  dm : List Addr
  fp : List Addr
  n : Nat
  st : Nat → Heap → Prop
  R : Nat → Value → Heap → Prop
/-- kept at these places -/
def Kept (p : Addr → Prop) (h h' : Heap) : Prop := ∀ c o, p c → h.get? c = some o → h'.get? c = some o
theorem Kept.rfl' {p : Addr → Prop} {h : Heap} : Kept p h h := fun _ _ _ e => e
theorem Kept.trans {p : Addr → Prop} {h h' h'' : Heap} (a : Kept p h h') (b : Kept p h' h'') : Kept p h h'' := fun c o q e => b c o q (a c o q e)
theorem Kept.mono {p q : Addr → Prop} {h h' : Heap} (a : Kept q h h') (l : ∀ c, p c → q c) : Kept p h h' := fun c o z e => a c o (l c z) e
theorem Kept.same {a : Addr} {h h' : Heap} (s : Heap.SameBut a h h') : Kept (· ≠ a) h h' := fun c o q e => s.extBut c o q e
structure SrcOk (P : Program) (w : World) (B : Nat) (S : Src) : Prop where
  sub : ∀ c ∈ S.fp, c ∈ S.dm
  low : ∀ c ∈ S.dm, c < B
  keep : ∀ i h h', S.st i h → Kept (fun c => c ∈ S.dm ∨ B ≤ c) h h' → S.st i h'
  rk : ∀ i x h h', S.R i x h → Kept (fun c => B ≤ c) h h' → S.R i x h'
  item : ∀ {A : Around} {E : Value → Shared → Prop} {s : Shared} {Q : Value → Shared → Prop} (i : Nat), i < S.n → B ≤ s.heap.objs.size → S.st i s.heap →
    (∀ x h', S.st (i + 1) h' → S.R i x h' → s.heap.objs.size ≤ h'.objs.size → Kept (· ∉ S.fp) s.heap h' → Q x { s with heap := h' }) → wpAny (model P w) A (nextOf (.ref S.it)) Q E s
  done : ∀ {A : Around} {E : Value → Shared → Prop} {s : Shared} {Q : Value → Shared → Prop} (i : Nat), A.handled = none → S.n ≤ i → B ≤ s.heap.objs.size → S.st i s.heap →
    (∀ h' e, Kept (· ∉ S.fp) s.heap h' → (∃ o, h'.get? e = some o ∧ o.cls = .type "StopIteration") → E (.ref e) { s with heap := h' }) → wpAny (model P w) A (nextOf (.ref S.it)) Q E s
/-- a list's or a tuple's iterator -/
def seqSrc (lst : Bool) (it l : Addr) (xs : Array Value) : Src :=
  ⟨it, [it, l], [it], xs.size, fun i h => if lst then h.IsListIter it l i ∧ h.IsList l xs else h.IsTupleIter it l i ∧ h.IsTuple l xs, fun i x _ => xs[i]? = some x⟩
theorem seqSrc_ok {P : Program} {w : World} {B : Nat} {lst : Bool} {it l : Addr} {xs : Array Value} (h1 : it < B) (h2 : l < B) (hn : l ≠ it) : SrcOk P w B (seqSrc lst it l xs) where
  sub := fun c h => by simp [seqSrc] at h ⊢; exact .inl h
  low := fun c h => by
    have : c = it ∨ c = l := by simpa [seqSrc] using h
    rcases this with e | e
    · rw [e]; exact h1
    · rw [e]; exact h2
  keep := fun i h h' st k => by
    cases lst with
    | true =>
      obtain ⟨⟨o, e, r⟩, o2, e2, r2⟩ := (show h.IsListIter it l i ∧ h.IsList l xs from st)
      exact show h'.IsListIter it l i ∧ h'.IsList l xs from ⟨⟨o, k it o (.inl (by simp [seqSrc])) e, r⟩, o2, k l o2 (.inl (by simp [seqSrc])) e2, r2⟩
    | false =>
      obtain ⟨⟨o, e, r⟩, o2, e2, r2⟩ := (show h.IsTupleIter it l i ∧ h.IsTuple l xs from st)
      exact show h'.IsTupleIter it l i ∧ h'.IsTuple l xs from ⟨⟨o, k it o (.inl (by simp [seqSrc])) e, r⟩, o2, k l o2 (.inl (by simp [seqSrc])) e2, r2⟩
  rk := fun i x h h' r _ => r
  item := fun {A E s Q} i hi hB st h => by
    have hx : xs[i]? = some xs[i] := Array.getElem?_eq_getElem hi
    cases lst with
    | true =>
      obtain ⟨q1, q2⟩ := (show s.heap.IsListIter it l i ∧ s.heap.IsList l xs from st)
      refine wpAny_nextOf_list_item q1 q2 hx fun h' n1 sb => h _ h' (show h'.IsListIter it l (i + 1) ∧ h'.IsList l xs from ⟨n1, q2.extBut sb.extBut hn⟩) hx (Nat.le_of_eq sb.1.symm) fun c o hc e => sb.extBut c o (fun z => hc (by simp [seqSrc, z])) e
    | false =>
      obtain ⟨q1, q2⟩ := (show s.heap.IsTupleIter it l i ∧ s.heap.IsTuple l xs from st)
      refine RZ.nextOf_tuple_item q1 q2 hx fun h' n1 sb => h _ h' (show h'.IsTupleIter it l (i + 1) ∧ h'.IsTuple l xs from ⟨n1, q2.extBut sb.extBut hn⟩) hx (Nat.le_of_eq sb.1.symm) fun c o hc e => sb.extBut c o (fun z => hc (by simp [seqSrc, z])) e
  done := fun {A E s Q} i hh hi hB st h => by
    have hx : xs[i]? = none := Array.getElem?_eq_none hi
    cases lst with
    | true =>
      obtain ⟨q1, q2⟩ := (show s.heap.IsListIter it l i ∧ s.heap.IsList l xs from st)
      exact wpAny_nextOf_list_end hh q1 q2 hx fun h' e sb he => h h' e (fun c o hc q => sb c o (fun z => hc (by simp [seqSrc, z])) q) he
    | false =>
      obtain ⟨q1, q2⟩ := (show s.heap.IsTupleIter it l i ∧ s.heap.IsTuple l xs from st)
      exact RZ.nextOf_tuple_end hh q1 q2 hx fun h' e sb he => h h' e (fun c o hc q => sb c o (fun z => hc (by simp [seqSrc, z])) q) he
/-- the sources lie apart from one another -/
inductive Aparts : List Src → Prop
  | nil : Aparts []
  | cons {S : Src} {L : List Src} : (∀ T ∈ L, ∀ c, (c ∈ S.fp → c ∉ T.dm) ∧ (c ∈ T.fp → c ∉ S.dm)) → Aparts L → Aparts (S :: L)
abbrev isTup (h : Heap) (T : Addr) (xs : List Value) : Prop := h.get? T = some { cls := .type "tuple", data := .seq xs.toArray }
/-- the zip's own objects -/
structure Own (z TI TO : Addr) (L : List Src) : Prop where
  zTI : TI ≠ z
  zTO : TO ≠ z
  TIO : TI ≠ TO
  z : ∀ S ∈ L, z ∉ S.dm
  ti : ∀ S ∈ L, TI ∉ S.dm
  to : ∀ S ∈ L, TO ∉ S.dm
inductive Vals3 (i : Nat) (h : Heap) : List Src → List Value → Prop
  | nil : Vals3 i h [] []
  | cons {S : Src} {L : List Src} {x : Value} {xs : List Value} : S.R i x h → Vals3 i h L xs → Vals3 i h (S :: L) (x :: xs)
theorem Vals3.keep {P : Program} {w : World} {B i : Nat} {h h' : Heap} (k : Kept (fun c => B ≤ c) h h') : ∀ {L : List Src} {xs : List Value}, (∀ S ∈ L, SrcOk P w B S) → Vals3 i h L xs → Vals3 i h' L xs
  | _, _, _, .nil => .nil
  | _, _, hL, .cons r t => .cons ((hL _ List.mem_cons_self).rk _ _ _ _ r k) (Vals3.keep k (fun S hS => hL S (List.mem_cons_of_mem _ hS)) t)
theorem Vals3.app {i : Nat} {h : Heap} : ∀ {L L' : List Src} {xs ys : List Value}, Vals3 i h L xs → Vals3 i h L' ys → Vals3 i h (L ++ L') (xs ++ ys)
  | _, _, _, _, .nil, q => q
  | _, _, _, _, .cons r t, q => .cons r (Vals3.app t q)
theorem Vals3.len {i : Nat} {h : Heap} : ∀ {L : List Src} {xs : List Value}, Vals3 i h L xs → xs.length = L.length
  | _, _, .nil => rfl
  | _, _, .cons _ t => by simp [Vals3.len t]
def fps (L : List Src) : List Addr := (L.map (·.fp)).flatten
theorem mem_fps {L : List Src} {c : Addr} : c ∈ fps L ↔ ∃ S ∈ L, c ∈ S.fp := by
  unfold fps
  rw [List.mem_flatten]
  constructor
  · rintro ⟨l, h1, h2⟩
    obtain ⟨S, hS, rfl⟩ := List.mem_map.mp h1
    exact ⟨S, hS, h2⟩
  · rintro ⟨S, hS, h2⟩
    exact ⟨_, List.mem_map.mpr ⟨S, hS, rfl⟩, h2⟩
/-- one is apart from all others at other places -/
theorem Aparts.at : ∀ {L L' : List Src} {S : Src}, Aparts (L ++ S :: L') → (∀ T ∈ L, ∀ c ∈ S.fp, c ∉ T.dm) ∧ ∀ T ∈ L', ∀ c ∈ S.fp, c ∉ T.dm
  | [], L', S, .cons h _ => ⟨fun T hT => (List.not_mem_nil hT).elim, fun T hT c hc => (h T hT c).1 hc⟩
  | U :: L, L', S, .cons h t => by
    obtain ⟨a, b⟩ := Aparts.at (L := L) t
    refine ⟨fun T hT c hc => ?_, b⟩
    rcases List.mem_cons.mp hT with e | e
    · rw [e]
      exact (h S (List.mem_append_right _ List.mem_cons_self) c).2 hc
    · exact a T e c hc
section
variable {P : Program} {w : World} {A : Around} {E : Value → Shared → Prop} {s : Shared}
theorem upSeq {T : Addr} {xs : List Value} {x : Value} {k : Nat} {Q : Unit → Shared → Prop} (hT : isTup s.heap T xs) (hz : xs.length ≤ sizeLine)
    (h : ∀ h', isTup h' T (xs.set k x) → Heap.SameBut T s.heap h' → Q () { s with heap := h' }) : wpAny (model P w) A (updateSeq T (·.setIfInBounds k x)) Q E s := by
  refine wpAny_updateSeq hT rfl (h _ ?_ (Heap.SameBut.update ..)) (by simpa using hz) (by simp; omega)
  show (s.heap.update T _).get? T = _
  rw [Heap.get?_update_self _ hT rfl]
  simp [Obj.mapSeq]
/-- what stands in the middle of a turn: the first ones have given their items -/
structure Mid (z TI TO : Addr) (f0 : Value) (its : List Value) (old : List Value) (B i : Nat) (h0 : Heap) (D L : List Src) (xs : List Value) (h : Heap) : Prop where
  zz : IsZip h z TI TO f0
  ti : isTup h TI its
  to : isTup h TO (xs ++ old.drop xs.length)
  dn : ∀ S ∈ D, S.st (i + 1) h
  nx : ∀ S ∈ L, S.st i h
  vs : Vals3 i h D xs
  sz : h0.objs.size ≤ h.objs.size
  kp : Kept (fun c => c ≠ z ∧ c ≠ TO ∧ c ∉ fps (D ++ L)) h0 h
end
end ZP
namespace ZP
open PySem
open PySem.Sem (wp)
open PySem.Builtin.SmallTypes (nextOf)
section
variable {P : Program} {w : World} {A : Around} {E : Value → Shared → Prop} {s : Shared}
theorem next_any {z TI TO : Addr} {L : List Src} {B i : Nat} {old : List Value} {Q : Value → Shared → Prop} (hh : A.handled = none) (hL : ∀ S ∈ L, SrcOk P w B S) (hA : Aparts L) (O : Own z TI TO L)
    (bz : z < B ∧ TI < B ∧ TO < B) (hB : B ≤ s.heap.objs.size) (hl : L.length ≤ 1000) (h0 : L ≠ [])
    (hz : IsZip s.heap z TI TO .none) (hTI : isTup s.heap TI (L.map fun S => .ref S.it)) (hTO : isTup s.heap TO old) (ho : old.length = L.length) (hs : ∀ S ∈ L, S.st i s.heap)
    (hQ : (∀ S ∈ L, i < S.n) → ∀ (h' : Heap) (xs : List Value) (T : Addr), IsZip h' z TI TO (rawInt T) → isTup h' TI (L.map fun S => .ref S.it) → isTup h' TO xs → (∀ S ∈ L, S.st (i + 1) h') → Vals3 i h' L xs → isTup h' T xs → s.heap.objs.size ≤ T → T < h'.objs.size →
      Kept (fun c => c ≠ z ∧ c ≠ TO ∧ c ∉ fps L) s.heap h' → Q (.ref T) { s with heap := h' })
    (hE : (∃ S ∈ L, S.n ≤ i) → ∀ h' e, Kept (fun c => c ≠ z ∧ c ≠ TO ∧ c ∉ fps L) s.heap h' → (∃ o, h'.get? e = some o ∧ o.cls = .type "StopIteration") → E (.ref e) { s with heap := h' }) :
    wpAny (model P w) A (Builtin.«zip.__next__» ⟨[.ref z], []⟩) (fun fin s' => ∃ v, fin = .done (.ret v) ∧ Q v s') E s := by
  have hl2 : L.length ≤ sizeLine := Nat.le_trans hl (by decide)
  show wpAny _ _ (field (.ref z) 2 >>= _) _ _ _
  refine wpAny_bind (wpAny_field hz rfl (x := .bool false) rfl ?_)
  show wpAny _ _ (field (.ref z) 3 >>= _) _ _ _
  refine wpAny_bind (wpAny_field hz rfl (x := .ref TI) rfl ?_)
  refine wpAny_bind (wpAny_seqItems hTI rfl ?_)
  have hemp : ((L.map fun S => Value.ref S.it).toArray).isEmpty = false := by
    cases L with
    | nil => exact absurd rfl h0
    | cons _ _ => rfl
  simp only [hemp]
  show wpAny _ _ (Builtin.SmallTypes.ownedTupleIsFree (.ref z) >>= _) _ _ _
  refine wpAny_bind ?_
  unfold Builtin.SmallTypes.ownedTupleIsFree
  refine wpAny_bind (wpAny_field hz rfl (x := .none) rfl (wpAny_pure ?_))
  simp only [if_true]
  refine wpAny_bind (wpAny_rule ?_)
  refine wpAny_bind (wpAny_field hz rfl (x := .ref TO) rfl ?_)
  refine wpAny_bind (wpAny_setField_rec hz (by simp) fun h₁ hz₁ hs₁ => ?_)
  replace hz₁ : IsZip h₁ z TI TO .ellipsis := hz₁
  have M0 : Mid z TI TO .ellipsis (L.map fun S => .ref S.it) old B i s.heap [] L [] h₁ := by
    refine ⟨hz₁, hs₁.extBut _ _ O.zTI hTI, by simpa using hs₁.extBut _ _ O.zTO hTO, fun S hS => (List.not_mem_nil hS).elim, fun S hS => ?_, .nil, Nat.le_of_eq hs₁.1.symm, fun c o q e => hs₁.extBut c o q.1 e⟩
    exact (hL S hS).keep _ _ _ (hs S hS) fun c o hc e => hs₁.extBut c o (fun q => by
      rcases hc with hc | hc
      · exact O.z S hS (q ▸ hc)
      · rw [q] at hc; exact absurd bz.1 (Nat.not_lt.mpr hc)) e
  refine wpAny_bind ?_
  refine wpAny_forIn_list _ (fun rest b s' => b = (none, ()) ∧ ∃ D Lr xs h, L = D ++ Lr ∧ rest = (Lr.map fun S => Value.ref S.it).zipIdx D.length ∧ s' = { s with heap := h } ∧ Mid z TI TO .ellipsis (L.map fun S => .ref S.it) old B i s.heap D Lr xs h ∧ ∀ S ∈ D, i < S.n) _ ?_ ?_ _ _ ?_
  · rintro ⟨it, k⟩ rest b s' ⟨rfl, D, Lr, xs, h, hDL, hr, rfl, M, hD⟩
    cases Lr with
    | nil => simp at hr
    | cons S Lr =>
      rw [List.map_cons, List.zipIdx_cons] at hr
      obtain ⟨hr1, hr2⟩ := List.cons.inj hr
      obtain ⟨rfl, rfl⟩ := Prod.mk.inj hr1
      have hS : S ∈ L := by rw [hDL]; simp
      have hSk := hL S hS
      obtain ⟨ap1, ap2⟩ := Aparts.at (hDL ▸ hA)
      have hmem : ∀ T, T ∈ D ∨ T ∈ Lr → T ∈ L := fun T hT => by rw [hDL]; simp; rcases hT with q | q; exact .inl q; exact .inr (.inr q)
      have hnf : ∀ c ∈ S.fp, c < B := fun c hc => hSk.low c (hSk.sub c hc)
      have zfp : z ∉ S.fp := fun q => O.z S hS (hSk.sub _ q)
      have tifp : TI ∉ S.fp := fun q => O.ti S hS (hSk.sub _ q)
      have tofp : TO ∉ S.fp := fun q => O.to S hS (hSk.sub _ q)
      have hkB : B ≤ h.objs.size := Nat.le_trans hB M.sz
      have vl := M.vs.len
      have fpm : ∀ c, c ∉ fps L → c ∉ S.fp := fun c hc q => hc (mem_fps.mpr ⟨S, hS, q⟩)
      have kpL : Kept (fun c => c ≠ z ∧ c ≠ TO ∧ c ∉ fps L) s.heap h := by rw [hDL]; exact M.kp
      refine wpAny_bind (wpAny_onRaise ?_)
      show wpAny _ _ (nextOf (.ref S.it) >>= _) _ _ _
      by_cases hi : i < S.n
      · refine wpAny_bind (hSk.item i hi (s := { s with heap := h }) hkB (M.nx S List.mem_cons_self) fun x h₂ st₂ r₂ sz₂ kp₂ => wpAny_pure ?_)
        have z₂ : IsZip h₂ z TI TO .ellipsis := kp₂ _ _ zfp M.zz
        have ti₂ := kp₂ _ _ tifp M.ti
        have to₂ := kp₂ _ _ tofp M.to
        show wpAny _ _ (seqItems? (.ref TO) >>= _) _ _ _
        refine wpAny_bind (wpAny_seqItems to₂ rfl ?_)
        have lx : (xs ++ old.drop xs.length).length = L.length := by rw [List.length_append, List.length_drop, ho, vl, hDL]; simp
        refine wpAny_bind (upSeq (s := { s with heap := h₂ }) to₂ (by rw [lx]; exact hl2) fun h₃ to₃ sb₃ => ?_)
        refine wpAny_bind (wpAny_letGo (wpAny_pure ?_))
        have kp23 : Kept (fun c => c ≠ TO) h₂ h₃ := .same sb₃
        have e3 : (xs ++ old.drop xs.length).set D.length x = (xs ++ [x]) ++ old.drop (xs ++ [x]).length := by
          rw [← vl, List.set_append_right _ _ (Nat.le_refl _), Nat.sub_self]
          have : xs.length < old.length := by rw [ho, vl, hDL]; simp
          rw [List.drop_eq_getElem_cons this, List.set_cons_zero]
          simp
        refine ⟨rfl, D ++ [S], Lr, xs ++ [x], h₃, by rw [hDL]; simp, by rw [hr2]; simp, rfl, ⟨kp23 _ _ O.zTO.symm z₂, kp23 _ _ O.TIO ti₂, ?_, ?_, ?_, ?_, ?_, ?_⟩, ?_⟩
        · rw [← e3]; exact to₃
        · intro T hT
          rcases List.mem_append.mp hT with q | q
          · refine (hL T (hmem T (.inl q))).keep _ h _ (M.dn T q) fun c o hc e => kp23 c o (fun z => ?_) (kp₂ c o (fun z => ?_) e)
            · rcases hc with hc | hc
              · exact O.to T (hmem T (.inl q)) (z ▸ hc)
              · rw [z] at hc; exact absurd bz.2.2 (Nat.not_lt.mpr hc)
            · rcases hc with hc | hc
              · exact ap1 T q c z hc
              · exact absurd (hnf c z) (Nat.not_lt.mpr hc)
          · obtain rfl : T = S := by simpa using q
            refine hSk.keep _ h₂ _ st₂ fun c o hc e => kp23 c o (fun z => ?_) e
            rcases hc with hc | hc
            · exact O.to T hS (z ▸ hc)
            · rw [z] at hc; exact absurd bz.2.2 (Nat.not_lt.mpr hc)
        · intro T hT
          refine (hL T (hmem T (.inr hT))).keep _ h _ (M.nx T (List.mem_cons_of_mem _ hT)) fun c o hc e => kp23 c o (fun z => ?_) (kp₂ c o (fun z => ?_) e)
          · rcases hc with hc | hc
            · exact O.to T (hmem T (.inr hT)) (z ▸ hc)
            · rw [z] at hc; exact absurd bz.2.2 (Nat.not_lt.mpr hc)
          · rcases hc with hc | hc
            · exact ap2 T hT c z hc
            · exact absurd (hnf c z) (Nat.not_lt.mpr hc)
        · have kBto : Kept (fun c => B ≤ c) h₂ h₃ := kp23.mono fun c hc q => absurd bz.2.2 (Nat.not_lt.mpr (q ▸ hc))
          have kB : Kept (fun c => B ≤ c) h h₃ := (kp₂.mono fun c hc q => absurd (hnf c q) (Nat.not_lt.mpr hc)).trans kBto
          exact (M.vs.keep kB fun T hT => hL T (hmem T (.inl hT))).app (.cons (hSk.rk _ _ _ _ r₂ kBto) .nil)
        · exact Nat.le_trans M.sz (Nat.le_trans sz₂ (Nat.le_of_eq sb₃.1.symm))
        · have e4 : (D ++ [S]) ++ Lr = L := by rw [hDL]; simp
          rw [e4]
          exact fun c o q e => kp23 c o q.2.1 (kp₂ c o (fpm c q.2.2) (kpL c o q e))
        · intro T hT
          rcases List.mem_append.mp hT with q | q
          · exact hD T q
          · obtain rfl : T = S := by simpa using q
            exact hi
      · refine wpAny_bind (hSk.done (s := { s with heap := h }) i hh (Nat.le_of_not_lt hi) hkB (M.nx S List.mem_cons_self) fun h₂ e kp₂ he => ?_)
        obtain ⟨oe, hoe, hce⟩ := he
        have z₂ : IsZip h₂ z TI TO .ellipsis := kp₂ _ _ zfp M.zz
        have hez : e ≠ z := fun x => by subst x; rw [z₂] at hoe; cases hoe; simp at hce
        exact wpAny_setField_rec z₂ (by simp) fun h₃ _ hs₃ => hE ⟨S, hS, Nat.le_of_not_lt hi⟩ h₃ e (fun c o q e => hs₃.extBut _ _ q.1 (kp₂ c o (fpm c q.2.2) (kpL c o q e))) ⟨oe, hs₃.extBut _ _ hez hoe, hce⟩
  · rintro b s' ⟨rfl, D, Lr, xs, h, hDL, hr, rfl, M, hD⟩
    obtain rfl : Lr = [] := by
      cases Lr with
      | nil => rfl
      | cons _ _ => simp at hr
    obtain rfl : L = D := by simpa using hDL
    have vl := M.vs.len
    have to' : isTup h TO xs := by
      have := M.to
      rwa [List.drop_eq_nil_of_le (by rw [ho, vl]; exact Nat.le_refl _), List.append_nil] at this
    show wpAny _ _ (seqItems? (.ref TO) >>= _) _ _ _
    refine wpAny_bind (wpAny_seqItems (s := { s with heap := h }) to' rfl ?_)
    show wpAny _ _ (newTuple _ >>= _) _ _ _
    refine wpAny_bind (wpAny_newTuple (s := { s with heap := h }) ?_ (by rw [List.toList_toArray, vl]; exact hl2))
    have zlt : z < h.objs.size := Heap.lt_size M.zz
    have tolt : TO < h.objs.size := Heap.lt_size to'
    have tilt : TI < h.objs.size := Heap.lt_size M.ti
    show wpAny _ _ (Builtin.SmallTypes.ownedTupleHandOut (.ref z) (.ref h.objs.size) >>= _) _ _ _
    refine wpAny_bind ?_
    unfold Builtin.SmallTypes.ownedTupleHandOut
    have hz₆ : IsZip (h.push { cls := .type "tuple", data := .seq xs.toArray }) z TI TO .ellipsis := Heap.get?_push_of_some _ M.zz
    refine wpAny_bind (wpAny_setField_rec (s := { s with heap := h.push { cls := .type "tuple", data := .seq xs.toArray } }) hz₆ (by simp) fun h₇ hz₇ hs₇ => ?_)
    replace hz₇ : IsZip h₇ z TI TO (rawInt h.objs.size) := hz₇
    refine wpAny_setField_rec (s := { s with heap := h₇ }) hz₇ (by simp) fun h₈ hz₈ hs₈ => ?_
    replace hz₈ : IsZip h₈ z TI TO (rawInt h.objs.size) := hz₈
    have up : Kept (fun c => c ≠ z) h h₈ := fun c o c1 e => hs₈.extBut _ _ c1 (hs₇.extBut _ _ c1 (Heap.get?_push_of_some _ e))
    have hT : isTup h₈ h.objs.size xs := hs₈.extBut _ _ (Nat.ne_of_gt zlt) (hs₇.extBut _ _ (Nat.ne_of_gt zlt) (Heap.get?_push_size _ rfl))
    have upB : Kept (fun c => B ≤ c) h h₈ := up.mono fun c hc q => absurd bz.1 (Nat.not_lt.mpr (q ▸ hc))
    have sz : h₈.objs.size = h.objs.size + 1 := by rw [hs₈.1, hs₇.1, Heap.size_push]
    have kpL : Kept (fun c => c ≠ z ∧ c ≠ TO ∧ c ∉ fps L) s.heap h := by simpa using M.kp
    refine wpAny_pure ⟨_, rfl, hQ hD h₈ xs h.objs.size hz₈ (up _ _ O.zTI M.ti) (up _ _ O.zTO to') (fun T hT => (hL T hT).keep _ h _ (M.dn T hT) fun c o hc e => up c o (fun q => ?_) e) (M.vs.keep upB hL) hT M.sz (by rw [sz]; exact Nat.lt_succ_self _) fun c o q e => up c o q.1 (kpL c o q e)⟩
    rcases hc with hc | hc
    · exact O.z T hT (q ▸ hc)
    · rw [q] at hc; exact absurd bz.1 (Nat.not_lt.mpr hc)
  · exact ⟨rfl, [], L, [], h₁, rfl, rfl, rfl, M0, fun S hS => (List.not_mem_nil hS).elim⟩
end
end ZP
namespace ZP
open PySem
open PySem.Sem (wp)
open PySem.Builtin.SmallTypes (nextOf iterAll)
/-- what zip is given: a list or a tuple, or an iterator that stands already -/
inductive Arg where
  | seq (lst : Bool) (l : Addr)
  | own (z TI TO : Addr) (f0 : Value)
def Arg.ad : Arg → Value
  | .seq _ l => .ref l
  | .own z _ _ _ => .ref z
def itO (lst : Bool) (l : Addr) : Obj := { cls := .type (if lst then "list_iterator" else "tuple_iterator"), data := .fields #[.ref l, .int 0 0] }
def IsSq (h : Heap) : Arg → Prop
  | .seq lst l => ∃ xs, if lst then h.IsList l xs else h.IsTuple l xs
  | .own z TI TO f0 => IsZip h z TI TO f0
def heapOf : Heap → List Arg → Heap
  | h, [] => h
  | h, .seq lst l :: r => heapOf (h.push (itO lst l)) r
  | h, .own _ _ _ _ :: r => heapOf h r
def itsOf : Nat → List Arg → List Value
  | _, [] => []
  | b, .seq _ _ :: r => .ref b :: itsOf (b + 1) r
  | b, .own z _ _ _ :: r => .ref z :: itsOf b r
theorem itsOf_len : ∀ (b : Nat) (l : List Arg), (itsOf b l).length = l.length
  | _, [] => rfl
  | b, .seq _ _ :: r => by simp [itsOf, itsOf_len (b + 1) r]
  | b, .own _ _ _ _ :: r => by simp [itsOf, itsOf_len b r]
theorem IsSq.up {h h' : Heap} (k : Kept (fun _ => True) h h') : ∀ {a : Arg}, IsSq h a → IsSq h' a
  | .seq lst l, ⟨xs, q⟩ => by
    refine ⟨xs, ?_⟩
    cases lst with
    | true =>
      obtain ⟨o, e, r⟩ := (show h.IsList l xs from q)
      exact show h'.IsList l xs from ⟨o, k _ _ trivial e, r⟩
    | false =>
      obtain ⟨o, e, r⟩ := (show h.IsTuple l xs from q)
      exact show h'.IsTuple l xs from ⟨o, k _ _ trivial e, r⟩
  | .own z TI TO f0, q => k _ _ trivial q
section
variable {P : Program} {w : World} {A : Around} {E : Value → Shared → Prop} {s : Shared}
theorem iter_one {a : Arg} {Q : Value → Shared → Prop} (h : IsSq s.heap a) (hQ : Q ((itsOf s.heap.objs.size [a]).headD .none) { s with heap := heapOf s.heap [a] }) : wpAny (model P w) A (pyIter a.ad) Q E s := by
  cases a with
  | seq lst l =>
    obtain ⟨xs, q⟩ := h
    cases lst with
    | true => exact wpAny_pyIter_list (show s.heap.IsList l xs from q) hQ
    | false => exact wpAny_pyIter_tuple (show s.heap.IsTuple l xs from q) hQ
  | own z TI TO f0 => exact wpAny_pyIter_zip h hQ
theorem heapOf_kept : ∀ (l : List Arg) (h : Heap), Kept (fun _ => True) h (heapOf h l)
  | [], h => Kept.rfl'
  | .seq lst a :: r, h => (show Kept (fun _ => True) h (h.push (itO lst a)) from fun c o _ e => Heap.get?_push_of_some _ e).trans (heapOf_kept r _)
  | .own _ _ _ _ :: r, h => heapOf_kept r h
theorem iter_all {args : List Arg} {Q : List Value → Shared → Prop} (h : ∀ a ∈ args, IsSq s.heap a) (hQ : Q (itsOf s.heap.objs.size args) { s with heap := heapOf s.heap args }) : wpAny (model P w) A (iterAll (args.map (·.ad))) Q E s := by
  unfold iterAll
  refine wpAny_bind ?_
  refine wpAny_forIn_list _ (fun rest b s' => ∃ l, rest = l.map (·.ad) ∧ ∃ h', s' = { s with heap := h' } ∧ (∀ a ∈ l, IsSq h' a) ∧ heapOf h' l = heapOf s.heap args ∧ b.toList ++ itsOf h'.objs.size l = itsOf s.heap.objs.size args) _ ?_ ?_ _ _ ?_
  · rintro x rest b s' ⟨l, hr, h', rfl, hs, e1, e2⟩
    cases l with
    | nil => simp at hr
    | cons a l =>
      rw [List.map_cons] at hr
      obtain ⟨rfl, rfl⟩ := List.cons.inj hr
      refine wpAny_bind (wpAny_holding (iter_one (s := { s with heap := h' }) (hs a List.mem_cons_self) (wpAny_pure ⟨l, rfl, _, rfl, fun c hc => (hs c (List.mem_cons_of_mem _ hc)).up (heapOf_kept [a] h'), ?_, ?_⟩)))
      · rw [← e1]
        cases a <;> rfl
      · rw [← e2]
        cases a with
        | seq lst q =>
          show (b.push _).toList ++ itsOf (h'.push (itO lst q)).objs.size l = _
          rw [Heap.size_push]
          simp [itsOf]
        | own _ _ _ _ => simp [itsOf, heapOf]
  · rintro b s' ⟨l, hr, h', rfl, hs, e1, e2⟩
    have hl : l = [] := by
      cases l with
      | nil => rfl
      | cons _ _ => simp at hr
    subst hl
    refine wpAny_pure ?_
    have e2 : b.toList ++ [] = _ := e2
    have e1 : h' = _ := e1
    rw [List.append_nil] at e2
    rw [e2, e1]
    exact hQ
  · exact ⟨args, rfl, s.heap, rfl, h, rfl, rfl⟩
end
theorem meets_new (args : List Arg) (hl : args.length ≤ 1000) :
    Meets (Builtin.«zip.__new__» ⟨.type "zip" :: args.map (·.ad), []⟩) (fun _ R s => (∀ a ∈ args, IsSq s.heap a) ∧
      R (.ok (.ret (.ref ((heapOf s.heap args).objs.size + 2)))) { s with heap := (((heapOf s.heap args).push { cls := .type "tuple", data := .seq (itsOf s.heap.objs.size args).toArray }).push { cls := .type "tuple", data := .seq ((itsOf s.heap.objs.size args).map fun _ => Value.none).toArray }).push { cls := .type "zip", data := .fields #[.none, .bool false, .bool false, .ref (heapOf s.heap args).objs.size, .ref ((heapOf s.heap args).objs.size + 1)] } }) :=
  .of_wp fun prog w A R s h => by
    obtain ⟨hp, g, d, tk, os⟩ := s; obtain ⟨hq, h⟩ := h
    have hsub := sub_zip
    have hI : ∀ {A : Around} {Q : List Value → Shared → Prop} {E : Value → Shared → Prop}, Q (itsOf hp.objs.size args) ⟨heapOf hp args, g, d, tk, os⟩ → wpAny (model prog w) A (iterAll (args.map (·.ad))) Q E ⟨hp, g, d, tk, os⟩ := fun hQ => iter_all (s := ⟨hp, g, d, tk, os⟩) hq hQ
    have hl2 : args.length ≤ sizeLine := Nat.le_trans hl (by decide)
    have hil := itsOf_len hp.objs.size args
    generalize itsOf hp.objs.size args = its at *
    generalize heapOf hp args = h1 at *
    generalize args.map (·.ad) = av at *
    unfold Builtin.«zip.__new__»
    have hnt : ∀ {A : Around} {vs : List Value} {hh : Heap} {Q : Value → Shared → Prop} {E : Value → Shared → Prop}, vs.length ≤ sizeLine → Q (.ref hh.objs.size) ⟨hh.push { cls := .type "tuple", data := .seq vs.toArray }, g, d, tk, os⟩ → wpAny (model prog w) A (newTuple vs) Q E ⟨hh, g, d, tk, os⟩ := fun hv q => wpAny_newTuple (s := ⟨_, g, d, tk, os⟩) q hv
    wp_walk using hI, hnt (by rw [hil]; exact hl2), hnt (by simp [hil]; exact hl2)
    refine ⟨_, rfl, ?_⟩
    rw [Heap.size_push, Heap.size_push]
    exact h
section
variable {P : Program} {w : World} {A : Around} {E : Value → Shared → Prop} {s : Shared}
theorem call_zipN {args : List Arg} {Q : Value → Shared → Prop} (hl : args.length ≤ 1000) (hct : checkTypeCall "zip" ⟨args.map (·.ad), []⟩ = pure ()) (hcn : checkBuiltinCall "zip.__new__" ⟨.type "zip" :: args.map (·.ad), []⟩ = pure ())
    (hok : ∀ obj, argsOk "object.__init__" ⟨obj :: args.map (·.ad), []⟩) (hq : ∀ a ∈ args, IsSq s.heap a)
    (h : ∀ h' b, b = (heapOf s.heap args).objs.size → IsZip h' (b + 2) b (b + 1) .none → isTup h' b (itsOf s.heap.objs.size args) → isTup h' (b + 1) ((itsOf s.heap.objs.size args).map fun _ => .none) → Kept (fun _ => True) (heapOf s.heap args) h' →
      Q (.ref (b + 2)) { s with heap := h' }) : wpAny (model P w) A (call (.type "zip") (args.map (·.ad))) Q E s := by
  refine callType_new F.called_zip (by decide) hct hcn hok F.entry_zip_new (meets_new args hl) ⟨hq, ?_⟩
  generalize hb : (heapOf s.heap args).objs.size = b at *
  have z1 : ∀ o, ((heapOf s.heap args).push o).objs.size = b + 1 := fun o => by rw [Heap.size_push, hb]
  have z2 : ∀ o o', (((heapOf s.heap args).push o).push o').objs.size = b + 2 := fun o o' => by rw [Heap.size_push, z1]
  refine ⟨⟨_, Heap.get?_push_at (z2 _ _).symm rfl, rfl⟩, h _ b rfl (Heap.get?_push_at (z2 _ _).symm rfl) (Heap.get?_push_of_some _ (Heap.get?_push_of_some _ (Heap.get?_push_at hb.symm rfl))) (Heap.get?_push_of_some _ (Heap.get?_push_at (z1 _).symm rfl)) fun c o _ e => Heap.get?_push_of_some _ (Heap.get?_push_of_some _ (Heap.get?_push_of_some _ e))⟩
end
theorem ct2 (a b : Value) : checkTypeCall "zip" ⟨[a, b], []⟩ = pure () := F.typeCall_zip_2 a b
theorem cn2 (a b : Value) : checkBuiltinCall "zip.__new__" ⟨[.type "zip", a, b], []⟩ = pure () := F.newCall_zip_2 a b
end ZP
namespace ZP
open PySem PySem.Spec PyProof.Rows L2
open PySem.Builtin.SmallTypes (nextOf iterAll)
/-- the list or the tuple at l, as it stands -/
def SqB (K : PySem.W.Frag) (H : Hp) (lst : Bool) (l : Addr) (xs : List V) : Prop := if lst then SqL K H l xs else SqT K H l xs
inductive All2 {α β : Type} (R : α → β → Prop) : List α → List β → Prop
  | nil : All2 R [] []
  | cons {a : α} {b : β} {l : List α} {m : List β} : R a b → All2 R l m → All2 R (a :: l) (b :: m)
theorem SqB.obj {X : Cx} {pins : List (Addr × Obj)} {σ : L2.St} {H : Hp} {s : Shared} (I : Inv X pins σ H s) {lst : Bool} {l : Addr} {xs : List V} (h : SqB X.K H lst l xs) :
    ∃ its : List Value, Vals xs its ∧ if lst then s.heap.IsList l its.toArray else s.heap.IsTuple l its.toArray := by
  cases lst with
  | true =>
    obtain ⟨its, rv, p, _⟩ := I.list (show SqL X.K H l xs from h)
    exact ⟨its, rv, p.isList⟩
  | false =>
    obtain ⟨its, rv, p, _⟩ := I.tuple (show SqT X.K H l xs from h)
    exact ⟨its, rv, p⟩
theorem SqB.inj {X : Cx} {pins : List (Addr × Obj)} {σ : L2.St} {H : Hp} {s : Shared} (I : Inv X pins σ H s) {lst : Bool} {l : Addr} {xs ys : List V} (h : SqB X.K H lst l xs) (h' : SqB X.K H lst l ys) : xs = ys := by
  cases lst with
  | true => exact I.list_inj h h'
  | false => exact I.tuple_inj h h'
/-- zip of these, the items in new tuples -/
def ItzN (K : PySem.W.Frag) (ls : List (Bool × Addr)) : It :=
  ⟨fun i H => ∃ xss : List (List V), All2 (fun p xs => SqB K H p.1 p.2 xs ∧ i < xs.length) ls xss,
    fun i H v H' => ∃ T items, v = .ref T ∧ H T = none ∧ H' = upd H T (.tup items) ∧ All2 (fun p x => ∀ xs, SqB K H p.1 p.2 xs → xs[i]? = some x) ls items,
    fun i H => ∃ xss : List (List V), All2 (fun p xs => SqB K H p.1 p.2 xs) ls xss ∧ ∃ xs ∈ xss, xs.length ≤ i⟩
/-- one of the zip's iterators: a list's or not, where it stands, where its list or tuple stands -/
structure Leg where
  lst : Bool
  it : Addr
  l : Addr
def Leg.At (h : Heap) (i : Nat) (t : Leg) : Prop := if t.lst then h.IsListIter t.it t.l i else h.IsTupleIter t.it t.l i
theorem Leg.At.obj {h : Heap} {i : Nat} {t : Leg} (q : t.At h i) : ∃ o, h.get? t.it = some o ∧ ∃ vs, o.data = .fields vs := by
  unfold Leg.At at q
  split at q
  · obtain ⟨o, e, _, d⟩ := q
    exact ⟨o, e, _, d⟩
  · obtain ⟨o, e, _, d⟩ := q
    exact ⟨o, e, _, d⟩
theorem Leg.At.to {h h' : Heap} {i : Nat} {t : Leg} (q : t.At h i) (k : ∀ o, h.get? t.it = some o → h'.get? t.it = some o) : t.At h' i := by
  unfold Leg.At at q ⊢
  split at q
  · rename_i hb
    simp only [hb, if_true]
    exact q.at k
  · rename_i hb
    simp only [hb, if_false]
    exact q.at k
/-- the zip's objects lie apart -/
structure Lay (z TI TO b : Addr) (L : List Leg) : Prop where
  TIz : TI ≠ z
  TOz : TO ≠ z
  TIO : TI ≠ TO
  zb : b ≤ z
  ib : b ≤ TI
  ob : b ≤ TO
  lb : ∀ t ∈ L, t.l < b ∧ b ≤ t.it ∧ t.it ≠ z ∧ t.it ≠ TI ∧ t.it ≠ TO
  nd : (L.map (·.it)).Nodup
def srcs (L : List Leg) (its : List (List Value)) : List Src := List.zipWith (fun t xs => seqSrc t.lst t.it t.l xs.toArray) L its
def tnN (z TI TO : Addr) (L : List Leg) (i : Nat) (h : Heap) : Prop :=
  IsZip h z TI TO .none ∧ isTup h TI (L.map fun t => .ref t.it) ∧ (∃ old, isTup h TO old ∧ old.length = L.length) ∧ ∀ t ∈ L, t.At h i
theorem all2_objs {X : Cx} {pins : List (Addr × Obj)} {σ : L2.St} {H : Hp} {s : Shared} (I : Inv X pins σ H s) {ls : List Leg} {xss : List (List V)} (h : All2 (fun p xs => SqB X.K H p.1 p.2 xs) (ls.map fun t => (t.lst, t.l)) xss) :
    ∃ its : List (List Value), All2 (fun t (p : List V × List Value) => SqB X.K H t.lst t.l p.1 ∧ Vals p.1 p.2 ∧ if t.lst then s.heap.IsList t.l p.2.toArray else s.heap.IsTuple t.l p.2.toArray) ls (xss.zip its) ∧ its.length = ls.length := by
  induction ls generalizing xss with
  | nil => cases h; exact ⟨[], .nil, rfl⟩
  | cons t ls ih =>
    cases h with
    | cons r q =>
      obtain ⟨its, h2, h3⟩ := ih q
      obtain ⟨v, rv, p⟩ := SqB.obj I r
      exact ⟨v :: its, .cons ⟨r, rv, p⟩ h2, by simp [h3]⟩
theorem All2.len {α β : Type} {R : α → β → Prop} : ∀ {l : List α} {m : List β}, All2 R l m → l.length = m.length
  | _, _, .nil => rfl
  | _, _, .cons _ t => by simp [All2.len t]
theorem All2.mono {α β : Type} {R S : α → β → Prop} (f : ∀ a b, R a b → S a b) : ∀ {l : List α} {m : List β}, All2 R l m → All2 S l m
  | _, _, .nil => .nil
  | _, _, .cons h t => .cons (f _ _ h) (All2.mono f t)
theorem vals_back : ∀ {xs : List V} {us : List Value} {i : Nat} {u : Value}, Vals xs us → us[i]? = some u → ∃ x, xs[i]? = some x ∧ RelV x u
  | _, _, _, _, .nil, e => by simp at e
  | _, _, 0, _, .cons r _, e => by simp at e; subst e; exact ⟨_, rfl, r⟩
  | _, _, i + 1, u, .cons _ t, e => by
    obtain ⟨x, h1, h2⟩ := vals_back (i := i) (u := u) t (by simpa using e)
    exact ⟨x, by simpa using h1, h2⟩
/-- what a turn of next_any wants of the legs -/
theorem srcs_ok {P : Program} {w : World} {z TI TO b B i : Nat} {h : Heap} {R : Leg → List V → Prop} : ∀ {L : List Leg} {ps : List (List V × List Value)},
    All2 (fun t (p : List V × List Value) => R t p.1 ∧ Vals p.1 p.2 ∧ if t.lst then h.IsList t.l p.2.toArray else h.IsTuple t.l p.2.toArray) L ps → (∀ t ∈ L, t.At h i) → (∀ t ∈ L, t.l < b ∧ b ≤ t.it ∧ t.it ≠ z ∧ t.it ≠ TI ∧ t.it ≠ TO) → (L.map (·.it)).Nodup → b ≤ z → b ≤ TI → b ≤ TO → (∀ t ∈ L, t.it < B) → b ≤ B →
    ∃ S : List Src, S = srcs L (ps.map (·.2)) ∧ S.map (fun S => Value.ref S.it) = L.map (fun t => Value.ref t.it) ∧ S.length = L.length ∧ (∀ T ∈ S, SrcOk P w B T) ∧ Aparts S ∧ (∀ T ∈ S, T.st i h) ∧ (∀ T ∈ S, z ∉ T.dm ∧ TI ∉ T.dm ∧ TO ∉ T.dm) ∧
      (∀ T ∈ S, ∃ t ∈ L, T.it = t.it ∧ T.dm = [t.it, t.l] ∧ T.fp = [t.it]) ∧ (∀ h', (∀ T ∈ S, T.st (i + 1) h') → ∀ t ∈ L, t.At h' (i + 1)) ∧
      (∀ h' vs, Vals3 i h' S vs → ∃ xs, Vals xs vs ∧ All2 (fun (p : List V × List Value) x => p.1[i]? = some x) ps xs) ∧ ((∀ T ∈ S, i < T.n) ↔ ∀ p ∈ ps, i < p.1.length)
  | _, _, .nil, _, _, _, _, _, _, _, _ => ⟨[], rfl, rfl, rfl, fun _ h => (List.not_mem_nil h).elim, .nil, fun _ h => (List.not_mem_nil h).elim, fun _ h => (List.not_mem_nil h).elim, fun _ h => (List.not_mem_nil h).elim, fun _ _ _ h => (List.not_mem_nil h).elim,
      fun _ vs q => by cases q; exact ⟨[], .nil, .nil⟩, ⟨fun _ _ h => (List.not_mem_nil h).elim, fun _ _ h => (List.not_mem_nil h).elim⟩⟩
  | t :: L, p :: ps, .cons r rest, ha, hl, nd, zb, ib, ob, hB, bB => by
    rw [List.map_cons, List.nodup_cons] at nd
    obtain ⟨S, e0, e1, e2, e3, e4, e5, e6, e7, e8, e9, e10⟩ := srcs_ok (P := P) (w := w) rest (fun u hu => ha u (List.mem_cons_of_mem _ hu)) (fun u hu => hl u (List.mem_cons_of_mem _ hu)) nd.2 zb ib ob (fun u hu => hB u (List.mem_cons_of_mem _ hu)) bB
    obtain ⟨l1, l2, l3, l4, l5⟩ := hl t List.mem_cons_self
    have hit := hB t List.mem_cons_self
    have hne : t.l ≠ t.it := fun q => by rw [q] at l1; exact absurd l2 (Nat.not_le.mpr l1)
    have hdm : (seqSrc t.lst t.it t.l p.2.toArray).dm = [t.it, t.l] := rfl
    have hfp : (seqSrc t.lst t.it t.l p.2.toArray).fp = [t.it] := rfl
    have lv := r.2.1.length
    refine ⟨seqSrc t.lst t.it t.l p.2.toArray :: S, by rw [e0]; rfl, by simp [e1, seqSrc], by simp [e2], fun T hT => ?_, .cons (fun T hT c => ?_) e4, fun T hT => ?_, fun T hT => ?_, fun T hT => ?_, fun h' hs u hu => ?_, fun h' vs hv => ?_, ?_⟩
    · rcases List.mem_cons.mp hT with q | q
      · rw [q]; exact seqSrc_ok hit (Nat.lt_of_lt_of_le l1 bB) hne
      · exact e3 T q
    · obtain ⟨u, hu, q1, q2, q3⟩ := e7 T hT
      obtain ⟨u1, u2, _⟩ := hl u (List.mem_cons_of_mem _ hu)
      have hn : t.it ≠ u.it := fun q => nd.1 (List.mem_map.mpr ⟨u, hu, q.symm⟩)
      rw [hdm, hfp, q2, q3]
      refine ⟨fun h1 h2 => ?_, fun h1 h2 => ?_⟩
      · have h1 : c = t.it := by simpa using h1
        have h2 : c = u.it ∨ c = u.l := by simpa using h2
        rcases h2 with q | q
        · exact hn (h1.symm.trans q)
        · have := h1.symm.trans q
          rw [this] at l2; exact absurd u1 (Nat.not_lt.mpr l2)
      · have h1 : c = u.it := by simpa using h1
        have h2 : c = t.it ∨ c = t.l := by simpa using h2
        rcases h2 with q | q
        · exact hn (q.symm.trans h1)
        · have := h1.symm.trans q
          rw [this] at u2; exact absurd l1 (Nat.not_lt.mpr u2)
    · rcases List.mem_cons.mp hT with q | q
      · rw [q]
        have h1 := ha t List.mem_cons_self
        have h2 := r.2.2
        unfold Leg.At at h1
        show if t.lst then h.IsListIter t.it t.l i ∧ h.IsList t.l p.2.toArray else h.IsTupleIter t.it t.l i ∧ h.IsTuple t.l p.2.toArray
        split
        · rename_i hb; rw [if_pos hb] at h1 h2; exact ⟨h1, h2⟩
        · rename_i hb; rw [if_neg hb] at h1 h2; exact ⟨h1, h2⟩
      · exact e5 T q
    · rcases List.mem_cons.mp hT with q | q
      · rw [q, hdm]
        refine ⟨fun m => ?_, fun m => ?_, fun m => ?_⟩
        all_goals
          rcases List.mem_cons.mp m with w | w
          · first | exact l3 w.symm | exact l4 w.symm | exact l5 w.symm
          · have w := List.mem_singleton.mp w
            first
              | (rw [w] at zb; exact absurd l1 (Nat.not_lt.mpr zb))
              | (rw [w] at ib; exact absurd l1 (Nat.not_lt.mpr ib))
              | (rw [w] at ob; exact absurd l1 (Nat.not_lt.mpr ob))
      · exact e6 T q
    · rcases List.mem_cons.mp hT with q | q
      · exact ⟨t, List.mem_cons_self, by rw [q]; exact ⟨rfl, rfl, rfl⟩⟩
      · obtain ⟨u, hu, q⟩ := e7 T q
        exact ⟨u, List.mem_cons_of_mem _ hu, q⟩
    · rcases List.mem_cons.mp hu with q | q
      · rw [q]
        have h1 := hs _ List.mem_cons_self
        have h1 : if t.lst then h'.IsListIter t.it t.l (i + 1) ∧ h'.IsList t.l p.2.toArray else h'.IsTupleIter t.it t.l (i + 1) ∧ h'.IsTuple t.l p.2.toArray := h1
        unfold Leg.At
        split
        · rename_i hb; rw [if_pos hb] at h1; exact h1.1
        · rename_i hb; rw [if_neg hb] at h1; exact h1.1
      · exact e8 h' (fun T hT => hs T (List.mem_cons_of_mem _ hT)) u q
    · cases hv with
      | cons hx hv =>
        obtain ⟨xs, hxs, hall⟩ := e9 h' _ hv
        have hx : p.2.toArray[i]? = some _ := hx
        obtain ⟨y, hy, ry⟩ := vals_back (i := i) r.2.1 (by simpa using hx)
        exact ⟨y :: xs, .cons ry hxs, .cons hy hall⟩
    · have hn : (seqSrc t.lst t.it t.l p.2.toArray).n = p.1.length := by
        show p.2.toArray.size = _
        rw [List.size_toArray, lv]
      constructor
      · intro hh q hq
        rcases List.mem_cons.mp hq with e | e
        · rw [e, ← hn]; exact hh _ List.mem_cons_self
        · exact e10.mp (fun T hT => hh T (List.mem_cons_of_mem _ hT)) q e
      · intro hh T hT
        rcases List.mem_cons.mp hT with e | e
        · rw [e, hn]; exact hh _ List.mem_cons_self
        · exact e10.mpr (fun q hq => hh q (List.mem_cons_of_mem _ hq)) T e
end ZP
namespace ZP
open PySem PySem.Spec PyProof.Rows L2
open PySem.Builtin.SmallTypes (nextOf iterAll)
section
variable {P : Program} {w : World} {A : Around} {E : Value → Shared → Prop} {s : Shared}
theorem pyNext_any {z TI TO : Addr} {L : List Src} {B i : Nat} {old : List Value} {Q : Option Value → Shared → Prop} (hh : A.handled = none) (hL : ∀ S ∈ L, SrcOk P w B S) (hA : Aparts L) (O : Own z TI TO L)
    (bz : z < B ∧ TI < B ∧ TO < B) (hB : B ≤ s.heap.objs.size) (hl : L.length ≤ 1000) (h0 : L ≠ [])
    (hz : IsZip s.heap z TI TO .none) (hTI : isTup s.heap TI (L.map fun S => .ref S.it)) (hTO : isTup s.heap TO old) (ho : old.length = L.length) (hs : ∀ S ∈ L, S.st i s.heap)
    (hQ : (∀ S ∈ L, i < S.n) → ∀ (h' : Heap) (xs : List Value) (T : Addr), IsZip h' z TI TO (rawInt T) → isTup h' TI (L.map fun S => .ref S.it) → isTup h' TO xs → (∀ S ∈ L, S.st (i + 1) h') → Vals3 i h' L xs → isTup h' T xs → s.heap.objs.size ≤ T → T < h'.objs.size →
      Kept (fun c => c ≠ z ∧ c ≠ TO ∧ c ∉ fps L) s.heap h' → Q (some (.ref T)) { s with heap := h' })
    (hE : (∃ S ∈ L, S.n ≤ i) → ∀ h', Kept (fun c => c ≠ z ∧ c ≠ TO ∧ c ∉ fps L) s.heap h' → Q none { s with heap := h' }) : wpAny (model P w) A (pyNext (.ref z)) Q E s := by
  have hT : s.TypeIs (.ref z) "zip" := ⟨_, hz, rfl⟩
  unfold pyNext
  refine wpAny_bind (wpAny_attempt (wpAny_callSpecial?_slot (name := Str.ofString "__next__") hT F.slot_zip_next
    (wpAny_call_entry F.slot_zip_next hT F.entry_zip_next (next_any hh hL hA O bz hB hl h0 hz hTI hTO ho hs
      (fun q h' xs T a1 a2 a3 a4 a5 a6 a7 a8 a9 => wpAny_pure (hQ q h' xs T a1 a2 a3 a4 a5 a6 a7 a8 a9)) (fun q h' e k he => ?_)) (F.args_zip_next_1 _))))
  obtain ⟨o, ho, hc⟩ := he
  refine wpAny_bind (wpAny_isInstance (T := "StopIteration") (b := true) ⟨o, ho, hc⟩ isSubtype_stop ?_)
  exact wpAny_pure (hE q _ k)
end
theorem all2_split {α β γ : Type} {R : α → β → Prop} {S : β → γ → Prop} : ∀ {l : List α} {m : List β} {k : List γ}, All2 R l m → All2 S m k → All2 (fun a c => ∃ b, R a b ∧ S b c) l k
  | _, _, _, .nil, .nil => .nil
  | _, _, _, .cons h t, .cons h' t' => .cons ⟨_, h, h'⟩ (all2_split t t')
theorem all2_map {α β γ : Type} {R : α → β → Prop} (f : γ → α) : ∀ {l : List γ} {m : List β}, All2 (fun a b => R (f a) b) l m → All2 R (l.map f) m
  | _, _, .nil => .nil
  | _, _, .cons h t => .cons h (all2_map f t)
theorem all2_mem {α β : Type} {R : α → β → Prop} {b : β} : ∀ {l : List α} {m : List β}, All2 R l m → b ∈ m → ∃ a, R a b
  | _, _, .nil, h => (List.not_mem_nil h).elim
  | _, _, .cons r t, h => by
    rcases List.mem_cons.mp h with q | q
    · rw [q]; exact ⟨_, r⟩
    · exact all2_mem t q
theorem zip_fst {α β : Type} : ∀ {l : List α} {m : List β}, m.length = l.length → (l.zip m).map (·.1) = l
  | [], _, _ => rfl
  | a :: l, [], h => by simp at h
  | a :: l, b :: m, h => by rw [List.zip_cons_cons, List.map_cons, zip_fst (by simpa using h)]
theorem turn_zipN {P : Program} {w : World} {K : PySem.W.Frag} {elts : List Expr} {kk : Nat} {tpos : Pos} {z TI TO b : Addr} {L : List Leg} (D : Lay z TI TO b L) (h0 : L ≠ []) (hl : L.length ≤ 1000) :
    Turn P w K (.Tuple elts kk tpos) (ItzN K (L.map fun t => (t.lst, t.l))) (z :: TI :: TO :: L.map (·.it)) z (tnN z TI TO L) where
  mem := List.mem_cons_self
  obj := fun i h ⟨hz, hTI, ⟨old, hTO, _⟩, ha⟩ c hc => by
    rcases List.mem_cons.mp hc with q | hc
    · rw [q]; exact ⟨_, hz, fun v q => nomatch q⟩
    rcases List.mem_cons.mp hc with q | hc
    · rw [q]; exact ⟨_, hTI, fun v q => nomatch q⟩
    rcases List.mem_cons.mp hc with q | hc
    · rw [q]; exact ⟨_, hTO, fun v q => nomatch q⟩
    obtain ⟨t, ht, rfl⟩ := List.mem_map.mp hc
    obtain ⟨o, e, vs, d⟩ := (ha t ht).obj
    exact ⟨o, e, fun v q => by rw [d] at q; cases q⟩
  keep := fun i h h' ⟨hz, hTI, ⟨old, hTO, hl⟩, ha⟩ k => ⟨k z (by simp) _ hz, k TI (by simp) _ hTI, ⟨old, k TO (by simp) _ hTO, hl⟩, fun t ht => (ha t ht).to fun o q => k _ (by
    refine List.mem_cons_of_mem _ (List.mem_cons_of_mem _ (List.mem_cons_of_mem _ ?_))
    exact List.mem_map.mpr ⟨t, ht, rfl⟩) o q⟩
  item := by
    intro X hP hw hK hc i pins s σ H E I hf st hg
    subst hP hw hK
    obtain ⟨hz, hTI, ⟨old, hTO, hol⟩, ha⟩ := st
    obtain ⟨xss, hx⟩ := hg
    obtain ⟨its, h2, h3⟩ := all2_objs I (hx.mono fun _ _ h => h.1)
    have lx : xss.length = L.length := by have := hx.len; simpa using this.symm
    have zf := zip_fst (l := xss) (m := its) (h3.trans lx.symm)
    have lt : ∀ t ∈ L, t.it < s.heap.objs.size := fun t ht => by
      obtain ⟨o, e, _⟩ := (ha t ht).obj
      exact Heap.lt_size e
    have zl : z < s.heap.objs.size := Heap.lt_size hz
    have til : TI < s.heap.objs.size := Heap.lt_size hTI
    have tol : TO < s.heap.objs.size := Heap.lt_size hTO
    obtain ⟨S, -, e1, e2, e3, e4, e5, e6, e7, e8, e9, e10⟩ := srcs_ok (P := X.prog) (w := X.w) (B := s.heap.objs.size) h2 ha D.lb D.nd D.zb D.ib D.ob lt (Nat.le_trans D.zb (Nat.le_of_lt zl))
    have h0S : S ≠ [] := fun q => by rw [q] at e2; exact h0 (List.eq_nil_of_length_eq_zero e2.symm)
    have hfp : ∀ c, c ∈ fps S → c ∈ L.map (·.it) := fun c hc => by
      obtain ⟨T, hT, q⟩ := mem_fps.mp hc
      obtain ⟨t, ht, _, _, q3⟩ := e7 T hT
      rw [q3] at q
      rw [List.mem_singleton.mp q]
      exact List.mem_map.mpr ⟨t, ht, rfl⟩
    refine pyNext_any (I.ok.hd hc) e3 e4 ⟨D.TIz, D.TOz, D.TIO, fun T hT => (e6 T hT).1, fun T hT => (e6 T hT).2.1, fun T hT => (e6 T hT).2.2⟩ ⟨zl, til, tol⟩ (Nat.le_refl _) (by rw [e2]; exact hl) h0S hz (by rw [e1]; exact hTI) hTO (hol.trans e2.symm) e5 (fun hi h' vs T z' TI' TO' st' v3 hT hle hlt hk => ?_) (fun hn => ?_)
    · refine ⟨_, rfl, wpAny_letOwnedTupleGo_zip (s := { s with heap := h' }) z' fun h'' z'' sb => ?_⟩
      obtain ⟨xs, rv, hat⟩ := e9 h' vs v3
      have hTz : T ≠ z := Nat.ne_of_gt (Nat.lt_of_lt_of_le zl hle)
      have hT2 : isTup h'' T vs := (sb.2 _ hTz).trans hT
      have lv := rv.length
      have lv2 := v3.len
      have new : ObjOk X.prog X.w (upd H T (.tup xs)) h'' T (.tup xs) :=
        ⟨by show xs.length ≤ sizeLine; rw [lv, lv2, e2]; exact Nat.le_trans hl (by decide), vs, rv, ⟨_, hT2, rfl, _, rfl⟩⟩
      have hnm : ∀ c, c ∉ z :: TI :: TO :: L.map (·.it) → c ≠ z ∧ c ≠ TO ∧ c ∉ fps S := fun c hc => ⟨fun q => hc (by simp [q]), fun q => hc (by simp [q]), fun q => hc (List.mem_cons_of_mem _ (List.mem_cons_of_mem _ (List.mem_cons_of_mem _ (hfp c q))))⟩
      have I1 : Inv X pins σ (upd H T (.tup xs)) { s with heap := h'' } :=
        I.turnedNew (t' := s.toks) (ch := z :: TI :: TO :: L.map (·.it)) (fun c o hb q => (sb.2 c (fun q' => hb (by simp [q']))).trans (hk c o (hnm c hb) q)) hf hle new
      refine ⟨.ref T, _, I1, rfl, ⟨T, xs, rfl, I.hok.fresh hle, rfl, ?_⟩, ⟨z'', ?_, ⟨vs, (sb.2 _ D.TOz).trans TO', lv2.trans e2⟩, fun t ht => ?_⟩, fun c hcm => ?_⟩
      · have q1 : All2 (fun t x => ∀ xs, SqB X.K H t.lst t.l xs → xs[i]? = some x) L xs := by
          refine (all2_split h2 hat).mono fun t x ⟨p, ⟨hq, _⟩, hx⟩ ys hy => ?_
          rw [SqB.inj I hy hq]
          exact hx
        exact all2_map (R := fun (p : Bool × Addr) x => ∀ xs, SqB X.K H p.1 p.2 xs → xs[i]? = some x) (fun t : Leg => (t.lst, t.l)) q1
      · refine (sb.2 _ D.TIz).trans ?_
        rw [← e1]
        exact TI'
      · exact (e8 h' st' t ht).to fun o q => (sb.2 _ (D.lb t ht).2.2.1).trans q
      · have hlt : c < s.heap.objs.size := by
          rcases List.mem_cons.mp hcm with q | hcm
          · rw [q]; exact zl
          rcases List.mem_cons.mp hcm with q | hcm
          · rw [q]; exact til
          rcases List.mem_cons.mp hcm with q | hcm
          · rw [q]; exact tol
          obtain ⟨t, ht, rfl⟩ := List.mem_map.mp hcm
          exact lt t ht
        rw [upd_ne (Nat.ne_of_lt (Nat.lt_of_lt_of_le hlt hle))]
        exact (hf c hcm).1
    · exfalso
      obtain ⟨T, hT, hn⟩ := hn
      have : ∀ p ∈ xss.zip its, i < p.1.length := fun p hp => by
        have hm : p.1 ∈ xss := by rw [← zf]; exact List.mem_map.mpr ⟨p, hp, rfl⟩
        obtain ⟨_, r⟩ := all2_mem hx hm
        exact r.2
      exact absurd (e10.mpr this T hT) (Nat.not_lt.mpr hn)
  done := by
    intro X hP hw hK hc i pins s σ H E I hf st hg
    subst hP hw hK
    obtain ⟨hz, hTI, ⟨old, hTO, hol⟩, ha⟩ := st
    obtain ⟨xss, hx, xs, hm, hlen⟩ := hg
    obtain ⟨its, h2, h3⟩ := all2_objs I hx
    have lx : xss.length = L.length := by have := hx.len; simpa using this.symm
    have zf := zip_fst (l := xss) (m := its) (h3.trans lx.symm)
    have lt : ∀ t ∈ L, t.it < s.heap.objs.size := fun t ht => by
      obtain ⟨o, e, _⟩ := (ha t ht).obj
      exact Heap.lt_size e
    have zl : z < s.heap.objs.size := Heap.lt_size hz
    have til : TI < s.heap.objs.size := Heap.lt_size hTI
    have tol : TO < s.heap.objs.size := Heap.lt_size hTO
    obtain ⟨S, -, e1, e2, e3, e4, e5, e6, e7, e8, e9, e10⟩ := srcs_ok (P := X.prog) (w := X.w) (B := s.heap.objs.size) h2 ha D.lb D.nd D.zb D.ib D.ob lt (Nat.le_trans D.zb (Nat.le_of_lt zl))
    have h0S : S ≠ [] := fun q => by rw [q] at e2; exact h0 (List.eq_nil_of_length_eq_zero e2.symm)
    have hfp : ∀ c, c ∈ fps S → c ∈ L.map (·.it) := fun c hc => by
      obtain ⟨T, hT, q⟩ := mem_fps.mp hc
      obtain ⟨t, ht, _, _, q3⟩ := e7 T hT
      rw [q3] at q
      rw [List.mem_singleton.mp q]
      exact List.mem_map.mpr ⟨t, ht, rfl⟩
    have hnm : ∀ c, c ∉ z :: TI :: TO :: L.map (·.it) → c ≠ z ∧ c ≠ TO ∧ c ∉ fps S := fun c hc => ⟨fun q => hc (by simp [q]), fun q => hc (by simp [q]), fun q => hc (List.mem_cons_of_mem _ (List.mem_cons_of_mem _ (List.mem_cons_of_mem _ (hfp c q))))⟩
    refine pyNext_any (I.ok.hd hc) e3 e4 ⟨D.TIz, D.TOz, D.TIO, fun T hT => (e6 T hT).1, fun T hT => (e6 T hT).2.1, fun T hT => (e6 T hT).2.2⟩ ⟨zl, til, tol⟩ (Nat.le_refl _) (by rw [e2]; exact hl) h0S hz (by rw [e1]; exact hTI) hTO (hol.trans e2.symm) e5 (fun hi => ?_) (fun hn h' hk => ⟨rfl, I.turnedL (t' := s.toks) (ch := z :: TI :: TO :: L.map (·.it)) (fun c o hb q => hk c o (hnm c hb) q) hf⟩)
    exfalso
    have hp : ∃ p ∈ xss.zip its, p.1 = xs := by
      rw [← zf] at hm
      obtain ⟨p, hp, e⟩ := List.mem_map.mp hm
      exact ⟨p, hp, e⟩
    obtain ⟨p, hp, rfl⟩ := hp
    exact absurd (e10.mp hi p hp) (Nat.not_lt.mpr hlen)
  self := fun A i s Q E st h => wpAny_pyIter_zip st.1 h
end ZP
namespace ZP
open PySem PySem.Spec PyProof.Rows L2
open PySem.Builtin.SmallTypes (nextOf iterAll)
def argOf (p : Bool × Addr) : Arg := .seq p.1 p.2
def legsOf : Nat → List (Bool × Addr) → List Leg
  | _, [] => []
  | b, p :: r => ⟨p.1, b, p.2⟩ :: legsOf (b + 1) r
theorem legs_ok {b0 : Nat} : ∀ (ls : List (Bool × Addr)) (h : Heap), (∀ p ∈ ls, p.2 < b0) →
    itsOf h.objs.size (ls.map argOf) = (legsOf h.objs.size ls).map (fun t => Value.ref t.it) ∧ (heapOf h (ls.map argOf)).objs.size = h.objs.size + ls.length ∧
    (∀ t ∈ legsOf h.objs.size ls, t.At (heapOf h (ls.map argOf)) 0 ∧ h.objs.size ≤ t.it ∧ t.it < h.objs.size + ls.length ∧ t.l < b0) ∧ ((legsOf h.objs.size ls).map (·.it)).Nodup ∧ (legsOf h.objs.size ls).map (fun t => (t.lst, t.l)) = ls ∧ (legsOf h.objs.size ls).length = ls.length
  | [], h, _ => ⟨rfl, rfl, fun _ q => (List.not_mem_nil q).elim, .nil, rfl, rfl⟩
  | p :: ls, h, hb => by
    have z : (h.push (itO p.1 p.2)).objs.size = h.objs.size + 1 := Heap.size_push ..
    obtain ⟨e1, e2, e3, e4, e5, e6⟩ := legs_ok ls (h.push (itO p.1 p.2)) fun q hq => hb q (List.mem_cons_of_mem _ hq)
    rw [z] at e1 e2 e3 e4 e5 e6
    refine ⟨?_, ?_, fun t ht => ?_, ?_, ?_, ?_⟩
    · show .ref _ :: itsOf (h.objs.size + 1) (ls.map argOf) = .ref _ :: _
      rw [e1]
    · show (heapOf (h.push (itO p.1 p.2)) (ls.map argOf)).objs.size = h.objs.size + (ls.length + 1)
      rw [e2, Nat.add_assoc, Nat.add_comm 1]
    · rcases List.mem_cons.mp ht with q | q
      · rw [q]
        have g : (heapOf (h.push (itO p.1 p.2)) (ls.map argOf)).get? h.objs.size = some (itO p.1 p.2) := heapOf_kept _ _ _ _ trivial (Heap.get?_push_size _ rfl)
        refine ⟨?_, Nat.le_refl _, by simp, hb p List.mem_cons_self⟩
        obtain ⟨pb, pl⟩ := p
        cases pb with
        | true => exact ⟨_, g, rfl, rfl⟩
        | false => exact ⟨_, g, rfl, rfl⟩
      · obtain ⟨a, b, c, d⟩ := e3 t q
        exact ⟨a, Nat.le_of_succ_le b, by rw [List.length_cons, ← Nat.add_assoc, Nat.add_right_comm]; exact c, d⟩
    · show (h.objs.size :: (legsOf (h.objs.size + 1) ls).map (·.it)).Nodup
      rw [List.nodup_cons]
      refine ⟨fun m => ?_, e4⟩
      obtain ⟨t, ht, q⟩ := List.mem_map.mp m
      have := (e3 t ht).2.1
      rw [q] at this
      exact absurd this (Nat.not_succ_le_self _)
    · show (p.1, p.2) :: (legsOf (h.objs.size + 1) ls).map (fun t => (t.lst, t.l)) = p :: ls
      rw [e5]
    · show (legsOf (h.objs.size + 1) ls).length + 1 = ls.length + 1
      rw [e6]
def iZipW (K : PySem.W.Frag) (n : Nat) (ta : TA) : TI := fun σ H R => ta σ H fun vs H1 => vs.length = n ∧ ∃ (ls : List (Bool × Addr)) (xss : List (List V)), vs = ls.map (fun p => V.ref p.2) ∧ All2 (fun p xs => SqB K H1 p.1 p.2 xs) ls xss ∧ R (ItzN K ls) H1
theorem all2_at {α β : Type} {R : α → β → Prop} {a : α} : ∀ {l : List α} {m : List β}, All2 R l m → a ∈ l → ∃ b, R a b
  | _, _, .nil, h => (List.not_mem_nil h).elim
  | _, _, .cons r t, h => by
    rcases List.mem_cons.mp h with q | q
    · rw [q]; exact ⟨_, r⟩
    · exact all2_at t q
theorem vals_refs : ∀ {as : List (Bool × Addr)} {us : List Value}, Vals (as.map fun p => V.ref p.2) us → us = as.map fun p => Value.ref p.2
  | [], _, .nil => rfl
  | p :: as, _, .cons r t => by
    cases r
    rw [vals_refs t]
    rfl
theorem pi_zipW {X : Cx} {e : Expr} {es : List Expr} {ta : TA} {p pos tpos : Pos} {elts : List Expr} {kk : Nat} (hg : Gl X "zip") (hm : X.mg "zip" = none) (ha : PA X (e :: es) ta) (hl : es.length ≤ 900)
    (hct : ∀ us : List Value, us.length = es.length + 1 → checkTypeCall "zip" ⟨us, []⟩ = pure ()) (hcn : ∀ us : List Value, us.length = es.length + 1 → checkBuiltinCall "zip.__new__" ⟨.type "zip" :: us, []⟩ = pure ())
    (hok : ∀ us : List Value, us.length = es.length + 1 → ∀ obj, argsOk "object.__init__" ⟨obj :: us, []⟩)
    (hs : starEach (e :: es) X.env = (false, eval e X.env) :: starEach es X.env := by rfl) (hpl : (backTo pos (starEach es X.env)).any (·.1) = false := by rfl) :
    PI X (.Tuple elts kk tpos) (.Call (.Name "zip" p) (e :: es) [] pos) (iZipW X.K (es.length + 1) ta) := by
  refine ⟨fun pins s σ H R I h => ?_⟩
  refine Call_ (ld_blt I hg hm PyProof.Rows.boot_zip (PyProof.Rows.callWith_type1 (thn (ha.run pos pins s σ H _ I h) fun us s1 ⟨vs, H1, I1, r1, q1⟩ => ?_) hs hpl))
  obtain ⟨hvl, ls, xss, ex, hx, q⟩ := q1
  subst ex
  obtain rfl := vals_refs r1
  have hn : ls.length = es.length + 1 := by simpa using hvl
  have hb : ∀ p ∈ ls, p.2 < s1.heap.objs.size ∧ IsSq s1.heap (argOf p) := fun p hp => by
    obtain ⟨xs, hq⟩ := all2_at hx hp
    obtain ⟨its, rv, hi⟩ := SqB.obj I1 hq
    refine ⟨?_, its.toArray, hi⟩
    split at hi
    · obtain ⟨o, e, _⟩ := hi; exact Heap.lt_size e
    · obtain ⟨o, e, _⟩ := hi; exact Heap.lt_size e
  obtain ⟨e1, e2, e3, e4, e5, e6⟩ := legs_ok (b0 := s1.heap.objs.size) ls s1.heap fun p hp => (hb p hp).1
  have em : (ls.map argOf).map (·.ad) = ls.map fun p => Value.ref p.2 := by
    rw [List.map_map]; rfl
  have lm : (ls.map fun p => Value.ref p.2).length = es.length + 1 := by rw [List.length_map, hn]
  rw [← em]
  refine call_zipN (args := ls.map argOf) (by rw [List.length_map, hn]; omega) (by rw [em]; exact hct _ lm) (by rw [em]; exact hcn _ lm) (by rw [em]; exact hok _ lm) (fun a ha => ?_) fun h' b hbe hz hTI hTO hk => wpAny_pyIter_zip hz ?_
  · obtain ⟨p, hp, rfl⟩ := List.mem_map.mp ha
    exact (hb p hp).2
  rw [e1] at hTI hTO
  rw [e2] at hbe
  have hk2 : ∀ c o, s1.heap.get? c = some o → h'.get? c = some o := fun c o q => hk c o trivial (heapOf_kept _ _ _ _ trivial q)
  have I2 : Inv X pins σ H1 { s1 with heap := h' } := I1.kept (t' := s1.toks) hk2
  have hle : s1.heap.objs.size ≤ b := by rw [hbe]; exact Nat.le_add_right _ _
  have lay : Lay (b + 2) b (b + 1) s1.heap.objs.size (legsOf s1.heap.objs.size ls) :=
    ⟨by simp, by simp, by simp, Nat.le_trans hle (Nat.le_add_right _ _), hle, Nat.le_trans hle (Nat.le_add_right _ _), fun t ht => by
      obtain ⟨_, a2, a3, a4⟩ := e3 t ht
      rw [← hbe] at a3
      exact ⟨a4, a2, Nat.ne_of_lt (Nat.lt_of_lt_of_le a3 (Nat.le_add_right _ _)), Nat.ne_of_lt a3, Nat.ne_of_lt (Nat.lt_of_lt_of_le a3 (Nat.le_add_right _ _))⟩, e4⟩
  refine ⟨b + 2, (b + 2) :: b :: (b + 1) :: (legsOf s1.heap.objs.size ls).map (·.it), _, _, H1, rfl, I2, turn_zipN (P := X.prog) (w := X.w) (K := X.K) lay (fun q => by rw [q] at e6; simp at e6; omega) (by rw [e6, hn]; omega), ⟨hz, hTI, ⟨_, hTO, by simp⟩, fun t ht => (e3 t ht).1.to fun o q => hk _ o trivial q⟩, fun c hc => ?_, by rw [e5]; exact q⟩
  have hle2 : s1.heap.objs.size ≤ c := by
    rcases List.mem_cons.mp hc with q | hc
    · rw [q]; exact Nat.le_trans hle (Nat.le_add_right _ _)
    rcases List.mem_cons.mp hc with q | hc
    · rw [q]; exact hle
    rcases List.mem_cons.mp hc with q | hc
    · rw [q]; exact Nat.le_trans hle (Nat.le_add_right _ _)
    obtain ⟨t, ht, rfl⟩ := List.mem_map.mp hc
    exact (e3 t ht).2.1
  exact I1.fpOk hle2 (I1.hok.fresh hle2)
end ZP
namespace DL
open PySem PySem.Spec L2
/-- a value as data -/
def datOf (M : Mem) : Vl → Option PyData
  | .d x => some x
  | .s xs => some (.list xs)
  | .h i => match M[i]? with
    | some (.lst xs) => some (.list xs)
    | _ => none
  | _ => none
theorem dat_at {K : Frag} {w : Wd} {M : Mem} {H : Hp} {x : Vl} {v : V} {y : PyData} (r : Rel K w M H) (rv : RV K w x v) (h : datOf M x = some y) : L2.Dp K H v y := by
  cases x with
  | d z =>
    obtain rfl : z = y := Option.some.inj h
    exact Dp.deep r.sub z v rv
  | s zs =>
    obtain rfl : PyData.list zs = y := Option.some.inj h
    obtain ⟨p, vs, e, q, d⟩ := rv
    subst e
    exact .lst (SqL.up r.sub q) (DpAll.deep r.sub _ _ d)
  | h i =>
    obtain ⟨a, e, ev⟩ := rv
    unfold datOf at h
    cases q : M[i]? with
    | none => simp only [q] at h; cases h
    | some m =>
      cases m with
      | gone => simp only [q] at h; cases h
      | nest _ => simp only [q] at h; cases h
      | lst ys =>
        simp only [q] at h
        cases h
        obtain ⟨_, vs, e2, d⟩ := r.at e q
        subst ev
        exact .lst (.inl (.inl e2)) (DpAll.deep r.sub _ _ d)
  | a p => cases h
  | t n => cases h
  | x _ _ => cases h
  | c _ => cases h
/-- == of data: of texts that are well formed, one of them not deep -/
def eqOk (x y : PyData) : Bool := x.canLay0 && y.canLay0 && decide (min x.depth y.depth ≤ 64)
def eqD (x y : PyData) (M : Mem) : Res Vl := match x, y with
  | .str a, .str b => .ok (.d (.bool (decide (a = b)))) M
  | x, y => if eqOk x y = true then .ok (.d (.bool (PyData.eqv x y))) M else .st
def neD (x y : PyData) (M : Mem) : Res Vl := match x, y with
  | .str a, .str b => .ok (.d (.bool (!decide (a = b)))) M
  | x, y => if eqOk x y = true then .ok (.d (.bool (!PyData.eqv x y))) M else .st
def eqV : Vl → Vl → Mem → Res Vl := fun a b M => match datOf M a, datOf M b with
  | some x, some y => eqD x y M
  | _, _ => .st
def neV : Vl → Vl → Mem → Res Vl := fun a b M => match datOf M a, datOf M b with
  | some x, some y => neD x y M
  | _, _ => .st
def ltV : Vl → Vl → Mem → Res Vl
  | .d (.int i), .d (.int j), M => .ok (.d (.bool (decide (i < j)))) M
  | _, _, _ => .st
def leV : Vl → Vl → Mem → Res Vl
  | .d (.int i), .d (.int j), M => .ok (.d (.bool (decide (i ≤ j)))) M
  | _, _, _ => .st
def gtV : Vl → Vl → Mem → Res Vl
  | .d (.int i), .d (.int j), M => .ok (.d (.bool (decide (j < i)))) M
  | _, _, _ => .st
def geV : Vl → Vl → Mem → Res Vl
  | .d (.int i), .d (.int j), M => .ok (.d (.bool (decide (j ≤ i)))) M
  | _, _, _ => .st
/-- is, beside None, True and False -/
def isV : Vl → Vl → Mem → Res Vl
  | .d .none, .d .none, M => .ok (.d (.bool true)) M
  | _, .d .none, M => .ok (.d (.bool false)) M
  | .d (.bool a), .d (.bool b), M => .ok (.d (.bool (decide (a = b)))) M
  | _, _, _ => .st
def isntV : Vl → Vl → Mem → Res Vl
  | .d .none, .d .none, M => .ok (.d (.bool false)) M
  | _, .d .none, M => .ok (.d (.bool true)) M
  | .d (.bool a), .d (.bool b), M => .ok (.d (.bool (!decide (a = b)))) M
  | _, _, _ => .st
section
variable {X : Cx} {W : WX}
theorem opd_eq (hu : X.A.units + 64 < cLine) : OpD X (compareOp .Eq) eqV := by
  rintro pins s σ H x y v u Q I rx ry ⟨w, M, a, b, r, ra, rb, p⟩
  unfold eqV at p
  split at p
  · rename_i d1 d2 h1 h2
    unfold eqD at p
    split at p
    · rename_i z1 z2
      have q1 := dat_at r ra h1
      have q2 := dat_at r rb h2
      cases q1
      cases q2
      refine op_eq pins s σ H _ _ v u Q I rx ry ⟨rfl, ?_⟩
      have e : decide (V.str z1 = V.str z2) = decide (z1 = z2) := by
        rw [Bool.eq_iff_iff]
        simp
      rw [e]
      exact p.at r (.bl _)
    · split at p
      · rename_i hz
        unfold eqOk at hz
        simp only [Bool.and_eq_true, decide_eq_true_eq] at hz
        obtain ⟨as, r1⟩ := L2.Dp.reads I d1 x v (dat_at r ra h1) rx
        obtain ⟨bs, r2⟩ := L2.Dp.reads I d2 y u (dat_at r rb h2) ry
        exact SeqAt.compareEq_reads r1 r2 hz.1.1 hz.1.2 (by omega) ⟨.bl _, H, I, rfl, p.at r (.bl _)⟩
      · exact p.elim
  · exact p.elim
theorem opd_ne (hu : X.A.units + 64 < cLine) : OpD X (compareOp .NotEq) neV := by
  rintro pins s σ H x y v u Q I rx ry ⟨w, M, a, b, r, ra, rb, p⟩
  unfold neV at p
  split at p
  · rename_i d1 d2 h1 h2
    unfold neD at p
    split at p
    · rename_i z1 z2
      have q1 := dat_at r ra h1
      have q2 := dat_at r rb h2
      cases q1
      cases q2
      refine op_ne pins s σ H _ _ v u Q I rx ry ⟨rfl, ?_⟩
      have e : decide (V.str z1 = V.str z2) = decide (z1 = z2) := by
        rw [Bool.eq_iff_iff]
        simp
      rw [e]
      exact p.at r (.bl _)
    · split at p
      · rename_i hz
        unfold eqOk at hz
        simp only [Bool.and_eq_true, decide_eq_true_eq] at hz
        obtain ⟨as, r1⟩ := L2.Dp.reads I d1 x v (dat_at r ra h1) rx
        obtain ⟨bs, r2⟩ := L2.Dp.reads I d2 y u (dat_at r rb h2) ry
        exact SeqAt.compareNe_reads r1 r2 hz.1.1 hz.1.2 (by omega) ⟨.bl _, H, I, rfl, p.at r (.bl _)⟩
      · exact p.elim
  · exact p.elim
theorem opd_lt : OpD X (compareOp .Lt) ltV := by
  rintro pins s σ H x y v u Q I rx ry ⟨w, M, a, b, r, ra, rb, p⟩
  unfold ltV at p
  split at p
  · cases ra; cases rb
    exact op_lt pins s σ H _ _ v u Q I rx ry ⟨_, _, rfl, rfl, p.at r (.bl _)⟩
  · exact p.elim
theorem opd_gt : OpD X (compareOp .Gt) gtV := by
  rintro pins s σ H x y v u Q I rx ry ⟨w, M, a, b, r, ra, rb, p⟩
  unfold gtV at p
  split at p
  · cases ra; cases rb
    exact op_gt pins s σ H _ _ v u Q I rx ry ⟨_, _, rfl, rfl, p.at r (.bl _)⟩
  · exact p.elim
theorem opd_ge : OpD X (compareOp .GtE) geV := by
  rintro pins s σ H x y v u Q I rx ry ⟨w, M, a, b, r, ra, rb, p⟩
  unfold geV at p
  split at p
  · cases ra; cases rb
    exact op_ge pins s σ H _ _ v u Q I rx ry ⟨_, _, rfl, rfl, p.at r (.bl _)⟩
  · exact p.elim
theorem rv_none {K : Frag} {w : Wd} {v : V} : ∀ {a : Vl}, (a = .d .none → False) → RV K w a v → v ≠ .non
  | .d x, h, r => by
    intro z
    subst z
    cases r
    exact h rfl
  | .h i, _, ⟨a, _, e⟩ => by rw [e]; exact fun z => by cases z
  | .a p, _, e => by rw [show v = _ from e]; exact fun z => by cases z
  | .t n, _, e => by rw [show v = _ from e]; exact fun z => by cases z
  | .x _ _, _, ⟨p, d, e, _⟩ => by rw [e]; exact fun z => by cases z
  | .c n, _, e => by rw [show v = _ from e]; exact fun z => by cases z
  | .s xs, _, ⟨p, vs, e, _⟩ => by rw [e]; exact fun z => by cases z
theorem opd_is : OpD X (compareOp .Is) isV := by
  rintro pins s σ H x y v u Q I rx ry ⟨w, M, a, b, r, ra, rb, p⟩
  unfold isV at p
  split at p
  · cases ra; cases rb
    exact op_isN pins s σ H _ _ v u Q I rx ry ⟨rfl, p.at r (.bl _)⟩
  · rename_i hn
    cases rb
    refine op_isN pins s σ H _ _ v u Q I rx ry ⟨rfl, ?_⟩
    rw [decide_eq_false (rv_none hn ra)]
    exact p.at r (.bl _)
  · cases ra; cases rb
    exact op_is_bl pins s σ H _ _ v u Q I rx ry ⟨_, _, rfl, rfl, p.at r (.bl _)⟩
  · exact p.elim
theorem opd_isnt : OpD X (compareOp .IsNot) isntV := by
  rintro pins s σ H x y v u Q I rx ry ⟨w, M, a, b, r, ra, rb, p⟩
  unfold isntV at p
  split at p
  · cases ra; cases rb
    exact op_notN pins s σ H _ _ v u Q I rx ry ⟨rfl, p.at r (.bl _)⟩
  · rename_i hn
    cases rb
    refine op_notN pins s σ H _ _ v u Q I rx ry ⟨rfl, ?_⟩
    rw [decide_eq_false (rv_none hn ra)]
    exact p.at r (.bl _)
  · cases ra; cases rb
    exact op_isnot_bl pins s σ H _ _ v u Q I rx ry ⟨_, _, rfl, rfl, p.at r (.bl _)⟩
  · exact p.elim
end
end DL
namespace DL
open PySem PySem.Spec L2
section
variable {X : Cx} {W : WX}
def tstV (M : Mem) : Vl → Option Bool
  | .d .none => some false
  | .d (.bool b) => some b
  | .d (.int i) => some (i != 0)
  | .d (.str y) => if y.length ≤ sizeLine then some ((y.length : Int) != 0) else none
  | .d (.tuple xs) => some (!xs.isEmpty)
  | x => (rdOf M x).map fun xs => !xs.isEmpty
def asB (x : Vl) (M : Mem) : Res Bool := match tstV M x with
  | some b => .ok b M
  | none => .st
theorem empty_same {K : Frag} {F : Hp} {vs : List V} {ds : List PyData} (h : DpAll K F vs ds) : (!vs.isEmpty) = !ds.isEmpty := by cases h <;> rfl
theorem tst_at {K : Frag} {w : Wd} {M : Mem} {H : Hp} {x : Vl} {v : V} {b : Bool} (r : Rel K w M H) (rv : RV K w x v) (h : tstV M x = some b) : TruV K v H b := by
  have lst : ∀ {xs}, rdOf M x = some xs → (!xs.isEmpty) = b → TruV K v H b := fun {xs} e q => by
    obtain ⟨p, vs, e1, h1, d1⟩ := rd_at r rv e
    subst e1
    exact .inl ⟨vs, h1, by rw [empty_same d1]; exact q.symm⟩
  cases x with
  | d y =>
    cases y with
    | none => cases rv; exact (Option.some.inj h).symm
    | bool c => cases rv; exact (Option.some.inj h).symm
    | int i => cases rv; exact (Option.some.inj h).symm
    | str z =>
      cases rv
      have h : (if z.length ≤ sizeLine then some ((z.length : Int) != 0) else none) = some b := h
      by_cases hz : z.length ≤ sizeLine
      · rw [if_pos hz] at h; exact ⟨hz, (Option.some.inj h).symm⟩
      · rw [if_neg hz] at h; cases h
    | tuple xs =>
      obtain ⟨p, vs, e1, h1, d1⟩ := tup_at r rv (show tupOf _ = some _ from rfl)
      subst e1
      exact .inr (.inl ⟨vs, h1, by rw [empty_same d1]; exact (Option.some.inj h).symm⟩)
    | list xs => exact lst rfl (Option.some.inj h)
    | dict _ => cases h
  | h i =>
    have h : (rdOf M (.h i)).map _ = some b := h
    cases e : rdOf M (.h i) with
    | none => rw [e] at h; cases h
    | some xs => rw [e] at h; exact lst e (Option.some.inj h)
  | s xs => exact lst rfl (Option.some.inj h)
  | a p => cases h
  | t n => cases h
  | x _ _ => cases h
  | c _ => cases h
def tstE (f : Ev) : Env → Mem → Res Bool := fun e M => (f e M).bind asB
theorem dt_e {ex : Expr} {f : Ev} (h : DE X W ex f) (he : ∀ whole, isTrue ex X.env whole = (do let v ← whole; standAt ex.pos; holding [v] (truthy v)) := by intro _; rfl) : DT X W ex (tstE f) :=
  PTweak (pt_truth h he) fun σ H Q ⟨w, e, M, r, re, p⟩ =>
    ⟨w, e, M, r, re, p.bind fun x M1 w1 v H1 l1 r1 rv p1 => by
      unfold asB at p1
      split at p1
      · rename_i b hb
        exact ⟨b, tst_at r1 rv hb, p1.at r1 rfl⟩
      · exact p1.elim⟩
def boolOf : Vl → Mem → Res Bool
  | .d (.bool b), M => .ok b M
  | _, _ => .st
/-- a comparison as a test -/
def opT (g : Vl → Vl → Mem → Res Vl) (f1 f2 : Ev) : Env → Mem → Res Bool := fun e M => (f1 e M).bind fun x M1 => (f2 e M1).bind fun y M2 => (g x y M2).pur.bind boolOf
theorem boolOf_at {K : Frag} {E : XK} {w : Wd} {M : Mem} {H : Hp} {z : Vl} {v : V} {Q : Bool → Hp → Prop} (r : Rel K w M H) (rv : RV K w z v) (p : Post K E (fun _ a b => a = b) w (boolOf z M) Q) : ∃ k, v = .bl k ∧ Q k H := by
  unfold boolOf at p
  split at p
  · cases rv
    exact ⟨_, rfl, p.at r rfl⟩
  · exact p.elim
theorem dt_cmp {op : CmpOp} {a b : Expr} {g : Vl → Vl → Mem → Res Vl} {f1 f2 : Ev} {pos : Pos} (ho : OpD X (compareOp op) g) (ha : DE X W a f1) (hb : DE X W b f2)
    (hm : behindInMarks op b = false := by first | exact nomark _ | rfl) : DT X W (.Compare a [op] [b] pos) (opT g f1 f2) :=
  PTweak (pt_cmpR ho ha hb hm) fun σ H Q ⟨w, e, M, r, re, p⟩ =>
    ⟨w, e, M, r, re, p.bind fun x M1 w1 v H1 l1 r1 rv p1 =>
      ⟨w1, e, M1, r1, re.up l1, p1.bind fun y M2 w2 u H2 l2 r2 ru p2 =>
        ⟨w2, M2, x, y, r2, rv.up l2, ru, (Post.bind (RR := RV X.K) p2 fun z M3 w3 t H3 l3 r3 rt p3 => boolOf_at r3 rt p3).pur⟩⟩⟩
def DW (X : Cx) (W : WX) (e : Expr) (f : Env → Mem → Res Bool) : Prop := PW X e (tT X.K W f)
variable {a b c : Expr} {rest : List Expr} {pos : Pos} {f g : Env → Mem → Res Bool}
def andT (f g : Env → Mem → Res Bool) : Env → Mem → Res Bool := fun e M => (f e M).bind fun b M1 => if b = true then g e M1 else .ok false M1
def orT (f g : Env → Mem → Res Bool) : Env → Mem → Res Bool := fun e M => (f e M).bind fun b M1 => if b = true then .ok true M1 else g e M1
def notT (f : Env → Mem → Res Bool) : Env → Mem → Res Bool := fun e M => (f e M).bind fun b M1 => .ok (!b) M1
theorem dw_and1 (h : DT X W a f) : DW X W (.BoolOp .And [a] pos) f := pw_and1 h
theorem dw_or1 (h : DT X W a f) : DW X W (.BoolOp .Or [a] pos) f := pw_or1 h
theorem dw_and (h : DT X W a f) (k : DW X W (.BoolOp .And (b :: rest) pos) g) : DW X W (.BoolOp .And (a :: b :: rest) pos) (andT f g) :=
  PWweak (pw_and h k) fun σ H Q ⟨w, e, M, r, re, p⟩ =>
    ⟨w, e, M, r, re, p.bind fun x M1 w1 v H1 l1 r1 rv p1 => by
      have rv : x = v := rv
      subst rv
      cases x with
      | true => exact ⟨w1, e, M1, r1, re.up l1, p1⟩
      | false => exact p1.at r1 rfl⟩
theorem dw_or (h : DT X W a f) (k : DW X W (.BoolOp .Or (b :: rest) pos) g) : DW X W (.BoolOp .Or (a :: b :: rest) pos) (orT f g) :=
  PWweak (pw_or h k) fun σ H Q ⟨w, e, M, r, re, p⟩ =>
    ⟨w, e, M, r, re, p.bind fun x M1 w1 v H1 l1 r1 rv p1 => by
      have rv : x = v := rv
      subst rv
      cases x with
      | true => exact p1.at r1 rfl
      | false => exact ⟨w1, e, M1, r1, re.up l1, p1⟩⟩
theorem dt_w (h : DW X W a f) : DT X W a f := PW.pt h
theorem dt_not (h : DT X W a f) : DT X W (.UnaryOp .Not a pos) (notT f) :=
  PTweak (pt_not h) fun σ H Q ⟨w, e, M, r, re, p⟩ =>
    ⟨w, e, M, r, re, p.bind fun x M1 w1 v H1 l1 r1 rv p1 => by
      have rv : x = v := rv
      subst rv
      exact p1.at r1 rfl⟩
/-- .. as values -/
def andE (f g : Ev) : Ev := fun e M => (f e M).bind fun x M1 => (boolOf x M1).bind fun b M2 => if b = true then g e M2 else .ok (.d (.bool false)) M2
def orE (f g : Ev) : Ev := fun e M => (f e M).bind fun x M1 => (boolOf x M1).bind fun b M2 => if b = true then .ok (.d (.bool true)) M2 else g e M2
def notE (f : Ev) : Ev := fun e M => (f e M).bind fun x M1 => (boolOf x M1).bind fun b M2 => .ok (.d (.bool !b)) M2
variable {f1 f2 : Ev}
theorem de_one {op : PySem.BoolOp} (h : DE X W a f1) : DE X W (.BoolOp op [a] pos) f1 := pe_one h
theorem boolOf_is {K : Frag} {w : Wd} {z : Vl} {M M' : Mem} {v : V} {b : Bool} (h : boolOf z M = .ok b M') (rv : RV K w z v) : v = .bl b ∧ M' = M := by
  unfold boolOf at h
  split at h
  · cases rv; cases h; exact ⟨rfl, rfl⟩
  · cases h
theorem de_and (h : DE X W a f1) (k : DE X W (.BoolOp .And (b :: rest) pos) f2) : DE X W (.BoolOp .And (a :: b :: rest) pos) (andE f1 f2) :=
  PEweak (pe_and h k) fun σ H Q ⟨w, e, M, r, re, p⟩ =>
    ⟨w, e, M, r, re, p.bind fun x M1 w1 v H1 l1 r1 rv p1 => by
      cases hb : boolOf x M1 with
      | st => rw [hb] at p1; exact p1.elim
      | er C fs M' => unfold boolOf at hb; split at hb <;> cases hb
      | ok b M2 =>
        obtain ⟨e1, e2⟩ := boolOf_is hb rv
        subst e1 e2
        rw [hb] at p1
        refine ⟨b, rfl, ?_⟩
        cases b with
        | true => exact ⟨w1, e, _, r1, re.up l1, p1⟩
        | false => exact Post.at (show Post X.K (WE W σ) (RV X.K) w1 (.ok (.d (.bool false)) _) Q from p1) r1 (.bl _)⟩
theorem de_or (h : DE X W a f1) (k : DE X W (.BoolOp .Or (b :: rest) pos) f2) : DE X W (.BoolOp .Or (a :: b :: rest) pos) (orE f1 f2) :=
  PEweak (pe_or h k) fun σ H Q ⟨w, e, M, r, re, p⟩ =>
    ⟨w, e, M, r, re, p.bind fun x M1 w1 v H1 l1 r1 rv p1 => by
      cases hb : boolOf x M1 with
      | st => rw [hb] at p1; exact p1.elim
      | er C fs M' => unfold boolOf at hb; split at hb <;> cases hb
      | ok b M2 =>
        obtain ⟨e1, e2⟩ := boolOf_is hb rv
        subst e1 e2
        rw [hb] at p1
        refine ⟨b, rfl, ?_⟩
        cases b with
        | true => exact Post.at (show Post X.K (WE W σ) (RV X.K) w1 (.ok (.d (.bool true)) _) Q from p1) r1 (.bl _)
        | false => exact ⟨w1, e, _, r1, re.up l1, p1⟩⟩
def ifE (c : Env → Mem → Res Bool) (f g : Ev) : Ev := fun e M => (c e M).bind fun b M1 => if b = true then f e M1 else g e M1
theorem de_if (hc : DT X W c f) (ha : DE X W a f1) (hb : DE X W b f2) : DE X W (.IfExp c a b pos) (ifE f f1 f2) :=
  PEweak (pe_ifExp hc ha hb) fun σ H Q ⟨w, e, M, r, re, p⟩ =>
    ⟨w, e, M, r, re, p.bind fun x M1 w1 v H1 l1 r1 rv p1 => by
      have rv : x = v := rv
      subst rv
      cases x with
      | true => exact ⟨w1, e, M1, r1, re.up l1, p1⟩
      | false => exact ⟨w1, e, M1, r1, re.up l1, p1⟩⟩
end
end DL
namespace DL
open PySem PySem.Spec L2
/-- a list just made: its items -/
def DF (X : Cx) (W : WX) (e : Expr) (f : Env → Mem → Res (List PyData)) : Prop :=
  PE X e fun σ H Q => tG X.K W (fun w xs vs => DpAll X.K w.F vs xs) f σ H fun vs H1 => ∀ p, H1 p = none → Q (.ref p) (upd H1 p (.lst vs))
/-- kept as data -/
def datE (f : Env → Mem → Res (List PyData)) : Ev := fun e M => (f e M).bind fun xs M1 => .ok (.d (.list xs)) M1
/-- kept under a handle -/
def newE (f : Env → Mem → Res (List PyData)) : Ev := fun e M => (f e M).bind fun xs M1 => .ok (.h M1.length) (M1 ++ [.lst xs])
section
variable {X : Cx} {W : WX} {e a b : Expr} {es : List Expr} {pos : Pos} {f f1 f2 : Ev} {g : Evs}
theorem de_dat {f : Env → Mem → Res (List PyData)} (h : DF X W e f) : DE X W e (datE f) :=
  PEweak h fun σ H Q ⟨w, e, M, r, re, p⟩ =>
    ⟨w, e, M, r, re, p.bind fun xs M1 w1 vs H1 l1 r1 d1 p1 q hq =>
      p1 _ _ _ (Wd.le_fz (r1.new hq).2) (r1.alloc hq _) (Dp.lst upd_same (DpAll.up (Wd.le_fz (w := w1) (o := .lst vs) (r1.new hq).2).2 _ _ d1))⟩
theorem de_new {f : Env → Mem → Res (List PyData)} (h : DF X W e f) : DE X W e (newE f) :=
  PEweak h fun σ H Q ⟨w, e, M, r, re, p⟩ =>
    ⟨w, e, M, r, re, p.bind fun xs M1 w1 vs H1 l1 r1 d1 p1 q hq =>
      p1 _ _ _ Wd.le_add (r1.fresh hq d1) ⟨q, by show (w1.as ++ [q])[M1.length]? = some q; rw [← r1.len, List.getElem?_append_right (Nat.le_refl _)]; simp, rfl⟩⟩
/-- all of them data, so many -/
def asDs (xs : List Vl) (M : Mem) : Res (List PyData) := match datas xs with
  | some ds => if ds.length ≤ sizeLine then .ok ds M else .st
  | none => .st
def dispE (f : Evs) : Env → Mem → Res (List PyData) := fun e M => (f e M).bind asDs
theorem df_lst (h : DA X W es g) : DF X W (.List es pos) (dispE g) :=
  PEweak (pe_lst h) fun σ H Q ⟨w, e, M, r, re, p⟩ =>
    ⟨w, e, M, r, re, p.bind fun xs M1 w1 vs H1 l1 r1 rv p1 => by
      unfold asDs at p1
      split at p1
      · rename_i ds hd
        split at p1
        · rename_i hz
          have d1 := rv.dat hd
          exact ⟨by rw [d1.len]; exact hz, p1.at r1 d1⟩
        · exact p1.elim
      · exact p1.elim⟩
def tupE (f : Evs) : Ev := fun e M => (f e M).bind fun xs M1 => (asDs xs M1).bind fun ds M2 => .ok (.d (.tuple ds)) M2
theorem de_tup {k : Nat} (h : DA X W es g) : DE X W (.Tuple es k pos) (tupE g) :=
  PEweak (pe_tupX h) fun σ H Q ⟨w, e, M, r, re, p⟩ =>
    ⟨w, e, M, r, re, p.bind fun xs M1 w1 vs H1 l1 r1 rv p1 => by
      unfold asDs at p1
      split at p1
      · rename_i ds hd
        split at p1
        · rename_i hz
          have d1 := rv.dat hd
          exact ⟨by rw [d1.len]; exact hz, newT_of r1 d1 p1⟩
        · exact p1.elim
      · exact p1.elim⟩
def repE (f1 f2 : Ev) : Env → Mem → Res (List PyData) := fun e M => (f1 e M).bind fun x M1 => (f2 e M1).bind fun y M2 => match lstOf M2 x, y with
  | some xs, .d (.int k) => if k < 2 ^ 62 ∧ -(2 ^ 62) < k ∧ xs.length * k.toNat ≤ sizeLine then .ok (List.replicate k.toNat xs).flatten M2 else .st
  | _, _ => .st
theorem df_rep (ha : DE X W a f1) (hb : DE X W b f2) : DF X W (.BinOp a .Mult b pos) (repE f1 f2) :=
  PEweak (pe_op op_rep ha hb) fun σ H Q ⟨w, e, M, r, re, p⟩ =>
    ⟨w, e, M, r, re, p.bind fun x M1 w1 v H1 l1 r1 rv p1 =>
      ⟨w1, e, M1, r1, re.up l1, p1.bind fun y M2 w2 u H2 l2 r2 ru p2 => by
        split at p2
        · rename_i xs k h1
          split at p2
          · rename_i hz
            cases ru
            obtain ⟨q1, vs, rfl, s1, d1⟩ := lst_at r2 (rv.up l2) h1
            exact ⟨q1, k, vs, rfl, rfl, s1, by have := hz.1; have := hz.2.1; omega, by have := hz.1; omega, by rw [d1.len]; exact hz.2.2, p2.at r2 (DpAll.rep d1 _)⟩
          · exact p2.elim
        · exact p2.elim⟩⟩
theorem atI_map {K : Frag} {F : Hp} {vs : List V} {ds : List PyData} {i : Int} {d : PyData} (h : DpAll K F vs ds) (e : atI ds i = some d) : ∃ v, atI vs i = some v ∧ Dp K F v d := by
  unfold atI at e ⊢
  rw [h.len]
  cases q : ixN ds.length i with
  | none => rw [q] at e; cases e
  | some j =>
    rw [q] at e
    exact h.get e
/-- a sequence: a list or a tuple -/
def seqOf (M : Mem) (x : Vl) : Option (List PyData) := match tupOf x with
  | some xs => some xs
  | none => rdOf M x
theorem seq_at {K : Frag} {w : Wd} {M : Mem} {H : Hp} {x : Vl} {v : V} {xs : List PyData} (r : Rel K w M H) (rv : RV K w x v) (h : seqOf M x = some xs) : ∃ p vs, v = .ref p ∧ (SqL K H p vs ∨ SqT K H p vs) ∧ DpAll K w.F vs xs := by
  unfold seqOf at h
  cases q : tupOf x with
  | some ys =>
    rw [q] at h
    obtain rfl : ys = xs := Option.some.inj h
    obtain ⟨p, vs, e, s, d⟩ := tup_at r rv q
    exact ⟨p, vs, e, .inr s, d⟩
  | none =>
    rw [q] at h
    obtain ⟨p, vs, e, s, d⟩ := rd_at r rv h
    exact ⟨p, vs, e, .inl s, d⟩
def ixV (x y : Vl) (M : Mem) : Res Vl := match y with
  | .d (.int i) => match x with
    | .d (.str z) => match atI z.cps.toList i with
      | some c => if z.length ≤ sizeLine then .ok (.d (.str ⟨#[c]⟩)) M else .st
      | none => .st
    | x => match seqOf M x with
      | some xs => match atI xs i with
        | some d => .ok (.d d) M
        | none => .st
      | none => .st
  | _ => .st
theorem de_ix (ha : DE X W a f1) (hb : DE X W b f2) (hs : PlainIx b := by exact fun _ _ => rfl) : DE X W (.Subscript a b pos) (op2 ixV f1 f2) :=
  PEweak (pe_ix ix_seq ha hb hs) fun σ H Q ⟨w, e, M, r, re, p⟩ =>
    ⟨w, e, M, r, re, p.bind fun x M1 w1 v H1 l1 r1 rv p1 =>
      ⟨w1, e, M1, r1, re.up l1, p1.bind fun y M2 w2 u H2 l2 r2 ru p2 => by
        have p2 : Post X.K (WE W σ) (RV X.K) w2 (ixV x y M2) Q := p2.pur
        have rv := rv.up l2
        unfold ixV at p2
        split at p2
        · cases ru
          split at p2
          · cases rv
            split at p2
            · split at p2
              · rename_i hc hz
                exact .inr (.inr ⟨_, _, _, rfl, rfl, hz, hc, p2.at r2 (.str _)⟩)
              · exact p2.elim
            · exact p2.elim
          · split at p2
            · rename_i hq
              split at p2
              · rename_i hd
                obtain ⟨q, vs, rfl, hs | hs, d⟩ := seq_at r2 rv hq
                · obtain ⟨u, h1, h2⟩ := atI_map d hd
                  exact .inl ⟨q, vs, _, u, rfl, rfl, hs, h1, p2.at r2 h2⟩
                · obtain ⟨u, h1, h2⟩ := atI_map d hd
                  exact .inr (.inl ⟨q, vs, _, u, rfl, rfl, hs, h1, p2.at r2 h2⟩)
              · exact p2.elim
            · exact p2.elim
        · exact p2.elim⟩⟩
end
end DL
namespace DL
open PySem PySem.Spec L2
def CallD (X : Cx) (F : Value) (g : List Vl → Mem → Res Vl) : Prop :=
  CallR X F fun vs H Q => ∃ (w : Wd) (M : Mem) (xs : List Vl), Rel X.K w M H ∧ RVs X.K w xs vs ∧ Post X.K (fun _ _ _ => False) (RV X.K) w (g xs M) Q
def callE (g : List Vl → Mem → Res Vl) (f : Evs) : Ev := fun e M => (f e M).bind fun xs M1 => (g xs M1).pur
section
variable {X : Cx} {W : WX} {e : Expr} {es : List Expr} {p pos : Pos} {x : Str} {id T : String} {g : List Vl → Mem → Res Vl} {f : Evs}
theorem de_callB (hc : CallD X (.builtin id) g) (hg : Gl X x) (hm : X.mg x = none) (hv : bootBuiltins x = some (.builtin id)) (ha : DA X W (e :: es) f) (hn : x ≠ "__name__" := by decide) (hdb : (x == ("__debug__" : Str)) = false := by decide)
    (he : starEach (e :: es) X.env = (false, eval e X.env) :: starEach es X.env := by rfl) (hpl : (backTo pos (starEach es X.env)).any (·.1) = false := by rfl) : DE X W (.Call (.Name x p) (e :: es) [] pos) (callE g f) :=
  PEweak (pe_callB hc hg hm hv ha hn hdb he hpl) fun σ H Q ⟨w, e, M, r, re, q⟩ =>
    ⟨w, e, M, r, re, q.bind fun xs M1 w1 vs H1 l1 r1 rv p1 => ⟨w1, M1, xs, r1, rv, p1.pur⟩⟩
theorem de_callTy (hc : CallD X (.type T) g) (hg : Gl X x) (hm : X.mg x = none) (hv : bootBuiltins x = some (.type T)) (ha : DA X W (e :: es) f) (hn : x ≠ "__name__" := by decide) (hdb : (x == ("__debug__" : Str)) = false := by decide)
    (he : starEach (e :: es) X.env = (false, eval e X.env) :: starEach es X.env := by rfl) (hpl : (backTo pos (starEach es X.env)).any (·.1) = false := by rfl) : DE X W (.Call (.Name x p) (e :: es) [] pos) (callE g f) :=
  PEweak (pe_callTy hc hg hm hv ha hn hdb he hpl) fun σ H Q ⟨w, e, M, r, re, q⟩ =>
    ⟨w, e, M, r, re, q.bind fun xs M1 w1 vs H1 l1 r1 rv p1 => ⟨w1, M1, xs, r1, rv, p1.pur⟩⟩
end
def lenV : List Vl → Mem → Res Vl
  | [.d (.str z)], M => if z.length ≤ sizeLine then .ok (.d (.int (z.length : Nat))) M else .st
  | [x], M => match seqOf M x with
    | some xs => .ok (.d (.int (xs.length : Nat))) M
    | none => .st
  | _, _ => .st
def absV : List Vl → Mem → Res Vl
  | [.d (.int i)], M => .ok (.d (.int (if i < 0 then -i else i))) M
  | _, _ => .st
def intV : List Vl → Mem → Res Vl
  | [.d (.int i)], M => .ok (.d (.int i)) M
  | [.d (.bool b)], M => .ok (.d (.int (if b then 1 else 0))) M
  | _, _ => .st
def minV : List Vl → Mem → Res Vl
  | [.d (.int i), .d (.int j)], M => .ok (.d (.int (if j < i then j else i))) M
  | _, _ => .st
def blsOf : List PyData → Option (List Bool)
  | [] => some []
  | .bool i :: r => (blsOf r).map (i :: ·)
  | _ :: _ => none
theorem blsOf_map : ∀ ns : List Bool, blsOf (ns.map PyData.bool) = some ns
  | [] => rfl
  | n :: ns => by simp [blsOf, blsOf_map ns]
theorem bls_at {K : Frag} {F : Hp} : ∀ {vs : List V} {ds : List PyData} {ns : List Bool}, DpAll K F vs ds → blsOf ds = some ns → vs = ns.map V.bl
  | _, _, _, .nil, h => by cases h; rfl
  | _, .bool i :: r, ns, .cons h1 h2, h => by
    cases q : blsOf r with
    | none => simp [blsOf, q] at h
    | some l =>
      simp [blsOf, q] at h
      subst h
      cases h1
      rw [List.map_cons, bls_at h2 q]
  | _, .none :: _, _, .cons _ _, h => by simp [blsOf] at h
  | _, .int _ :: _, _, .cons _ _, h => by simp [blsOf] at h
  | _, .str _ :: _, _, .cons _ _, h => by simp [blsOf] at h
  | _, .list _ :: _, _, .cons _ _, h => by simp [blsOf] at h
  | _, .tuple _ :: _, _, .cons _ _, h => by simp [blsOf] at h
  | _, .dict _ :: _, _, .cons _ _, h => by simp [blsOf] at h
def allV : List Vl → Mem → Res Vl
  | [x], M => match (rdOf M x).bind blsOf with
    | some bs => .ok (.d (.bool (bs.all id))) M
    | none => .st
  | _, _ => .st
def tupleV : List Vl → Mem → Res Vl
  | [.d (.tuple xs)], M => .ok (.d (.tuple xs)) M
  | [x], M => match rdOf M x with
    | some xs => .ok (.d (.tuple xs)) M
    | none => .st
  | _, _ => .st
section
variable {X : Cx}
theorem rvs1 {K : Frag} {w : Wd} {x : Vl} {vs : List V} (h : RVs K w [x] vs) : ∃ v, vs = [v] ∧ RV K w x v := by
  cases h with
  | cons a b => cases b; exact ⟨_, rfl, a⟩
theorem rvs2 {K : Frag} {w : Wd} {x y : Vl} {vs : List V} (h : RVs K w [x, y] vs) : ∃ v u, vs = [v, u] ∧ RV K w x v ∧ RV K w y u := by
  cases h with
  | cons a b =>
    obtain ⟨u, rfl, r⟩ := rvs1 b
    exact ⟨_, u, rfl, a, r⟩
theorem cd_len : CallD X (.builtin "len") lenV := by
  rintro pins s σ H vs us Q I rv ⟨w, M, xs, r, rx, p⟩
  unfold lenV at p
  split at p
  · split at p
    · rename_i hz
      obtain ⟨v, rfl, hv⟩ := rvs1 rx
      cases hv
      exact call_len_str pins s σ H _ us Q I rv ⟨_, rfl, hz, p.at r (.int _)⟩
    · exact p.elim
  · split at p
    · rename_i hq
      obtain ⟨v, rfl, hv⟩ := rvs1 rx
      obtain ⟨q, ws, rfl, hs, d⟩ := seq_at r hv hq
      refine call_len_seq pins s σ H _ us Q I rv ⟨q, ws, rfl, hs, ?_⟩
      rw [d.len]
      exact p.at r (.int _)
    · exact p.elim
  · exact p.elim
theorem cd_abs : CallD X (.builtin "abs") DL.absV := by
  rintro pins s σ H vs us Q I rv ⟨w, M, xs, r, rx, p⟩
  unfold DL.absV at p
  split at p
  · obtain ⟨v, rfl, hv⟩ := rvs1 rx
    cases hv
    exact call_abs pins s σ H _ us Q I rv ⟨_, rfl, p.at r (.int _)⟩
  · exact p.elim
theorem cd_int : CallD X (.type "int") intV := by
  rintro pins s σ H vs us Q I rv ⟨w, M, xs, r, rx, p⟩
  unfold intV at p
  split at p
  · obtain ⟨v, rfl, hv⟩ := rvs1 rx
    cases hv
    exact call_int1 pins s σ H _ us Q I rv (.inl ⟨_, rfl, p.at r (.int _)⟩)
  · obtain ⟨v, rfl, hv⟩ := rvs1 rx
    cases hv
    exact call_int1 pins s σ H _ us Q I rv (.inr ⟨_, rfl, p.at r (.int _)⟩)
  · exact p.elim
theorem cd_min2 (hc : X.calm = true) : CallD X (.builtin "min") minV := by
  rintro pins s σ H vs us Q I rv ⟨w, M, xs, r, rx, p⟩
  unfold minV at p
  split at p
  · obtain ⟨v, u, rfl, hv, hu⟩ := rvs2 rx
    cases hv; cases hu
    exact call_min2 hc pins s σ H _ us Q I rv ⟨_, _, rfl, p.at r (.int _)⟩
  · exact p.elim
theorem cd_all (hc : X.calm = true) : CallD X (.builtin "all") allV := by
  rintro pins s σ H vs us Q I rv ⟨w, M, xs, r, rx, p⟩
  unfold allV at p
  split at p
  · split at p
    · rename_i ns hq
      obtain ⟨v, rfl, hv⟩ := rvs1 rx
      obtain ⟨ds, h1, h2⟩ := Option.bind_eq_some_iff.mp hq
      obtain ⟨q, ws, rfl, hs, d⟩ := rd_at r hv h1
      refine cr_all hc pins s σ H _ us Q I rv ⟨q, ns, rfl, ?_, p.at r (.bl _)⟩
      rw [← bls_at d h2]
      exact hs
    · exact p.elim
  · exact p.elim
theorem cd_tuple : CallD X (.type "tuple") tupleV := by
  rintro pins s σ H vs us Q I rv ⟨w, M, xs, r, rx, p⟩
  unfold tupleV at p
  split at p
  · obtain ⟨v, rfl, hv⟩ := rvs1 rx
    obtain ⟨q, ws, rfl, hs, d⟩ := tup_at r hv (show tupOf _ = some _ from rfl)
    exact call_tupX pins s σ H _ us Q I rv ⟨q, ws, rfl, .inr ⟨hs, p.at r hv⟩⟩
  · split at p
    · rename_i hq
      obtain ⟨v, rfl, hv⟩ := rvs1 rx
      obtain ⟨q, ws, rfl, hs, d⟩ := rd_at r hv hq
      exact call_tupX pins s σ H _ us Q I rv ⟨q, ws, rfl, .inl ⟨hs, newT_of r d p⟩⟩
    · exact p.elim
  · exact p.elim
end
/-- a built-in class's name -/
def tyN (M : Mem) : Vl → Option String
  | .d .none => some "NoneType"
  | .d (.bool _) => some "bool"
  | .d (.int _) => some "int"
  | .d (.str _) => some "str"
  | .d (.tuple _) => some "tuple"
  | x => (rdOf M x).map fun _ => "list"
theorem ty_at {K : Frag} {w : Wd} {M : Mem} {H : Hp} {x : Vl} {v : V} {n : String} (r : Rel K w M H) (rv : RV K w x v) (h : tyN M x = some n) : TyX K H v (.type n) := by
  have lst : ∀ {ys : List PyData}, rdOf M x = some ys → "list" = n → TyX K H v (.type n) := fun {ys} e q => by
    obtain ⟨p, vs, e1, h1, _⟩ := rd_at r rv e
    subst e1 q
    rcases h1 with (h1 | ⟨o, h1⟩) | ⟨o, its, k, h1, h2, _⟩
    · exact .base (.lst h1)
    · exact .base (.frz h1)
    · exact .kList h1 h2
  cases x with
  | d y =>
    cases y with
    | none => cases rv; cases h; exact .base .non
    | bool c => cases rv; cases h; exact .base (.bl _)
    | int i => cases rv; cases h; exact .base (.int _)
    | str z => cases rv; cases h; exact .base (.str _)
    | tuple xs =>
      obtain ⟨p, vs, e1, h1, _⟩ := tup_at r rv (show tupOf _ = some _ from rfl)
      subst e1
      obtain rfl : "tuple" = n := Option.some.inj h
      rcases h1 with (h1 | ⟨o, h1⟩) | ⟨o, its, k, h1, h2, _⟩
      · exact .base (.tup h1)
      · exact .fTuple h1
      · exact .kTuple h1 h2
    | list xs => exact lst rfl (Option.some.inj h)
    | dict _ => cases h
  | h i =>
    have h : (rdOf M (.h i)).map (fun _ => "list") = some n := h
    cases e : rdOf M (.h i) with
    | none => rw [e] at h; cases h
    | some xs => rw [e] at h; exact lst e (Option.some.inj h)
  | s xs => exact lst rfl (Option.some.inj h)
  | a p => cases h
  | t n => cases h
  | x _ _ => cases h
  | c _ => cases h
def isiV : List Vl → Mem → Res Vl
  | [x, .t n], M => match (tyN M x).bind fun t => kitB t n with
    | some b => .ok (.d (.bool b)) M
    | none => .st
  | _, _ => .st
section
variable {X : Cx} {W : WX}
theorem cd_isi : CallD X (.builtin "isinstance") isiV := by
  rintro pins s σ H vs us Q I rv ⟨w, M, xs, r, rx, p⟩
  unfold isiV at p
  split at p
  · split at p
    · rename_i b hq
      obtain ⟨v, u, rfl, hv, hu⟩ := rvs2 rx
      have hu : u = .ty _ := hu
      subst hu
      obtain ⟨t, h1, h2⟩ := Option.bind_eq_some_iff.mp hq
      exact call_isi pins s σ H _ us Q I rv ⟨v, _, _, _, b, rfl, .ty _, ty_at r hv h1, kit_ty h2, p.at r (.bl _)⟩
    · exact p.elim
  · exact p.elim
/-- isinstance of one class out of several -/
def isiAny (t : String) : List String → Option Bool
  | [] => some false
  | n :: ns => match kitB t n with
    | some true => some true
    | some false => isiAny t ns
    | none => none
theorem isiAny_kit {K : Frag} {t : String} : ∀ {ns : List String} {b : Bool}, isiAny t ns = some b → PySem.W.kitAny K (.type t) (ns.map Value.type) = some b
  | [], b, h => by cases h; exact kitAny_nil
  | n :: ns, b, h => by
    unfold isiAny at h
    cases q : kitB t n with
    | none => rw [q] at h; cases h
    | some c =>
      rw [q] at h
      cases c with
      | true => cases h; exact kitAny_cons (kit_ty q) (fun z => by cases z) fun _ => rfl
      | false => exact kitAny_cons (kit_ty q) (fun _ => isiAny_kit h) fun z => by cases z
def tysOf : List Vl → Option (List String)
  | [] => some []
  | .t n :: r => (tysOf r).map (n :: ·)
  | _ :: _ => none
theorem tys_at {K : Frag} {w : Wd} : ∀ {xs : List Vl} {vs : List V} {ns : List String}, RVs K w xs vs → tysOf xs = some ns → vs = ns.map V.ty
  | _, _, _, .nil, h => by cases h; rfl
  | .t n :: r, _, ns, .cons h1 h2, h => by
    cases q : tysOf r with
    | none => simp [tysOf, q] at h
    | some l =>
      simp [tysOf, q] at h
      subst h
      rw [List.map_cons, tys_at h2 q, show _ = V.ty n from h1]
  | .d _ :: _, _, _, .cons _ _, h => by simp [tysOf] at h
  | .h _ :: _, _, _, .cons _ _, h => by simp [tysOf] at h
  | .a _ :: _, _, _, .cons _ _, h => by simp [tysOf] at h
  | .s _ :: _, _, _, .cons _ _, h => by simp [tysOf] at h
theorem cls_tys : ∀ ns : List String, Paired ClsV (ns.map V.ty) (ns.map Value.type)
  | [] => .nil
  | n :: ns => .cons (.ty n) (cls_tys ns)
def isiTE (f : Ev) (g : Evs) : Ev := fun e M => (f e M).bind fun x M1 => (g e M1).bind fun ts M2 => match (tysOf ts).bind fun ns => (tyN M2 x).bind fun t => isiAny t ns with
  | some b => if ts.length ≤ 16 then .ok (.d (.bool b)) M2 else .st
  | none => .st
theorem de_isiT {e : Expr} {es : List Expr} {f : Ev} {g : Evs} {k : Nat} {p pos tpos : Pos} (hg : Gl X "isinstance") (hm : X.mg "isinstance" = none) (ha : DE X W e f) (hb : DA X W es g)
    (he : starEach [e, .Tuple es k tpos] X.env = (false, eval e X.env) :: starEach [.Tuple es k tpos] X.env := by rfl) (he2 : starEach [.Tuple es k tpos] X.env = (false, eval (.Tuple es k tpos) X.env) :: starEach [] X.env := by rfl)
    (hpl : (backTo pos (starEach [.Tuple es k tpos] X.env)).any (·.1) = false := by rfl) : DE X W (.Call (.Name "isinstance" p) [e, .Tuple es k tpos] [] pos) (isiTE f g) :=
  PEweak (pe_callB call_isiT hg hm PyProof.Rows.boot_isinstance (pa_cons ha (pa_cons (pe_tup hb) pa_nil he2) he) (by decide) (by decide) he hpl) fun σ H Q ⟨w, e, M, r, re, p⟩ =>
    ⟨w, e, M, r, re, p.bind fun x M1 w1 v H1 l1 r1 rv p1 =>
      ⟨w1, e, M1, r1, re.up l1, p1.bind fun ts M2 w2 vs H2 l2 r2 rvs p2 => by
        have rv := rv.up l2
        split at p2
        · rename_i b hq
          split at p2
          · rename_i hz
            obtain ⟨ns, h1, h2⟩ := Option.bind_eq_some_iff.mp hq
            obtain ⟨t, h3, h4⟩ := Option.bind_eq_some_iff.mp h2
            have e1 := tys_at rvs h1
            refine ⟨by rw [← rvs.len, sizeLine_eq]; omega, fun q hq' => ?_⟩
            have hle : w2.le (w2.fz q (.tup vs)) := Wd.le_fz (r2.new hq').2
            have r3 := r2.alloc hq' (.tup vs)
            refine ⟨v, q, vs, .type t, ns.map Value.type, b, rfl, upd_same, by rw [e1]; exact cls_tys ns, ty_at r3 (rv.up hle) h3, isiAny_kit h4, p2 _ _ _ hle r3 (.bl _)⟩
          · exact p2.elim
        · exact p2.elim⟩⟩
end
end DL
namespace DL
open PySem PySem.Spec L2
section
variable {X : Cx} {W : WX}
def MtD (X : Cx) (id : String) (g : Nat → List PyData → List Vl → Mem → Res Vl) : Prop :=
  MtR X id fun v us H Q => ∃ (w : Wd) (M : Mem) (i : Nat) (xs : List PyData) (ys : List Vl), Rel X.K w M H ∧ RV X.K w (.h i) v ∧ M[i]? = some (.lst xs) ∧ RVs X.K w ys us ∧ Post X.K (fun _ _ _ => False) (RV X.K) w (g i xs ys M) Q
/-- o.m(e, ..), o a handle -/
def methE (g : Nat → List PyData → List Vl → Mem → Res Vl) (f : Ev) (h : Evs) : Ev := fun e M => (f e M).bind fun x M1 => match x with
  | .h i => match M1[i]? with
    | some (.lst _) => (h e M1).bind fun ys M2 => match M2[i]? with
      | some (.lst xs) => (g i xs ys M2).pur
      | _ => .st
    | _ => .st
  | _ => .st
theorem handle_ty {K : Frag} {w : Wd} {M : Mem} {H : Hp} {i : Nat} {v : V} {xs : List PyData} (r : Rel K w M H) (rv : RV K w (.h i) v) (h : M[i]? = some (.lst xs)) : tyV K "list" v H := by
  obtain ⟨a, e, rfl⟩ := rv
  obtain ⟨_, vs, e2, _⟩ := r.at e h
  exact .inl ⟨rfl, vs, .of e2⟩
variable {o e : Expr} {es : List Expr} {f : Ev} {h : Evs} {g : Nat → List PyData → List Vl → Mem → Res Vl} {name : Str} {apos cpos : Pos} {id : String}
theorem de_m (pa : PlainAttrs "list") (slot : Slot "list" name id) (hty : typeOf (.builtin id) = pure (.type "method_descriptor")) (hm : MtD X id g) (ho : DE X W o f) (ha : DA X W (e :: es) h)
    (hbase : attributeBase o name X.env (eval o X.env) = eval o X.env := by rfl)
    (hfew : ((backTo cpos (starEach (e :: es) X.env)).all (fun x => !x.1) && (backToKw cpos (keywordEach [] X.env)).all (fun x => x.1.isSome)
      && decide ((e :: es).length + ([] : List Keyword).length + (if ([] : List Keyword).isEmpty then 0 else 1) < 30)) = true := by rfl)
    (hline : (apos.endLine == cpos.line) = true := by rfl) (hs : starEach (e :: es) X.env = (false, eval e X.env) :: starEach es X.env := by rfl) (hplain : (backTo cpos (starEach es X.env)).any (·.1) = false := by rfl) :
    DE X W (.Call (.Attribute o name apos) (e :: es) [] cpos) (methE g f h) :=
  PEweak (pe_bm pa slot hty hm ho ha hbase hfew hline hs hplain) fun σ H Q ⟨w, e, M, r, re, p⟩ =>
    ⟨w, e, M, r, re, p.bind fun x M1 w1 v H1 l1 r1 rv p1 => by
      split at p1
      · split at p1
        · rename_i q1
          exact ⟨handle_ty r1 rv q1, w1, e, M1, r1, re.up l1, p1.bind fun ys M2 w2 us H2 l2 r2 rys p2 => by
            split at p2
            · rename_i q2
              exact ⟨w2, M2, _, _, ys, r2, rv.up l2, q2, rys, p2.pur⟩
            · exact p2.elim⟩
        · exact p1.elim
      · exact p1.elim⟩
def appM (i : Nat) (xs : List PyData) (ys : List Vl) (M : Mem) : Res Vl := match ys with
  | [.d y] => if xs.length < sizeLine then .ok (.d .none) (M.set i (.lst (xs ++ [y]))) else .st
  | _ => .st
theorem md_append : MtD X "list.append" appM := by
  rintro pins s σ H x us v ws Q I rx rv ⟨w, M, i, xs, ys, r, rh, hm, rys, p⟩
  unfold appM at p
  split at p
  · split at p
    · rename_i hz
      obtain ⟨u, rfl, hu⟩ := rvs1 rys
      obtain ⟨a, ea, rfl⟩ := rh
      obtain ⟨hF, vs, e2, d⟩ := r.at ea hm
      exact mt_append pins s σ H _ _ v ws Q I rx rv ⟨a, vs, u, rfl, rfl, e2, by rw [d.len]; exact hz, p _ _ _ (Wd.le_refl w) (r.write ea hF (d.app (.cons hu .nil))) .non⟩
    · exact p.elim
  · exact p.elim
def popM (i : Nat) (xs : List PyData) (ys : List Vl) (M : Mem) : Res Vl := match ys with
  | [] => match xs[xs.length - 1]? with
    | some y => .ok (.d y) (M.set i (.lst xs.dropLast))
    | none => .st
  | [.d (.int j)] => match ixN xs.length j with
    | some k => if -(2 ^ 63) ≤ j ∧ j < 2 ^ 63 then match xs[k]? with
      | some y => .ok (.d y) (M.set i (.lst (xs.eraseIdx k)))
      | none => .st
      else .st
    | none => .st
  | _ => .st
theorem DpAll.dropLast {K : Frag} {F : Hp} {vs : List V} {ds : List PyData} (h : DpAll K F vs ds) : DpAll K F vs.dropLast ds.dropLast := by
  rw [List.dropLast_eq_take, List.dropLast_eq_take, h.len]
  exact h.take _
theorem md_pop : MtD X "list.pop" popM := by
  rintro pins s σ H x us v ws Q I rx rv ⟨w, M, i, xs, ys, r, rh, hm, rys, p⟩
  unfold popM at p
  split at p
  · split at p
    · rename_i y hy
      cases rys
      obtain ⟨a, ea, rfl⟩ := rh
      obtain ⟨hF, vs, e2, d⟩ := r.at ea hm
      obtain ⟨u, h1, h2⟩ := d.get hy
      exact mt_pop pins s σ H _ _ v ws Q I rx rv ⟨a, vs, u, rfl, rfl, e2, by rw [d.len]; exact h1, p _ _ _ (Wd.le_refl w) (r.write ea hF d.dropLast) h2⟩
    · exact p.elim
  · split at p
    · rename_i k hk
      split at p
      · rename_i hb
        split at p
        · rename_i y hy
          obtain ⟨u, rfl, hu⟩ := rvs1 rys
          cases hu
          obtain ⟨a, ea, rfl⟩ := rh
          obtain ⟨hF, vs, e2, d⟩ := r.at ea hm
          obtain ⟨u, h1, h2⟩ := d.get hy
          refine mt_popAt pins s σ H _ _ v ws Q I rx rv ⟨a, vs, _, k, u, rfl, rfl, e2, hb.1, hb.2, ?_, h1, p _ _ _ (Wd.le_refl w) (r.write ea hF (d.erase k)) h2⟩
          rw [d.len]
          exact (ixN_seq hk).1
        · exact p.elim
      · exact p.elim
    · exact p.elim
  · exact p.elim
def cutD (xs : List PyData) (lo hi : Option Int) : List PyData := (xs.drop (HT.sIx xs.length 0 lo)).take (HT.sIx xs.length xs.length hi - HT.sIx xs.length 0 lo)
abbrev Eo := Env → Mem → Res (Option Int)
def noP : Eo := fun _ M => .ok none M
def someP (f : Ev) : Eo := fun e M => (f e M).bind fun x M1 => match x with
  | .d (.int i) => .ok (some i) M1
  | _ => .st
/-- a slice of a list, of a text, of a tuple (not the whole of it) -/
def slV (x : Vl) (lo hi : Option Int) (M : Mem) : Res Vl := match x with
  | .d (.str z) => if z.length ≤ sizeLine then .ok (.d (.str (cutS z lo hi))) M else .st
  | .d (.tuple xs) => if HT.sIx xs.length 0 lo = 0 ∧ HT.sIx xs.length xs.length hi = xs.length then .st else .ok (.d (.tuple (cutD xs lo hi))) M
  | x => match rdOf M x with
    | some xs => .ok (.d (.list (cutD xs lo hi))) M
    | none => .st
def slE (f : Ev) (a b : Eo) : Ev := fun e M => (f e M).bind fun x M1 => (a e M1).bind fun lo M2 => (b e M2).bind fun hi M3 => (slV x lo hi M3).pur
/-- list(x) -/
def listE (f : Ev) : Env → Mem → Res (List PyData) := fun e M => (f e M).bind fun x M1 => match seqOf M1 x with
  | some xs => .ok xs M1
  | none => .st
theorem df_list {e : Expr} {f : Ev} {p pos : Pos} (hg : Gl X "list") (hm : X.mg "list" = none) (ha : DE X W e f) (he : starEach [e] X.env = (false, eval e X.env) :: starEach [] X.env := by rfl)
    (hpl : (backTo pos (starEach [] X.env)).any (·.1) = false := by rfl) (hv : bootBuiltins "list" = some (.type "list") := by decide +kernel) : DF X W (.Call (.Name "list" p) [e] [] pos) (listE f) :=
  PEweak (pe_callTy call_list_of hg hm hv (pa_cons ha pa_nil he) (by decide) (by decide) he hpl) fun σ H Q ⟨w, e, M, r, re, p⟩ =>
    ⟨w, e, M, r, re, p.bind fun x M1 w1 v H1 l1 r1 rv p1 => by
      split at p1
      · rename_i xs hq
        obtain ⟨q, ws, rfl, hs, d⟩ := seq_at r1 rv hq
        exact ⟨q, ws, rfl, hs, p1.at r1 d⟩
      · exact p1.elim⟩
/-- list(range(..)) -/
def rangeD (a b : Int) : List PyData := (List.range (b - a).toNat).map fun (i : Nat) => .int (a + (i : Nat))
theorem range_at {K : Frag} {F : Hp} (a b : Int) : DpAll K F (rgV a b) (rangeD a b) := by
  unfold rgV rangeD
  generalize List.range (b - a).toNat = l
  induction l with
  | nil => exact .nil
  | cons x l ih => exact .cons (.int _) ih
/-- the ends of a range, as they may be -/
def rgOk (a b : Int) : Bool := decide (-(2 ^ 62) ≤ a ∧ a < 2 ^ 62 ∧ -(2 ^ 62) ≤ b ∧ b < 2 ^ 62 ∧ (b - a).toNat ≤ 2 ^ 24)
theorem rgOk_of {a b : Int} (h : rgOk a b = true) : RgOk a b := by
  unfold rgOk at h
  unfold RgOk
  exact of_decide_eq_true h
def rgE1 (f : Ev) : Env → Mem → Res (List PyData) := fun e M => (f e M).bind fun x M1 => match x with
  | .d (.int i) => if rgOk 0 i = true then .ok (rangeD 0 i) M1 else .st
  | _ => .st
theorem df_range1 {a : Expr} {f : Ev} {p pos p2 pos2 : Pos} (hc : X.calm = true) (hg : Gl X "list") (hm : X.mg "list" = none) (hg2 : Gl X "range") (hm2 : X.mg "range" = none) (ha : DE X W a f) (na : starEach [a] X.env = (false, eval a X.env) :: starEach [] X.env := by rfl)
    (n2 : starEach [.Call (.Name "range" p2) [a] [] pos2] X.env = (false, eval (.Call (.Name "range" p2) [a] [] pos2) X.env) :: starEach [] X.env := by rfl) : DF X W (.Call (.Name "list" p) [.Call (.Name "range" p2) [a] [] pos2] [] pos) (rgE1 f) :=
  PEweak (pe_listRg hc hg hm (prg_1 hg2 hm2 ha na) n2) fun σ H Q ⟨w, e, M, r, re, p⟩ =>
    ⟨w, e, M, r, re, p.bind fun x M1 w1 v H1 l1 r1 rv p1 => by
      split at p1
      · split at p1
        · rename_i hz
          cases rv
          exact ⟨_, rfl, rgOk_of hz, p1.at r1 (range_at _ _)⟩
        · exact p1.elim
      · exact p1.elim⟩
end
end DL
namespace DL
open PySem PySem.Spec L2
inductive Fl where
  | nx | rt (v : Vl) | bk | ct
inductive RS where
  | go (f : Fl) (e : Env) (M : Mem)
  | er (C : Str) (fs : List (Str × PyData)) (e : Env) (M : Mem)
  | st
abbrev Sv := Env → Mem → RS
def PostS (K : Frag) (W : WX) (w : Wd) (r : RS) (D : Ends) : Prop :=
  match r with
  | .go .nx e M => ∀ w' σ' H', w.le w' → Rel K w' M H' → RE K w' e σ' → D.nx σ' H'
  | .go .bk e M => ∀ w' σ' H', w.le w' → Rel K w' M H' → RE K w' e σ' → D.bk σ' H'
  | .go .ct e M => ∀ w' σ' H', w.le w' → Rel K w' M H' → RE K w' e σ' → D.ct σ' H'
  | .go (.rt x) _ M => ∀ w' v H', w.le w' → Rel K w' M H' → RV K w' x v → D.rt v H'
  | .er C fs e M => ∀ w' σ' d H', w.le w' → Rel K w' M H' → RE K w' e σ' → XD K w' H' d fs → W (.ref (He.ga K C)) d σ' H'
  | .st => False
def tS (K : Frag) (W : WX) (g : Sv) : TS := fun D σ H => ∃ w e M, Rel K w M H ∧ RE K w e σ ∧ PostS K W w (g e M) D
def DS (X : Cx) (W : WX) (s : Stmt) (g : Sv) : Prop := PS X s (tS X.K W g)
def DSs (X : Cx) (W : WX) (s : List Stmt) (g : Sv) : Prop := PSs X s (tS X.K W g)
theorem PostS.up {K : Frag} {W : WX} {w w' : Wd} {r : RS} {D : Ends} (l : w.le w') (p : PostS K W w r D) : PostS K W w' r D := by
  cases r with
  | go f e M =>
    cases f with
    | nx => exact fun w2 σ H l2 => p w2 σ H (l.trans l2)
    | bk => exact fun w2 σ H l2 => p w2 σ H (l.trans l2)
    | ct => exact fun w2 σ H l2 => p w2 σ H (l.trans l2)
    | rt x => exact fun w2 σ H l2 => p w2 σ H (l.trans l2)
  | er C fs e M => exact fun w2 σ d H l2 => p w2 σ d H (l.trans l2)
  | st => exact p
/-- an expression within a statement -/
def lift {α : Type} (f : Env → Mem → Res α) (k : α → Env → Mem → RS) : Sv := fun e M => match f e M with
  | .ok x M1 => k x e M1
  | .er C fs M1 => .er C fs e M1
  | .st => .st
section
variable {X : Cx} {W : WX}
theorem PostS.of {α β : Type} {K : Frag} {RR : Wd → α → β → Prop} {w : Wd} {f : Env → Mem → Res α} {k : α → Env → Mem → RS} {e : Env} {M : Mem} {D : Ends} {σ : L2.St} {R : β → Hp → Prop} (p : PostS K W w (lift f k e M) D) (re : RE K w e σ)
    (h : ∀ x M' w' v H', w.le w' → Rel K w' M' H' → RR w' x v → PostS K W w' (k x e M') D → R v H') : Post K (WE W σ) RR w (f e M) R := by
  unfold lift at p
  cases q : f e M with
  | ok x M1 => rw [q] at p; exact fun w' v H' l a b => h x M1 w' v H' l a b (PostS.up l p)
  | er C fs M1 => rw [q] at p; exact fun w' d H' l a b => p w' σ d H' l a (re.up l) b
  | st => rw [q] at p; exact p
theorem PostS.nx {K : Frag} {w : Wd} {e : Env} {M : Mem} {D : Ends} {σ : L2.St} {H : Hp} (p : PostS K W w (.go .nx e M) D) (r : Rel K w M H) (re : RE K w e σ) : D.nx σ H := p w σ H (Wd.le_refl w) r re
theorem PostS.rt {K : Frag} {w : Wd} {e : Env} {M : Mem} {D : Ends} {x : Vl} {v : V} {H : Hp} (p : PostS K W w (.go (.rt x) e M) D) (r : Rel K w M H) (rv : RV K w x v) : D.rt v H := p w v H (Wd.le_refl w) r rv
def nopS : Sv := fun e M => .go .nx e M
def seqS (g h : Sv) : Sv := fun e M => match g e M with
  | .go .nx e1 M1 => h e1 M1
  | r => r
variable {st : Stmt} {rest : List Stmt} {g h : Sv} {e c : Expr} {f : Ev} {t : Env → Mem → Res Bool} {pos : Pos}
theorem dss_nil : DSs X W [] nopS := PSsweak pss_nil fun D σ H ⟨w, e, M, r, re, p⟩ => p.nx r re
theorem dss_cons (h1 : DS X W st g) (h2 : DSs X W rest h) : DSs X W (st :: rest) (seqS g h) :=
  PSsweak (pss_cons h1 h2) fun D σ H ⟨w, e, M, r, re, p⟩ => ⟨w, e, M, r, re, by
    unfold seqS at p
    cases q : g e M with
    | go f e1 M1 =>
      rw [q] at p
      cases f with
      | nx => exact fun w' σ' H' l a b => ⟨w', e1, M1, a, b, PostS.up l p⟩
      | rt x => exact p
      | bk => exact p
      | ct => exact p
    | er C fs e1 M1 => rw [q] at p; exact p
    | st => rw [q] at p; exact p⟩
theorem dss_one (h1 : DS X W st g) : DSs X W [st] g := pss_one h1
def dropS (f : Ev) : Sv := lift f fun _ e M => .go .nx e M
theorem ds_expr (he : DE X W e f) (hs : swapsWith e none pos.line X.env = pure false := by rfl) : DS X W (.Expr e pos) (dropS f) :=
  PSweak (ps_expr he hs) fun D σ H ⟨w, e, M, r, re, p⟩ => ⟨w, e, M, r, re, p.of re fun x M1 w1 v H1 l1 r1 rv p1 => p1.nx r1 (re.up l1)⟩
def retS (f : Ev) : Sv := lift f fun x e M => .go (.rt x) e M
theorem ds_ret (he : DE X W e f) : DS X W (.Return (some e) pos) (retS f) :=
  PSweak (ps_ret he) fun D σ H ⟨w, e, M, r, re, p⟩ => ⟨w, e, M, r, re, p.of re fun x M1 w1 v H1 l1 r1 rv p1 => p1.rt r1 rv⟩
def ifS (t : Env → Mem → Res Bool) (g h : Sv) : Sv := lift t fun b e M => if b = true then g e M else h e M
theorem ds_if {a b : List Stmt} (hc : DT X W c t) (ha : DSs X W a g) (hb : DSs X W b h) : DS X W (.If c a b pos) (ifS t g h) :=
  PSweak (ps_if hc ha hb) fun D σ H ⟨w, e, M, r, re, p⟩ => ⟨w, e, M, r, re, p.of re fun x M1 w1 v H1 l1 r1 rv p1 => by
    have rv : x = v := rv
    subst rv
    cases x with
    | true => exact ⟨w1, e, M1, r1, re.up l1, p1⟩
    | false => exact ⟨w1, e, M1, r1, re.up l1, p1⟩⟩
def setS (i : Nat) (f : Ev) : Sv := lift f fun x e M => .go .nx (e.set i (some x)) M
theorem ds_set {i : Nat} {x : Str} {pos' : Pos} (hN : X.N.Nodup) (hi : X.N[i]? = some x) (hx : Loc X.env.scope x) (he : DE X W e f) (hs : swapsWith e (some (.Name x pos')) pos.line X.env = pure false := by rfl)
    (hf : X.fn x = true ∨ X.env.scope.names.lookup x = some .local := by first | exact .inl rfl | exact .inr rfl | assumption) : DS X W (.Assign [.Name x pos'] e pos) (setS i f) :=
  PSweak (ps_set hN hi hx he hs hf) fun D σ H ⟨w, e, M, r, re, p⟩ => ⟨w, e, M, r, re, p.of re fun x M1 w1 v H1 l1 r1 rv p1 => p1.nx r1 ((re.up l1).set rv i)⟩
/-- a ghost step ahead of a block: a handle at slot i is frozen -/
def freeze (i : Nat) : Sv := fun e M => match e[i]? with
  | some (some (.h j)) => match M[j]? with
    | some (.lst xs) => .go .nx (e.set i (some (.d (.list xs)))) (M.set j .gone)
    | _ => .st
  | _ => .st
theorem RE.put {K : Frag} {w : Wd} {e : Env} {σ : L2.St} (h : RE K w e σ) {x : Vl} {v : V} {i : Nat} (r : RV K w x v) (hv : σ[i]? = some (some v)) : RE K w (e.set i (some x)) σ :=
  ⟨by simp [h.len], fun j y q => by
    by_cases hj : i = j
    · subst hj
      by_cases hi : i < e.length
      · rw [List.getElem?_set_self hi] at q
        cases q
        exact ⟨v, hv, r⟩
      · rw [List.getElem?_eq_none (by simpa using hi)] at q
        cases q
    · rw [List.getElem?_set_ne hj] at q
      exact h.get j y q⟩
theorem freeze_nx {i : Nat} {e : Env} {M : Mem} : freeze i e M = .st ∨ ∃ j xs, e[i]? = some (some (.h j)) ∧ M[j]? = some (.lst xs) ∧ freeze i e M = .go .nx (e.set i (some (.d (.list xs)))) (M.set j .gone) := by
  unfold freeze
  split
  · rename_i j hj
    split
    · rename_i xs hm
      exact .inr ⟨j, xs, hj, hm, rfl⟩
    · exact .inl rfl
  · exact .inl rfl
theorem dss_freeze {sts : List Stmt} (i : Nat) (h2 : DSs X W sts h) : DSs X W sts (seqS (freeze i) h) :=
  PSsweak h2 fun D σ H ⟨w, e, M, r, re, p⟩ => by
    unfold seqS at p
    rcases freeze_nx (i := i) (e := e) (M := M) with q | ⟨j, xs, hj, hm, q⟩
    · rw [q] at p; exact p.elim
    · rw [q] at p
      obtain ⟨v, hv, a, ea, ev⟩ := re.get i _ hj
      subst ev
      obtain ⟨hF, vs, e2, d⟩ := r.at ea hm
      have hle : w.le (w.fz a (.lst vs)) := Wd.le_fz hF
      exact ⟨w.fz a (.lst vs), _, _, r.freeze (xs := xs) ea hF e2, (re.up hle).put (x := .d (.list xs)) (Dp.lst upd_same (DpAll.up hle.2 _ _ d)) hv, PostS.up hle p⟩
end
end DL
namespace DL
open PySem PySem.Spec L2
abbrev Tg := Vl → Env → Mem → Res Env
abbrev Tgs := List PyData → Env → Mem → Res Env
abbrev W0 : WX := fun _ _ _ _ => False
/-- what a walk gives: a value, or (b) a pair made on the way, whose object is not known -/
def DpQ (b : Bool) (K : Frag) (F : Hp) (x : V) (d : PyData) : Prop := Dp K F x d ∨ (b = true ∧ ∃ p vs ds, x = .ref p ∧ d = .tuple ds ∧ SqT K F p vs ∧ DpAll K F vs ds)
theorem DpQ.up {b : Bool} {K : Frag} {F F' : Hp} (l : ∀ a o, F a = some o → F' a = some o) {x : V} {d : PyData} : DpQ b K F x d → DpQ b K F' x d
  | .inl h => .inl (Dp.up l _ _ h)
  | .inr ⟨hb, p, vs, ds, e1, e2, h1, h2⟩ => .inr ⟨hb, p, vs, ds, e1, e2, SqT.up l h1, DpAll.up l _ _ h2⟩
def RQ (b : Bool) (K : Frag) (w : Wd) (x : Vl) (v : V) : Prop := RV K w x v ∨ ∃ d, x = .d d ∧ DpQ b K w.F v d
theorem RQ.v {K : Frag} {w : Wd} {x : Vl} {v : V} : RQ false K w x v → RV K w x v
  | .inl h => h
  | .inr ⟨_, e, .inl h⟩ => e ▸ h
  | .inr ⟨_, _, .inr ⟨z, _⟩⟩ => nomatch z
theorem RQ.tup {b : Bool} {K : Frag} {w : Wd} {M : Mem} {H : Hp} {x : Vl} {v : V} {xs : List PyData} (r : Rel K w M H) (rv : RQ b K w x v) (h : tupOf x = some xs) : ∃ p vs, v = .ref p ∧ SqT K H p vs ∧ DpAll K w.F vs xs := by
  rcases rv with rv | ⟨d, rfl, rv | ⟨_, p, vs, ds, rfl, rfl, h1, h2⟩⟩
  · exact tup_at r rv h
  · exact tup_at r (x := .d d) rv h
  · cases h
    exact ⟨p, vs, rfl, SqT.up r.sub h1, h2⟩
def tTg (K : Frag) (b : Bool) (γ : Tg) : TG := fun v σ H Q => ∃ (w : Wd) (e : Env) (M : Mem) (x : Vl), Rel K w M H ∧ RE K w e σ ∧ RQ b K w x v ∧ Post K (fun _ _ _ => False) (RE K) w (γ x e M) Q
def GDb (b : Bool) (X : Cx) (tg : Expr) (γ : Tg) : Prop := PG X tg (tTg X.K b γ)
abbrev GD (X : Cx) (tg : Expr) (γ : Tg) : Prop := GDb false X tg γ
def GDs (X : Cx) (tgs : List Expr) (γ : Tgs) : Prop := PGs X tgs fun vs σ H Q => ∃ (w : Wd) (e : Env) (M : Mem) (xs : List PyData), Rel X.K w M H ∧ RE X.K w e σ ∧ DpAll X.K w.F vs xs ∧ Post X.K (fun _ _ _ => False) (RE X.K) w (γ xs e M) Q
def setT (i : Nat) : Tg := fun x e M => .ok (e.set i (some x)) M
def nilT : Tgs := fun xs e M => match xs with
  | [] => .ok e M
  | _ => .st
def consT (γ : Tg) (δ : Tgs) : Tgs := fun xs e M => match xs with
  | x :: r => (γ (.d x) e M).bind fun e1 M1 => δ r e1 M1
  | [] => .st
def tupT (n : Nat) (δ : Tgs) : Tg := fun x e M => match tupOf x with
  | some xs => if xs.length = n then δ xs e M else .st
  | none => .st
section
variable {X : Cx} {W : WX} {pos : Pos}
theorem PGweak {tg : Expr} {t t' : TG} (h : PG X tg t) (k : ∀ v σ H Q, t' v σ H Q → t v σ H Q) : PG X tg t' := ⟨fun pins s σ H v u Q I r q => h.run pins s σ H v u Q I r (k v σ H Q q)⟩
theorem PGsweak {tg : List Expr} {t t' : TGs} (h : PGs X tg t) (k : ∀ v σ H Q, t' v σ H Q → t v σ H Q) : PGs X tg t' := ⟨fun pins s σ H v u Q I r q => h.run pins s σ H v u Q I r (k v σ H Q q)⟩
theorem gd_name {i : Nat} {x : Str} (hN : X.N.Nodup) (hi : X.N[i]? = some x) (hx : Loc X.env.scope x) (hf : X.fn x = true ∨ X.env.scope.names.lookup x = some .local := by first | exact .inl rfl | exact .inr rfl | assumption) : GD X (.Name x pos) (setT i) :=
  PGweak (pg_name hN hi hx hf) fun v σ H Q ⟨w, e, M, x, r, re, rv, p⟩ => p.at r (re.set rv.v i)
theorem gds_nil : GDs X [] nilT := PGsweak pgs_nil fun vs σ H Q ⟨w, e, M, xs, r, re, d, p⟩ => by
  unfold nilT at p
  split at p
  · cases d; exact ⟨rfl, p.at r re⟩
  · exact p.elim
theorem gds_cons {tg : Expr} {tgs : List Expr} {γ : Tg} {δ : Tgs} (h1 : GD X tg γ) (h2 : GDs X tgs δ) (hs : (assignEach (tg :: tgs) X.env).map (·.2) = assign tg X.env :: (assignEach tgs X.env).map (·.2) := by rfl) : GDs X (tg :: tgs) (consT γ δ) :=
  PGsweak (pgs_cons h1 h2 hs) fun vs σ H Q ⟨w, e, M, xs, r, re, d, p⟩ => by
    unfold consT at p
    split at p
    · cases d with
      | cons d1 d2 =>
        exact ⟨_, _, rfl, w, e, M, .d _, r, re, .inl d1, p.bind fun e1 M1 w1 σ1 H1 l1 r1 re1 p1 => ⟨w1, e1, M1, _, r1, re1, d2.up l1.2, p1⟩⟩
    · exact p.elim
theorem gd_tup {b : Bool} {es : List Expr} {k n : Nat} {δ : Tgs} (hc : X.calm = true) (h : GDs X es δ) (hn : (assignEach es X.env).length = n := by rfl) (hst : (assignEach es X.env).findIdx? (·.1) = none := by rfl) : GDb b X (.Tuple es k pos) (tupT n δ) :=
  PGweak (pg_tup hc h hn hst) fun v σ H Q ⟨w, e, M, x, r, re, rv, p⟩ => by
    unfold tupT at p
    split at p
    · rename_i xs hx
      split at p
      · rename_i hl
        obtain ⟨q, vs, rfl, hs, d⟩ := rv.tup r hx
        exact ⟨q, vs, rfl, hs, by rw [d.len]; exact hl, w, e, M, xs, r, re, d, p⟩
      · exact p.elim
    · exact p.elim
/-- o[i] = .., o a handle -/
def subT (f g : Ev) : Tg := fun x e M => (f e M).bind fun o M1 => (g e M1).bind fun j M2 => match o, j, x with
  | .h i, .d (.int k), .d y => match M2[i]? with
    | some (.lst xs) => match ixN xs.length k with
      | some n => .ok e (M2.set i (.lst (xs.set n y)))
      | none => .st
    | _ => .st
  | _, _, _ => .st
theorem gd_sub {o i : Expr} {f g : Ev} (ho : DE X W0 o f) (hi : DE X W0 i g)
    (ha : ∀ v, assign (.Subscript o i pos) X.env v = (do
      let ov ← holding [v] (eval o X.env)
      let iv ← holding [v, ov] (eval i X.env)
      standAt pos
      holding [v, ov, iv] (setItem ov iv v)
      release [v, ov, iv] []) := by intro _; rfl) : GD X (.Subscript o i pos) (subT f g) :=
  PGweak (pg_sub ho hi set_list ha) fun v σ H Q ⟨w, e, M, x, r, re, rv, p⟩ =>
    ⟨w, e, M, r, re, p.bind fun o M1 w1 ov H1 l1 r1 ro p1 =>
      ⟨w1, e, M1, r1, re.up l1, p1.bind fun j M2 w2 jv H2 l2 r2 rj p2 => by
        split at p2
        · split at p2
          · rename_i xs hm
            split at p2
            · rename_i n hn
              have ro := ro.up l2
              obtain ⟨a, ea, rfl⟩ := ro
              cases rj
              have rv := (rv.v.up l1).up l2
              obtain ⟨hF, vs, e2, d⟩ := r2.at ea hm
              exact ⟨a, vs, _, n, rfl, rfl, e2, by rw [d.len]; exact hn, p2 _ _ _ (Wd.le_refl w2) (r2.write ea hF (d.set rv n)) ((re.up l1).up l2)⟩
            · exact p2.elim
          · exact p2.elim
        · exact p2.elim⟩⟩
def asgS (f : Ev) (γ : Tg) : Sv := lift f fun x e M => match γ x e M with
  | .ok e1 M1 => .go .nx e1 M1
  | _ => .st
theorem ds_asg {tg e : Expr} {f : Ev} {γ : Tg} (he : DE X W e f) (hg : GD X tg γ) (hs : swapsWithSole [tg] e pos.line X.env = pure false := by rfl) (hw : swappedStores [tg] e X.env = pure none := by rfl)
    (h1 : (assignEach [tg] X.env).map (·.2) = [assign tg X.env] := by rfl) : DS X W (.Assign [tg] e pos) (asgS f γ) :=
  PSweak (ps_asg he hg hs hw h1) fun D σ H ⟨w, e, M, r, re, p⟩ => ⟨w, e, M, r, re, p.of re fun x M1 w1 v H1 l1 r1 rv p1 => ⟨w1, e, M1, x, r1, re.up l1, .inl rv, by
    cases q : γ x e M1 with
    | ok e1 M2 => rw [q] at p1; exact fun w' σ' H' l a b => p1 w' σ' H' l a b
    | er C fs M2 => rw [q] at p1; exact p1.elim
    | st => rw [q] at p1; exact p1.elim⟩⟩
/-- the iterator gives these, one after another -/
def IsItb (b : Bool) (K : Frag) (w : Wd) (xs : List PyData) (J : It) : Prop := Walk J xs.length (fun H => ∀ a o, w.F a = some o → H a = some o)
  (fun i H x H' => ∃ d, xs[i]? = some d ∧ ((H' = H ∧ DpQ b K w.F x d) ∨ ∃ T o, H T = none ∧ H' = upd H T o ∧ DpQ b K (upd w.F T o) x d))
abbrev IsIt (K : Frag) (w : Wd) (xs : List PyData) (J : It) : Prop := IsItb false K w xs J
abbrev Ei := Env → Mem → Res (List PyData)
def DIb (b : Bool) (X : Cx) (W : WX) (tg it : Expr) (f : Ei) : Prop := PI X tg it fun σ H R => tG X.K W (IsItb b X.K) f σ H R
abbrev DI (X : Cx) (W : WX) (tg it : Expr) (f : Ei) : Prop := DIb false X W tg it f
theorem PIweak {tg it : Expr} {t t' : TI} (h : PI X tg it t) (k : ∀ σ H R, t' σ H R → t σ H R) : PI X tg it t' := ⟨fun pins s σ H R I q => h.run pins s σ H R I (k σ H R q)⟩
def forL (γ : Tg) (g : Sv) : List PyData → Env → Mem → RS
  | [], e, M => .go .nx e M
  | x :: xs, e, M => match γ (.d x) e M with
    | .ok e1 M1 => match g e1 M1 with
      | .go .nx e2 M2 => forL γ g xs e2 M2
      | .go .ct e2 M2 => forL γ g xs e2 M2
      | .go .bk e2 M2 => .go .nx e2 M2
      | r => r
    | _ => .st
def forS (f : Ei) (γ : Tg) (g : Sv) : Sv := lift f fun xs e M => forL γ g xs e M
theorem ds_for {b : Bool} {tg it : Expr} {body : List Stmt} {f : Ei} {γ : Tg} {g : Sv} (hp : PassesOwn (model X.prog X.w) X.A X.env X.xe) (hc : X.calm = true) (hi : DIb b X W tg it f) (hg : GDb b X tg γ) (hb : DSs X W body g)
    (hs : ∀ x, foldedSetIterable it X.env x = pure x := by intro _; rfl) : DS X W (.For tg it body [] pos) (forS f γ g) :=
  PSweak (ps_for hp hc hi hg hb hs) fun D σ H ⟨w, e, M, r, re, p⟩ => ⟨w, e, M, r, re, p.of re fun xs M1 w1 J H1 l1 r1 hit p1 => by
    refine for_it (g := tTg X.K b γ) (tb := tS X.K W g) (D := D) hit (fun i σ H => ∃ w2 e2 M2, w1.le w2 ∧ Rel X.K w2 M2 H ∧ RE X.K w2 e2 σ ∧ PostS X.K W w2 (forL γ g (xs.drop i) e2 M2) D) ⟨w1, e, M1, Wd.le_refl _, r1, re.up l1, p1⟩ (fun i σ H _ ⟨w2, e2, M2, l2, r2, _, _⟩ a o q => r2.sub _ _ (l2.2 _ _ q)) ?_ ?_
    · rintro i x σ H H' hi ⟨w2, e2, M2, l2, r2, re2, p2⟩ ⟨d, hd, hx⟩
      have e1 : xs.drop i = d :: xs.drop (i + 1) := by
        rw [List.drop_eq_getElem_cons hi]
        rw [List.getElem?_eq_getElem hi] at hd
        rw [Option.some.inj hd]
      rw [e1] at p2
      unfold forL at p2
      have go : ∀ w3, w2.le w3 → Rel X.K w3 M2 H' → DpQ b X.K w3.F x d → tTg X.K b γ x σ H' fun σ2 H2 =>
          tS X.K W g { D with
            nx := fun σ H => ∃ w2 e2 M2, w1.le w2 ∧ Rel X.K w2 M2 H ∧ RE X.K w2 e2 σ ∧ PostS X.K W w2 (forL γ g (xs.drop (i + 1)) e2 M2) D
            ct := fun σ H => ∃ w2 e2 M2, w1.le w2 ∧ Rel X.K w2 M2 H ∧ RE X.K w2 e2 σ ∧ PostS X.K W w2 (forL γ g (xs.drop (i + 1)) e2 M2) D
            bk := D.nx } σ2 H2 := fun w3 l3 r3 dx => by
        refine ⟨w3, e2, M2, .d d, r3, re2.up l3, .inr ⟨d, rfl, dx⟩, ?_⟩
        cases q : γ (.d d) e2 M2 with
        | st => rw [q] at p2; exact p2.elim
        | er C fs M3 => rw [q] at p2; exact p2.elim
        | ok e3 M3 =>
          rw [q] at p2
          dsimp only at p2
          intro w4 σ4 H4 l4 r4 re4
          refine ⟨w4, e3, M3, r4, re4, ?_⟩
          have l14 : w1.le w4 := (l2.trans l3).trans l4
          have p2 := PostS.up (l3.trans l4) p2
          cases q2 : g e3 M3 with
          | st => rw [q2] at p2; exact p2.elim
          | er C fs e4 M4 => rw [q2] at p2; exact p2
          | go f e4 M4 =>
            rw [q2] at p2
            cases f with
            | nx => exact fun w5 σ5 H5 l5 r5 re5 => ⟨w5, e4, M4, l14.trans l5, r5, re5, PostS.up l5 p2⟩
            | ct => exact fun w5 σ5 H5 l5 r5 re5 => ⟨w5, e4, M4, l14.trans l5, r5, re5, PostS.up l5 p2⟩
            | bk => exact p2
            | rt x => exact p2
      rcases hx with ⟨rfl, dx⟩ | ⟨T, o, hT, rfl, dx⟩
      · exact go w2 (Wd.le_refl _) r2 (DpQ.up l2.2 dx)
      · have hF := (r2.new hT).2
        refine go (w2.fz T o) (Wd.le_fz hF) (r2.alloc hT o) (DpQ.up (fun a u q => ?_) dx)
        show upd w2.F T o a = some u
        by_cases ha : a = T
        · subst ha; rw [upd_same] at q ⊢; exact q
        · rw [upd_ne ha] at q ⊢; exact l2.2 _ _ q
    · rintro σ H ⟨w2, e2, M2, l2, r2, re2, p2⟩
      rw [List.drop_length] at p2
      exact p2.nx r2 re2⟩
def whileL (c : Env → Mem → Res Bool) (g : Sv) : Nat → Env → Mem → RS
  | 0, _, _ => .st
  | n + 1, e, M => lift c (fun b e M1 => if b = true then match g e M1 with
      | .go .nx e2 M2 => whileL c g n e2 M2
      | .go .ct e2 M2 => whileL c g n e2 M2
      | .go .bk e2 M2 => .go .nx e2 M2
      | r => r
    else .go .nx e M1) e M
def whileS (c : Env → Mem → Res Bool) (g : Sv) (n : Env → Mem → Nat) : Sv := fun e M => whileL c g (n e M) e M
end
end DL
namespace DL
open PySem PySem.Spec L2 PySem.W
end DL
namespace DL
open PySem PySem.Spec L2
section
variable {X : Cx} {W : WX} {tg : Expr}
/-- a list or a tuple, item by item -/
theorem pi_seq {l : Expr} {tl : TE} (hl : PE X l tl) : PI X tg l (fun σ H R => tl σ H fun x H1 => ∃ a, x = .ref a ∧ (((∃ xs, SqL X.K H1 a xs) ∧ R (Itl X.K a) H1) ∨ ((∃ xs, SqT X.K H1 a xs) ∧ R (Itt X.K a) H1))) := by
  constructor
  intro pins s σ H R I h
  refine thn (hl.run pins s σ H _ I h) fun v s1 ⟨x, H1, I1, r1, a, e, q⟩ => ?_
  subst e
  cases r1
  rcases q with ⟨⟨xs, hq⟩, q⟩ | ⟨⟨xs, hq⟩, q⟩
  · obtain ⟨its, rv, p, hz⟩ := I1.list hq
    exact wpAny_pyIter_list p.isList (pi_one (tk := s1.toks) I1 _ (turn_list a _) ⟨_, Heap.get?_push_size _ rfl, rfl, rfl⟩ q)
  · obtain ⟨its, rv, p, hz⟩ := I1.tuple hq
    exact wpAny_pyIter_tuple (show s1.heap.IsTuple a its.toArray from p) (pi_one (tk := s1.toks) I1 _ (turn_tuple a _) ⟨_, Heap.get?_push_size _ rfl, rfl, rfl⟩ q)
theorem isIt_list {K : Frag} {w : Wd} {a : Addr} {vs : List V} {xs : List PyData} (h : SqL K w.F a vs) (d : DpAll K w.F vs xs) : IsIt K w xs (Itl K a) := by
  unfold IsIt IsItb
  rw [← d.len]
  refine Walk.mono (walk_list (K := K) (a := a) (xs := vs)) (fun H hs => SqL.up hs h) fun i H x H' hi hs y => ?_
  obtain ⟨e, y⟩ := y
  obtain ⟨z, h1, h2⟩ := d.get' y
  exact ⟨z, h1, .inl ⟨e, .inl h2⟩⟩
theorem isIt_tup {K : Frag} {w : Wd} {a : Addr} {vs : List V} {xs : List PyData} (h : SqT K w.F a vs) (d : DpAll K w.F vs xs) : IsIt K w xs (Itt K a) := by
  unfold IsIt IsItb
  rw [← d.len]
  refine Walk.mono (walk_tup (K := K) (a := a) (xs := vs)) (fun H hs => SqT.up hs h) fun i H x H' hi hs y => ?_
  obtain ⟨e, y⟩ := y
  obtain ⟨z, h1, h2⟩ := d.get' y
  exact ⟨z, h1, .inl ⟨e, .inl h2⟩⟩
/-- a thing that may be gone through: data that does not change -/
def walkOf : Vl → Option (List PyData)
  | .d (.list xs) => some xs
  | .d (.tuple xs) => some xs
  | .s xs => some xs
  | _ => none
theorem walk_at {K : Frag} {w : Wd} {x : Vl} {v : V} {xs : List PyData} (rv : RV K w x v) (h : walkOf x = some xs) : ∃ a vs, v = .ref a ∧ (SqL K w.F a vs ∨ SqT K w.F a vs) ∧ DpAll K w.F vs xs := by
  cases x with
  | d y =>
    cases y with
    | list ys =>
      obtain rfl : ys = xs := Option.some.inj h
      cases rv with
      | lst h1 h2 => exact ⟨_, _, rfl, .inl (.of h1), h2⟩
    | tuple ys =>
      obtain rfl : ys = xs := Option.some.inj h
      cases rv with
      | tup h1 h2 => exact ⟨_, _, rfl, .inr h1.t, h2⟩
    | _ => cases h
  | s ys =>
    obtain rfl : ys = xs := Option.some.inj h
    obtain ⟨p, vs, e, q, d⟩ := rv
    exact ⟨p, vs, e, .inl q, d⟩
  | _ => cases h
def seqI (f : Ev) : Ei := fun e M => (f e M).bind fun x M1 => match walkOf x with
  | some xs => .ok xs M1
  | none => .st
theorem di_seq {e : Expr} {f : Ev} (he : DE X W e f) : DI X W tg e (seqI f) :=
  PIweak (pi_seq he) fun σ H R ⟨w, e, M, r, re, p⟩ =>
    ⟨w, e, M, r, re, p.bind fun x M1 w1 v H1 l1 r1 rv p1 => by
      split at p1
      · rename_i xs hx
        obtain ⟨a, vs, rfl, hs | hs, d⟩ := walk_at rv hx
        · exact ⟨a, rfl, .inl ⟨⟨vs, SqL.up r1.sub hs⟩, p1.at r1 (isIt_list hs d)⟩⟩
        · exact ⟨a, rfl, .inr ⟨⟨vs, SqT.up r1.sub hs⟩, p1.at r1 (isIt_tup hs d)⟩⟩
      · exact p1.elim⟩
theorem isIt_range {K : Frag} {w : Wd} {lo hi : Int} : IsIt K w (rangeD lo hi) (Itr lo (hi - lo).toNat) := by
  unfold IsIt IsItb
  have e : (rangeD lo hi).length = (hi - lo).toNat := by unfold rangeD; simp
  rw [e]
  refine Walk.mono walk_range (fun H hs => trivial) fun i H x H' hi' hs y => ?_
  obtain ⟨e, y⟩ := y
  refine ⟨.int (lo + (i : Nat)), ?_, .inl ⟨e, .inl (by rw [y]; exact .int _)⟩⟩
  unfold rangeD
  rw [List.getElem?_map, List.getElem?_range hi']
  rfl
def rngI1 (f : Ev) : Ei := fun e M => (f e M).bind fun x M1 => match x with
  | .d (.int j) => if -(2 ^ 62) ≤ j ∧ j < 2 ^ 62 then .ok (rangeD 0 j) M1 else .st
  | _ => .st
theorem di_range1 {a : Expr} {f : Ev} {p pos : Pos} (hg : Gl X "range") (hm : X.mg "range" = none) (ha : DE X W a f) (hs : starEach [a] X.env = [(false, eval a X.env)] := by rfl) : DI X W tg (.Call (.Name "range" p) [a] [] pos) (rngI1 f) :=
  PIweak (pi_range1 hg hm (pa_cons ha pa_nil hs) hs) fun σ H R ⟨w, e, M, r, re, p⟩ =>
    ⟨w, e, M, r, re, p.bind fun x M1 w1 v H1 l1 r1 rv p1 => by
      split at p1
      · split at p1
        · rename_i hz
          cases rv
          refine ⟨_, rfl, hz.1, hz.2, ?_⟩
          have q := p1.at r1 (isIt_range (K := X.K) (w := w1))
          rw [Int.sub_zero] at q
          exact q
        · exact p1.elim
      · exact p1.elim⟩
/-- numbered -/
def numD (xs : List PyData) : List PyData := xs.zipIdx.map fun p => .tuple [.int (p.2 : Nat), p.1]
theorem numD_get {xs : List PyData} {i : Nat} {d : PyData} (h : xs[i]? = some d) : (numD xs)[i]? = some (.tuple [.int (i : Nat), d]) := by
  unfold numD
  rw [List.getElem?_map, List.getElem?_zipIdx, h]
  simp
def enumI (f : Ev) : Ei := fun e M => (f e M).bind fun x M1 => match walkOf x with
  | some xs => .ok (numD xs) M1
  | none => .st
def zipD (xs ys : List PyData) : List PyData := (xs.zip ys).map fun p => .tuple [p.1, p.2]
theorem zipD_get {xs ys : List PyData} {i : Nat} {d e : PyData} (h : xs[i]? = some d) (h' : ys[i]? = some e) : (zipD xs ys)[i]? = some (.tuple [d, e]) := by
  unfold zipD
  rw [List.getElem?_map, (List.getElem?_zip_eq_some (z := (d, e))).mpr ⟨h, h'⟩]
  rfl
theorem zipD_len (xs ys : List PyData) : (zipD xs ys).length = min xs.length ys.length := by unfold zipD; simp
theorem isIt_zip {K : Frag} {w : Wd} {xs ys : List PyData} {vs us : List V} (d : DpAll K w.F vs xs) (d' : DpAll K w.F us ys) {J : It} {G : Hp → Prop} (hw : Walk J (min vs.length us.length) G (YPair (fun i => vs[i]?) (fun i => us[i]?))) (hG : ∀ H, (∀ a o, w.F a = some o → H a = some o) → G H) : IsItb true K w (zipD xs ys) J := by
  unfold IsItb
  rw [zipD_len, ← d.len, ← d'.len]
  refine Walk.mono hw hG fun i H x H' hi hs y => ?_
  obtain ⟨T, x1, x2, rfl, hT, rfl, e1, e2⟩ := y
  obtain ⟨z1, h1, h2⟩ := d.get' e1
  obtain ⟨z2, h3, h4⟩ := d'.get' e2
  have hF : w.F T = none := by
    cases q : w.F T with
    | none => rfl
    | some o => rw [hs _ _ q] at hT; cases hT
  have hle : ∀ a u, w.F a = some u → upd w.F T (.tup [x1, x2]) a = some u := fun a u q => by rw [upd_ne (ne_of_none q hF)]; exact q
  exact ⟨_, zipD_get h1 h3, .inr ⟨T, _, hT, rfl, .inr ⟨rfl, T, _, _, rfl, rfl, .inl (.inl upd_same), .cons (Dp.up hle _ _ h2) (.cons (Dp.up hle _ _ h4) .nil)⟩⟩⟩
/-- a list or a tuple, as zip takes it -/
theorem sqb_of {K : Frag} {F : Hp} {a : Addr} {vs : List V} (h : SqL K F a vs ∨ SqT K F a vs) : ∃ lst, ZP.SqB K F lst a vs := h.elim (fun q => ⟨true, q⟩) fun q => ⟨false, q⟩
theorem sqb_up {K : Frag} {F F' : Hp} (l : ∀ a o, F a = some o → F' a = some o) {lst : Bool} {a : Addr} {vs : List V} (h : ZP.SqB K F lst a vs) : ZP.SqB K F' lst a vs := by
  cases lst with
  | true => exact SqL.up l h
  | false => exact SqT.up l h
theorem walk_zip2 {K : Frag} {p q : Bool} {a b : Addr} {xs ys : List V} : Walk (ZP.ItzN K [(p, a), (q, b)]) (min xs.length ys.length) (fun H => ZP.SqB K H p a xs ∧ ZP.SqB K H q b ys) (YPair (fun i => xs[i]?) (fun i => ys[i]?)) :=
  ⟨fun i H hi h => ⟨[xs, ys], .cons ⟨h.1, by show i < xs.length; omega⟩ (.cons ⟨h.2, by show i < ys.length; omega⟩ .nil)⟩,
   fun H h => ⟨[xs, ys], .cons h.1 (.cons h.2 .nil), by
    by_cases hl : xs.length ≤ ys.length
    · exact ⟨xs, by simp, by omega⟩
    · exact ⟨ys, by simp, by omega⟩⟩,
   fun i H x H' hi h ⟨T, items, e1, e2, e3, e4⟩ => by
    cases e4 with
    | cons r t =>
      cases t with
      | cons r' t =>
        cases t
        exact ⟨T, _, _, e1, e2, e3, r xs h.1, r' ys h.2⟩⟩
def zipOf (x y : Vl) : Option (List PyData × List PyData) := match walkOf x, walkOf y with
  | some xs, some ys => some (xs, ys)
  | _, _ => none
def zipI (f g : Ev) : Ei := fun e M => (f e M).bind fun x M1 => (g e M1).bind fun y M2 => match zipOf x y with
  | some p => .ok (zipD p.1 p.2) M2
  | none => .st
theorem di_zip {e e2 : Expr} {f g : Ev} {p pos tpos : Pos} {elts : List Expr} {kk : Nat} (hg : Gl X "zip") (hm : X.mg "zip" = none) (ha : DE X W e f) (hb : DE X W e2 g)
    (hs : starEach [e, e2] X.env = (false, eval e X.env) :: starEach [e2] X.env := by rfl) (hs2 : starEach [e2] X.env = (false, eval e2 X.env) :: starEach [] X.env := by rfl) (hpl : (backTo pos (starEach [e2] X.env)).any (·.1) = false := by rfl) :
    DIb true X W (.Tuple elts kk tpos) (.Call (.Name "zip" p) [e, e2] [] pos) (zipI f g) :=
  PIweak (ZP.pi_zipW hg hm (pa_cons ha (pa_cons hb pa_nil hs2) hs) (by simp) (fun us h => by
      match us, h with
      | [a, b], _ => exact ZP.ct2 a b) (fun us h => by
      match us, h with
      | [a, b], _ => exact ZP.cn2 a b) (fun us h o => by
      match us, h with
      | [a, b], _ => exact F.args_object_init_3 o a b) hs hpl) fun σ H R ⟨w, e, M, r, re, p⟩ =>
    ⟨w, e, M, r, re, p.bind fun x M1 w1 v H1 l1 r1 rv p1 =>
      ⟨w1, e, M1, r1, re.up l1, p1.bind fun y M2 w2 u H2 l2 r2 ru p2 => by
        have rv := rv.up l2
        unfold zipOf at p2
        split at p2
        · rename_i q hq
          split at hq
          · rename_i xs ys h1 h2
            cases hq
            obtain ⟨a, vs, rfl, s1, d1⟩ := walk_at rv h1
            obtain ⟨b, us, rfl, s2, d2⟩ := walk_at ru h2
            obtain ⟨la, s1⟩ := sqb_of s1
            obtain ⟨lb, s2⟩ := sqb_of s2
            exact ⟨rfl, [(la, a), (lb, b)], [vs, us], rfl, .cons (sqb_up r2.sub s1) (.cons (sqb_up r2.sub s2) .nil), p2.at r2 (isIt_zip d1 d2 walk_zip2 fun H q => ⟨sqb_up q s1, sqb_up q s2⟩)⟩
          · cases hq
        · exact p2.elim⟩⟩
end
end DL
namespace DL
open PySem PySem.Spec L2
theorem wipe_get (σ : L2.St) : ∀ (vs : List Nat) (j : Nat), (wipe σ vs)[j]? = if j ∈ vs then (σ[j]?).map (fun _ => none) else σ[j]?
  | [], j => by simp [wipe]
  | v :: vs, j => by
    unfold wipe
    by_cases hj : v = j
    · subst hj
      rw [if_pos List.mem_cons_self]
      by_cases hl : v < σ.length
      · rw [List.getElem?_set_self (by rw [wipe_length]; exact hl), List.getElem?_eq_getElem hl]
        rfl
      · rw [List.getElem?_eq_none (by rw [List.length_set, wipe_length]; omega), List.getElem?_eq_none (by omega)]
        rfl
    · rw [List.getElem?_set_ne hj, wipe_get σ vs j]
      by_cases hm : j ∈ vs
      · rw [if_pos hm, if_pos (List.mem_cons_of_mem _ hm)]
      · rw [if_neg hm, if_neg]
        intro z
        rcases List.mem_cons.mp z with z | z
        · exact hj z.symm
        · exact hm z
theorem wipe_set {σ : L2.St} {vs : List Nat} {i : Nat} {o : Option V} (hi : i ∈ vs) : wipe (σ.set i o) vs = wipe σ vs := by
  apply List.ext_getElem?
  intro j
  rw [wipe_get, wipe_get]
  by_cases hj : i = j
  · subst hj
    rw [if_pos hi, if_pos hi]
    by_cases hl : i < σ.length
    · rw [List.getElem?_set_self hl, List.getElem?_eq_getElem hl]
      rfl
    · rw [List.getElem?_eq_none (by rw [List.length_set]; omega), List.getElem?_eq_none (by omega)]
  · rw [List.getElem?_set_ne hj]
theorem wipe_wipe (σ : L2.St) (vs : List Nat) : wipe (wipe σ vs) vs = wipe σ vs := by
  apply List.ext_getElem?
  intro j
  rw [wipe_get, wipe_get]
  by_cases hj : j ∈ vs
  · rw [if_pos hj, if_pos hj, Option.map_map]
    rfl
  · rw [if_neg hj, if_neg hj]
/-- a target that stores to these slots alone -/
def tTv (K : Frag) (b : Bool) (vs : List Nat) (γ : Tg) : TG := fun v σ H Q => ∃ (w : Wd) (e : Env) (M : Mem) (x : Vl), Rel K w M H ∧ RE K w e σ ∧ RQ b K w x v ∧ Post K (fun _ _ _ => False) (RE K) w (γ x e M) fun σ' H' => wipe σ' vs = wipe σ vs → Q σ' H'
def tTvs (K : Frag) (vs : List Nat) (γ : Tgs) : TGs := fun us σ H Q => ∃ (w : Wd) (e : Env) (M : Mem) (xs : List PyData), Rel K w M H ∧ RE K w e σ ∧ DpAll K w.F us xs ∧ Post K (fun _ _ _ => False) (RE K) w (γ xs e M) fun σ' H' => wipe σ' vs = wipe σ vs → Q σ' H'
def GVb (b : Bool) (X : Cx) (vs : List Nat) (tg : Expr) (γ : Tg) : Prop := PG X tg (tTv X.K b vs γ)
abbrev GV (X : Cx) (vs : List Nat) (tg : Expr) (γ : Tg) : Prop := GVb false X vs tg γ
def GVs (X : Cx) (vs : List Nat) (tgs : List Expr) (γ : Tgs) : Prop := PGs X tgs (tTvs X.K vs γ)
section
variable {X : Cx} {W : WX} {pos : Pos} {vs : List Nat}
theorem gv_name {i : Nat} {x : Str} (hv : i ∈ vs) (hN : X.N.Nodup) (hi : X.N[i]? = some x) (hx : Loc X.env.scope x) (hf : X.fn x = true ∨ X.env.scope.names.lookup x = some .local := by first | exact .inl rfl | exact .inr rfl | assumption) : GV X vs (.Name x pos) (setT i) :=
  PGweak (pg_name hN hi hx hf) fun v σ H Q ⟨w, e, M, x, r, re, rv, p⟩ => p.at r (re.set rv.v i) (wipe_set hv)
theorem gvs_nil : GVs X vs [] nilT := PGsweak pgs_nil fun us σ H Q ⟨w, e, M, xs, r, re, d, p⟩ => by
  unfold nilT at p
  split at p
  · cases d; exact ⟨rfl, p.at r re rfl⟩
  · exact p.elim
theorem gvs_cons {tg : Expr} {tgs : List Expr} {γ : Tg} {δ : Tgs} (h1 : GV X vs tg γ) (h2 : GVs X vs tgs δ) (hs : (assignEach (tg :: tgs) X.env).map (·.2) = assign tg X.env :: (assignEach tgs X.env).map (·.2) := by rfl) : GVs X vs (tg :: tgs) (consT γ δ) :=
  PGsweak (pgs_cons h1 h2 hs) fun us σ H Q ⟨w, e, M, xs, r, re, d, p⟩ => by
    unfold consT at p
    split at p
    · cases d with
      | cons d1 d2 =>
        exact ⟨_, _, rfl, w, e, M, .d _, r, re, .inl d1, p.bind fun e1 M1 w1 σ1 H1 l1 r1 re1 p1 hw => ⟨w1, e1, M1, _, r1, re1, d2.up l1.2, by
          cases q : δ _ e1 M1 with
          | ok e2 M2 => rw [q] at p1; exact fun w' σ' H' l a b hw' => p1 w' σ' H' l a b (hw'.trans hw)
          | er C fs M2 => rw [q] at p1; exact fun w' d H' l a b => p1 w' d H' l a b
          | st => rw [q] at p1; exact p1.elim⟩⟩
    · exact p.elim
theorem gv_tup {b : Bool} {es : List Expr} {k n : Nat} {δ : Tgs} (hc : X.calm = true) (h : GVs X vs es δ) (hn : (assignEach es X.env).length = n := by rfl) (hst : (assignEach es X.env).findIdx? (·.1) = none := by rfl) : GVb b X vs (.Tuple es k pos) (tupT n δ) :=
  PGweak (pg_tup hc h hn hst) fun v σ H Q ⟨w, e, M, x, r, re, rv, p⟩ => by
    unfold tupT at p
    split at p
    · rename_i xs hx
      split at p
      · rename_i hl
        obtain ⟨q, us, rfl, hs, d⟩ := rv.tup r hx
        exact ⟨q, us, rfl, hs, by rw [d.len]; exact hl, w, e, M, xs, r, re, d, p⟩
      · exact p.elim
    · exact p.elim
/-- a comprehension's tests -/
def DTs (X : Cx) (ifs : List Expr) (f : Env → Mem → Res Bool) : Prop := PTs X ifs (tT X.K W0 f)
theorem dts_nil : DTs X [] (fun _ M => .ok true M) := ⟨fun pins s σ H Q I ⟨w, e, M, r, re, p⟩ => pts_nil.run pins s σ H Q I (p.at r rfl)⟩
def lcL (γ : Tg) (t : Env → Mem → Res Bool) (h : Ev) (ew : Env) : List PyData → List PyData → Mem → Res (List PyData)
  | [], acc, M => .ok acc M
  | x :: xs, acc, M => match γ (.d x) ew M with
    | .ok e1 M1 => match t e1 M1 with
      | .ok true M2 => match h e1 M2 with
        | .ok (.d y) M3 => if acc.length < sizeLine then lcL γ t h ew xs (acc ++ [y]) M3 else .st
        | _ => .st
      | .ok false M2 => lcL γ t h ew xs acc M2
      | _ => .st
    | _ => .st
def lcE (vs : List Nat) (f : Ei) (γ : Tg) (t : Env → Mem → Res Bool) (h : Ev) : Env → Mem → Res (List PyData) := fun e M => (f e M).bind fun xs M1 => lcL γ t h (ewipe e vs) xs [] M1
/-- the heap without p -/
def off (H : Hp) (p : Addr) : Hp := fun b => if b = p then none else H b
theorem off_ne {H : Hp} {p b : Addr} (h : b ≠ p) : off H p b = H b := if_neg h
theorem upd_off {H : Hp} {p : Addr} {o : HO} (h : H p = some o) : upd (off H p) p o = H := by
  funext b
  by_cases hb : b = p
  · subst hb; rw [upd_same, h]
  · rw [upd_ne hb, off_ne hb]
theorem Rel.drop {K : Frag} {w : Wd} {M : Mem} {H : Hp} (r : Rel K w M H) {p : Addr} (hF : w.F p = none) (hA : p ∉ w.as) {P : Hp} (hP : ∀ a o, P a = some o → w.P a = some o) (h0 : P p = none) : Rel K ⟨w.as, w.F, P⟩ M (off H p) := by
  refine ⟨fun a u e => ?_, r.len, r.nd, fun a u e => ?_, fun i a m e1 e2 => ?_⟩
  · rw [off_ne (ne_of_none e hF)]; exact r.sub a u e
  · rw [off_ne (ne_of_none e h0)]; exact r.pin a u (hP a u e)
  · have ha : a ≠ p := fun z => hA (z ▸ List.mem_of_getElem? e1)
    rw [off_ne ha]
    have q := r.ob i a m e1 e2
    cases m with
    | gone => exact q
    | lst xs => exact q
    | nest xs => obtain ⟨q1, j, vs, q2, q3, q4, q5⟩ := q; exact ⟨q1, j, vs, q2, q3, q4.reP, q5⟩
theorem RE.upP {K : Frag} {w w' : Wd} {e : Env} {σ : L2.St} (h : RE K w e σ) (h1 : w.as <+: w'.as) (h2 : ∀ a o, w.F a = some o → w'.F a = some o) : RE K w' e σ :=
  ⟨h.len, fun i x q => let ⟨v, a, b⟩ := h.get i x q; ⟨v, a, (RV.up (w' := ⟨w'.as, w'.F, w.P⟩) ⟨h1, h2, rfl⟩ b).reP⟩⟩
theorem lc_imp {b : Bool} {own : List (Str × Nat)} {f : Ei} {γ : Tg} {t : Env → Mem → Res Bool} {h : Ev} {K : Frag} (σ : L2.St) (H : Hp) (Q : VK)
    (hq : tG K W (fun w xs vs => DpAll K w.F vs xs) (lcE (own.map (·.2)) f γ t h) σ H fun vs H1 => ∀ p, H1 p = none → Q (.ref p) (upd H1 p (.lst vs))) :
    tLc (fun σ H R => tG K W (IsItb b K) f σ H R) (tTv K b (List.map (fun x : Str × Nat => x.2) own) γ) (tT K W0 t) (tE K W0 h) (own.map (·.2)) σ H Q := by
  obtain ⟨w, e, M, r, re, p⟩ := hq
  exact ⟨w, e, M, r, re, p.bind fun xs M1 w1 J H1 l1 r1 hit p1 D hD => by
    obtain ⟨hDa, hDF⟩ := r1.new hD
    have hw1P : w1.P D = none := by
      cases q : w1.P D with
      | none => rfl
      | some o => rw [(r1.pin _ _ q).1] at hD; cases hD
    refine lc_it (g := tTv K b (own.map (·.2)) γ) (tt := tT K W0 t) (te := tE K W0 h) (vs := own.map (·.2)) (σ := σ) hit (fun i H => ∃ (w2 : Wd) (M2 : Mem) (acc : List PyData) (us : List V), w1.as <+: w2.as ∧ (∀ a o, w1.F a = some o → w2.F a = some o) ∧ w2.P = upd w1.P D (.lst us) ∧ Rel K w2 M2 H ∧ DpAll K w2.F us acc ∧
      Post K (WE W σ) (fun w xs vs => DpAll K w.F vs xs) w1 (lcL γ t h (ewipe e (own.map (·.2))) (xs.drop i) acc M2) fun us H1 => ∀ p, H1 p = none → Q (.ref p) (upd H1 p (.lst us))) ?_ (fun i H _ ⟨w2, M2, acc, us, q1, q2, _, r2, _⟩ a o q => r2.sub _ _ (q2 _ _ q)) ?_ ?_
    · exact ⟨⟨w1.as, w1.F, upd w1.P D (.lst [])⟩, M1, [], [], List.prefix_refl _, fun _ _ q => q, rfl, r1.aside hDF hDa, .nil, p1⟩
    · rintro i x H H' hi ⟨w2, M2, acc, us, q1, q2, q3, r2, d2, p2⟩ ⟨d, hd, hx⟩
      have e1 : xs.drop i = d :: xs.drop (i + 1) := by
        rw [List.drop_eq_getElem_cons hi]
        rw [List.getElem?_eq_getElem hi] at hd
        rw [Option.some.inj hd]
      rw [e1] at p2
      unfold lcL at p2
      have go : ∀ w3, w2.le w3 → Rel K w3 M2 H' → DpQ b K w3.F x d → tTv K b (own.map (·.2)) γ x (wipe σ (own.map (·.2))) H' fun σ2 H2 => wipe σ2 (own.map (·.2)) = wipe σ (own.map (·.2)) ∧ tT K W0 t σ2 H2 fun b H3 =>
          if b = true then tE K W0 h σ2 H3 fun y H4 => ∃ acc, H4 D = some (.lst acc) ∧ acc.length < sizeLine ∧ ∃ (w2 : Wd) (M2 : Mem) (acc' : List PyData) (us : List V), w1.as <+: w2.as ∧ (∀ a o, w1.F a = some o → w2.F a = some o) ∧ w2.P = upd w1.P D (.lst us) ∧ Rel K w2 M2 (upd H4 D (.lst (acc ++ [y]))) ∧ DpAll K w2.F us acc' ∧
            Post K (WE W σ) (fun w xs vs => DpAll K w.F vs xs) w1 (lcL γ t h (ewipe e (own.map (·.2))) (xs.drop (i + 1)) acc' M2) fun us H1 => ∀ p, H1 p = none → Q (.ref p) (upd H1 p (.lst us))
          else ∃ (w2 : Wd) (M2 : Mem) (acc' : List PyData) (us : List V), w1.as <+: w2.as ∧ (∀ a o, w1.F a = some o → w2.F a = some o) ∧ w2.P = upd w1.P D (.lst us) ∧ Rel K w2 M2 H3 ∧ DpAll K w2.F us acc' ∧
            Post K (WE W σ) (fun w xs vs => DpAll K w.F vs xs) w1 (lcL γ t h (ewipe e (own.map (·.2))) (xs.drop (i + 1)) acc' M2) fun us H1 => ∀ p, H1 p = none → Q (.ref p) (upd H1 p (.lst us)) := fun w3 l3 r3 dx => by
        refine ⟨w3, ewipe e (own.map (·.2)), M2, .d d, r3, ((re.up l1).wiped _).upP (q1.trans l3.1) (fun a o q => l3.2 _ _ (q2 _ _ q)), .inr ⟨d, rfl, dx⟩, ?_⟩
        cases hγ : γ (.d d) (ewipe e (own.map (·.2))) M2 with
        | st => rw [hγ] at p2; exact p2.elim
        | er C fs M3 => rw [hγ] at p2; exact p2.elim
        | ok e3 M3 =>
          rw [hγ] at p2
          dsimp only at p2
          intro w4 σ4 H4 l4 r4 re4 hw4
          rw [wipe_wipe] at hw4
          refine ⟨hw4, w4, e3, M3, r4, re4, ?_⟩
          cases ht3 : t e3 M3 with
          | st => rw [ht3] at p2; exact p2.elim
          | er C fs M4 => rw [ht3] at p2; exact p2.elim
          | ok b M4 =>
            rw [ht3] at p2
            intro w5 b' H5 l5 r5 eb
            have eb : b = b' := eb
            subst eb
            cases b with
            | false =>
              dsimp only at p2
              rw [if_neg Bool.false_ne_true]
              have ll := (l3.trans l4).trans l5
              exact ⟨w5, M4, acc, us, q1.trans ll.1, fun a o q => ll.2 _ _ (q2 _ _ q), ll.3.trans q3, r5, d2.up ll.2, p2⟩
            | true =>
              dsimp only at p2
              rw [if_pos rfl]
              refine ⟨w5, e3, M4, r5, re4.up l5, ?_⟩
              cases hh : h e3 M4 with
              | st => rw [hh] at p2; exact p2.elim
              | er C fs M5 => rw [hh] at p2; exact p2.elim
              | ok y M5 =>
                rw [hh] at p2
                intro w6 v H6 l6 r6 rv
                cases y with
                | d y =>
                  dsimp only at p2
                  split at p2
                  · rename_i hz
                    have ll := ((l3.trans l4).trans l5).trans l6
                    have eP : w6.P = upd w1.P D (.lst us) := ll.3.trans q3
                    obtain ⟨g1, g2, g3⟩ := r6.pin D (.lst us) (by rw [eP, upd_same])
                    have d6 := d2.up ll.2
                    refine ⟨us, g1, by rw [d6.len]; exact hz, ⟨w6.as, w6.F, upd w6.P D (.lst (us ++ [v]))⟩, M5, acc ++ [y], us ++ [v], q1.trans ll.1, fun a o q => ll.2 _ _ (q2 _ _ q), ?_, r6.aside g2 g3, d6.app (.cons rv .nil), p2⟩
                    show upd w6.P D _ = _
                    rw [eP, upd_upd]
                  · exact p2.elim
                | h _ => exact p2.elim
                | a _ => exact p2.elim
                | t _ => exact p2.elim
                | x _ _ => exact p2.elim
                | c _ => exact p2.elim
                | s _ => exact p2.elim
      rcases hx with ⟨rfl, dx⟩ | ⟨T, o, hT, rfl, dx⟩
      · exact go w2 (Wd.le_refl _) r2 (DpQ.up q2 dx)
      · have hF := (r2.new hT).2
        refine go (w2.fz T o) (Wd.le_fz hF) (r2.alloc hT o) (DpQ.up (fun a u q => ?_) dx)
        show upd w2.F T o a = some u
        by_cases ha : a = T
        · subst ha; rw [upd_same] at q ⊢; exact q
        · rw [upd_ne ha] at q ⊢; exact q2 _ _ q
    · rintro H ⟨w2, M2, acc, us, q1, q2, q3, r2, d2, p2⟩
      rw [List.drop_length] at p2
      obtain ⟨g1, g2, g3⟩ := r2.pin D (.lst us) (by rw [q3, upd_same])
      have p2 : Post K (WE W σ) (fun w xs vs => DpAll K w.F vs xs) w1 (.ok acc M2) (fun us H1 => ∀ p, H1 p = none → Q (.ref p) (upd H1 p (.lst us))) := p2
      have r3 := r2.drop g2 g3 (P := w1.P) (fun a o q => by rw [q3, upd_ne (ne_of_none q hw1P)]; exact q) hw1P
      have k := p2 ⟨w2.as, w2.F, w1.P⟩ us _ ⟨q1, q2, rfl⟩ r3 d2 D (if_pos rfl)
      rw [upd_off g1] at k
      exact k⟩
theorem df_lc {b : Bool} {elt tg iter : Expr} {ifs : List Expr} {scope : Scope} {own : List (Str × Nat)} {f : Ei} {γ : Tg} {t : Env → Mem → Res Bool} {h : Ev} (hc : X.calm = true) (hN : X.N.Nodup) (hi : DIb b X W tg iter f) (ok : BlkOk X.N X.env.scope scope own)
    (hg : ∀ (s : Shared) (H : Hp) (C : Addr) (cl : List (Str × Addr)) (fp : List Addr), GVb b (X.blk s H scope (compEnvC scope cl C X.env) fp) (own.map (·.2)) tg γ) (ht : ∀ (s : Shared) (H : Hp) (C : Addr) (cl : List (Str × Addr)) (fp : List Addr), DTs (X.blk s H scope (compEnvC scope cl C X.env) fp) ifs t)
    (he : ∀ (s : Shared) (H : Hp) (C : Addr) (cl : List (Str × Addr)) (fp : List Addr), DE (X.blk s H scope (compEnvC scope cl C X.env) fp) W0 elt h) (hs : ∀ x, foldedSetIterable iter X.env x = pure x := by intro _; rfl) :
    DF X W (.ListComp elt [⟨tg, iter, ifs, 0⟩] scope pos) (lcE (own.map (·.2)) f γ t h) :=
  PEweak (pe_lc (own := own) (g := tTv X.K b (List.map (fun x : Str × Nat => x.2) own) γ) (tt := tT X.K W0 t) (te := tE X.K W0 h) hc hN hi ok hg ht he hs) fun σ H Q hq => lc_imp σ H Q hq
/-- name = [..] on one row, kept as data, kept under a handle -/
theorem ds_setLc {b : Bool} {i : Nat} {y : Str} {py spos : Pos} {elt tg iter : Expr} {ifs : List Expr} {scope : Scope} {own : List (Str × Nat)} {f : Ei} {γ : Tg} {t : Env → Mem → Res Bool} {h : Ev} (hc : X.calm = true) (hN : X.N.Nodup) (hy : X.N[i]? = some y) (hyl : X.env.scope.names.lookup y = some .local)
    (hsw : swapsWith (.ListComp elt [⟨tg, iter, ifs, 0⟩] scope pos) (some (.Name y py)) spos.line X.env = pure true) (hi : DIb b X W tg iter f) (ok : BlkOk X.N X.env.scope scope own)
    (hg : ∀ (s : Shared) (H : Hp) (C : Addr) (cl : List (Str × Addr)) (fp : List Addr), GVb b (X.blk s H scope (compEnvC scope cl C X.env) fp) (own.map (·.2)) tg γ) (ht : ∀ (s : Shared) (H : Hp) (C : Addr) (cl : List (Str × Addr)) (fp : List Addr), DTs (X.blk s H scope (compEnvC scope cl C X.env) fp) ifs t)
    (he : ∀ (s : Shared) (H : Hp) (C : Addr) (cl : List (Str × Addr)) (fp : List Addr), DE (X.blk s H scope (compEnvC scope cl C X.env) fp) W0 elt h) (hs : ∀ x, foldedSetIterable iter X.env x = pure x := by intro _; rfl) :
    DS X W (.Assign [.Name y py] (.ListComp elt [⟨tg, iter, ifs, 0⟩] scope pos) spos) (setS i (datE (lcE (own.map (·.2)) f γ t h))) :=
  PSweak (ps_setLc (own := own) (g := tTv X.K b (List.map (fun x : Str × Nat => x.2) own) γ) (tt := tT X.K W0 t) (te := tE X.K W0 h) hc hN hy hyl hsw hi ok hg ht he hs) fun D σ H ⟨w, e, M, r, re, p⟩ => by
    refine lc_imp (W := W) σ H _ ⟨w, e, M, r, re, ?_⟩
    have p : PostS X.K W w (lift (lcE (own.map (·.2)) f γ t h) (fun xs e M => .go .nx (e.set i (some (.d (.list xs)))) M) e M) D := by
      unfold setS lift datE at p
      unfold lift
      cases q : lcE (own.map (·.2)) f γ t h e M with
      | ok xs M1 => rw [q] at p; exact p
      | er C fs M1 => rw [q] at p; exact p
      | st => rw [q] at p; exact p
    exact p.of re fun xs M1 w1 vs H1 l1 r1 d1 p1 q hq =>
      PostS.nx (PostS.up (Wd.le_fz (r1.new hq).2) p1) (r1.alloc hq _) (((re.up l1).up (Wd.le_fz (r1.new hq).2)).set (x := .d (.list xs)) (Dp.lst upd_same (DpAll.up (Wd.le_fz (w := w1) (o := .lst vs) (r1.new hq).2).2 _ _ d1)) i)
end
end DL
namespace DL
open PySem PySem.Spec L2
abbrev Fn := List Vl → Mem → Res Vl
/-- the promise of a def whose worth is m, for n arguments -/
def spD (K : Frag) (n : Nat) (m : Fn) : Sp := fun vs H Q E => vs.length = n ∧ ∃ (w : Wd) (M : Mem) (ds : List Vl), Rel K w M H ∧ RVs K w ds vs ∧ Post K E (RV K) w (m ds M) Q
/-- nothing is being shown around -/
abbrev GA (A : Around) : Prop := A.guards = some []
/-- L2's promise of a def, for calls from where nothing is being shown -/
structure FnG (P : Program) (w : World) (K : Frag) (mg : Str → Option Value) (base : Heap) (k : Nat) (f : Addr) (fd : FuncData) (ps : List Str) (sp : Sp) : Prop where
  len : ∀ vs H Q E, sp vs H Q E → vs.length = ps.length
  run : ∀ (A : Around) (outer : List PySem.Env) (s : Shared) (H : Hp) (args : Args) (us : List Value) (vs : List V) (Q : VK) (E : XK), Room k A → GA A → Env0 P w K mg base A outer s H → BindsTo s fd args (ps.zip us) → Vals vs us → sp vs H Q E →
    codeAny (model P w) A (.call (.ref f) args) (CR (L2.CX P w) outer P w H s Q E) s
theorem FnG.mono {P : Program} {w : World} {K : Frag} {mg : Str → Option Value} {base : Heap} {j k : Nat} {f : Addr} {fd : FuncData} {ps : List Str} {sp : Sp} (F : FnG P w K mg base j f fd ps sp) (h : j ≤ k) : FnG P w K mg base k f fd ps sp :=
  ⟨F.len, fun A outer s H args us vs Q E hr => F.run A outer s H args us vs Q E (hr.mono h)⟩
theorem FnG.imp {P : Program} {w : World} {K : Frag} {mg : Str → Option Value} {base : Heap} {k : Nat} {f : Addr} {fd : FuncData} {ps : List Str} {sp sp' : Sp} (F : FnG P w K mg base k f fd ps sp) (h : ∀ vs H Q E, sp' vs H Q E → sp vs H Q E) : FnG P w K mg base k f fd ps sp' :=
  ⟨fun vs H Q E q => F.len vs H Q E (h _ _ _ _ q), fun A outer s H args us vs Q E hr hg he hb hv hs => F.run A outer s H args us vs Q E hr hg he hb hv (h _ _ _ _ hs)⟩
abbrev FnD (P : Program) (w : World) (K : Frag) (mg : Str → Option Value) (base : Heap) (k : Nat) (f : Addr) (fd : FuncData) (ps : List Str) (m : Fn) : Prop := FnG P w K mg base k f fd ps (spD K ps.length m)
/-- a def that may be called by its name -/
structure Cald (P : Program) (w : World) (K : Frag) (mg : Str → Option Value) (base : Heap) (k : Nat) (x : Str) (n : Nat) (m : Fn) : Prop where
  ex : ∃ (f : Addr) (fd : FuncData) (ps : List Str), ps.length = n ∧ FnD P w K mg base k f fd ps m ∧ mg x = some (.ref f) ∧ PySem.W.keepIn K (.ref f) = true ∧ Binds K fd ps []
theorem Cald.mono {P : Program} {w : World} {K : Frag} {mg : Str → Option Value} {base : Heap} {j k : Nat} {x : Str} {n : Nat} {m : Fn} (c : Cald P w K mg base j x n m) (h : j ≤ k) : Cald P w K mg base k x n m := by
  obtain ⟨f, fd, ps, e, F, a, b, d⟩ := c.ex
  exact ⟨f, fd, ps, e, F.mono h, a, b, d⟩
/-- a function told otherwise: where the new one promises, it is the old one -/
def Le (m' m : Fn) : Prop := ∀ ds M, m' ds M = .st ∨ m' ds M = m ds M
theorem Cald.imp {P : Program} {w : World} {K : Frag} {mg : Str → Option Value} {base : Heap} {k : Nat} {x : Str} {n : Nat} {m m' : Fn} (c : Cald P w K mg base k x n m) (h : Le m' m) : Cald P w K mg base k x n m' := by
  obtain ⟨f, fd, ps, e, F, a, b, d⟩ := c.ex
  refine ⟨f, fd, ps, e, F.imp fun vs H Q E ⟨hl, w2, M, ds, r, rv, p⟩ => ⟨hl, w2, M, ds, r, rv, ?_⟩, a, b, d⟩
  rcases h ds M with q | q
  · rw [q] at p; exact p.elim
  · rw [← q]; exact p
def callF (n : Nat) (m : Fn) (f : Evs) : Ev := fun e M => (f e M).bind fun xs M1 => if xs.length = n then m xs M1 else .st
section
variable {X : Cx} {W : WX} {e : Expr} {es : List Expr} {p pos : Pos} {x : Str} {f : Evs} {k j n : Nat} {m : Fn}
theorem run_fnG {E : XK} {f' : Addr} {fd : FuncData} {ps : List Str} {sp : Sp} {ds : List Value} {dvs : List V} {pins : List (Addr × Obj)} {σ : L2.St} {H : Hp} {s : Shared} {Q : VK} {us : List Value} {vs : List V} (F : FnG X.prog X.w X.K X.mg X.base k f' fd ps sp) (hr : Room k X.A) (ga : GA X.A) (hb : Binds X.K fd ps []) (hx : PassesAt (L2.CX X.prog X.w) X σ E)
    (I : Inv X pins σ H s) (r : Vals vs us) (h : sp vs H Q E) : wpAny (model X.prog X.w) X.A (call (.ref f') us) (EP X pins σ Q) X.xe s := by
  have hl : (us ++ []).length = ps.length := by rw [List.append_nil, ← r.length]; exact F.len _ _ _ _ h
  have b := hb s us I.kIn hl
  rw [List.append_nil] at b
  refine wpAny_call (codeAny_mono (F.run X.A X.stack s H ⟨us, []⟩ us vs Q E hr ga I.env0 b r h) fun r s' hq => ?_)
  cases r with
  | error e => exact hx pins H s e s' I hq
  | ok fl =>
    cases fl with
    | ret u => exact I.after hq
    | next => exact False.elim hq
    | brk => exact False.elim hq
    | cont => exact False.elim hq
theorem de_call (c : Cald X.prog X.w X.K X.mg X.base k x n m) (hr : Room j X.A) (ga : GA X.A) (hk : k ≤ j) (tk : Takes X W) (hg : Gl X x) (ha : DA X W (e :: es) f)
    (hdb : (x == ("__debug__" : Str)) = false := by decide) (he : starEach (e :: es) X.env = (false, eval e X.env) :: starEach es X.env := by rfl) (hpl : (backTo pos (starEach es X.env)).any (·.1) = false := by rfl) :
    DE X W (.Call (.Name x p) (e :: es) [] pos) (callF n m f) := by
  obtain ⟨f', fd, ps, en, F, hm, kp, b⟩ := c.ex
  constructor
  intro pins s σ H Q I ⟨w, ev, M, r, re, q⟩
  refine wpAny_Call_Name_kw (ld_glob I hg hm ?_ hdb)
  refine PySem.W.callWith_K (h₀ := X.base) I.ok.mod.kin kp (thn (ha.run pos pins s σ H (fun vs H1 => spD X.K ps.length m vs H1 Q (WE W σ)) I ⟨w, ev, M, r, re, q.bind fun xs M1 w1 vs H1 l1 r1 rvs p1 => ?_⟩) fun us s1 ⟨vs, H1, I1, rr, q1⟩ => ⟨I1.kIn, ?_⟩) he hpl
  · split at p1
    · rename_i hl
      exact ⟨by rw [← rvs.len, hl, en], w1, M1, xs, r1, rvs, p1⟩
    · exact p1.elim
  · exact run_fnG (ds := []) (dvs := []) F (hr.mono hk) ga b (passAt tk σ) I1 rr q1
end
/-- the end of a def's body: the younger handles are forgotten, but for so many -/
def leave (n : Nat) : RS → Res Vl
  | .go (.rt (.h i)) _ M => if i < n then .ok (.h i) (M.take n) else .st
  | .go (.rt x) _ M => .ok x (M.take n)
  | .go .nx _ M => .ok (.d .none) (M.take n)
  | .er C fs _ M => .er C fs (M.take n)
  | _ => .st
def startE (N : Nat) (ds : List Vl) : Env := ds.map some ++ List.replicate (N - ds.length) none
/-- a def by its body: N names, keep handles that are handed out -/
def defM (N keep : Nat) (g : Sv) : Fn := fun ds M => leave (M.length + keep) (g (startE N ds) M)
theorem RE.start {K : Frag} {w : Wd} {ds : List Vl} {vs : List V} (h : RVs K w ds vs) (N : List Str) : RE K w (startE N.length ds) (L2.start N vs) := by
  refine ⟨by unfold startE L2.start; simp [h.len], fun i x q => ?_⟩
  unfold startE at q
  unfold L2.start
  have hi : i < ds.length := by
    by_cases hi : i < ds.length
    · exact hi
    · rw [List.getElem?_append_right (by simpa using hi), List.getElem?_replicate] at q
      split at q <;> cases q
  rw [List.getElem?_append_left (by simpa using hi), List.getElem?_map] at q
  cases hx : ds[i]? with
  | none => rw [hx] at q; cases q
  | some y =>
    rw [hx] at q
    cases q
    obtain ⟨v, h1, h2⟩ := h.get hx
    exact ⟨v, by rw [List.getElem?_append_left (by rw [List.length_map, ← h.len]; exact hi), List.getElem?_map, h1]; rfl, h2⟩
theorem cut_le {w w' : Wd} {n : Nat} (l : w.le w') (h : w.as.length ≤ n) : w.le ⟨w'.as.take n, w'.F, w'.P⟩ := by
  refine ⟨?_, l.2, l.3⟩
  obtain ⟨t, e⟩ := l.1
  rw [← e, List.take_append]
  rw [List.take_of_length_le h]
  exact List.prefix_append _ _
theorem leave_ok {K : Frag} {E : XK} {w : Wd} {M : Mem} {H : Hp} {r : RS} {Q : VK} {n : Nat} (hM : Rel K w M H) (hn : M.length ≤ n) (p : Post K E (RV K) w (leave n r) Q) : PostS K (fun c d _ H => E c d H) w r { nx := fun _ H' => Q .non H', rt := Q } := by
  have hl : w.as.length ≤ n := by rw [hM.len]; exact hn
  cases r with
  | st => exact p
  | er C fs e M' => exact fun w' σ d H' l r re xd => p ⟨w'.as.take n, w'.F, w'.P⟩ d H' (cut_le l hl) (r.cut n) (xd.cut n)
  | go f e M' =>
    cases f with
    | nx => exact fun w' σ H' l r re => p ⟨w'.as.take n, w'.F, w'.P⟩ .non H' (cut_le l hl) (r.cut n) .non
    | bk => exact p.elim
    | ct => exact p.elim
    | rt x =>
      intro w' v H' l r rv
      cases x with
      | h i =>
        unfold leave at p
        by_cases hi : i < n
        · have p : Post K E (RV K) w (if i < n then .ok (.h i) (M'.take n) else .st) Q := p
          rw [if_pos hi] at p
          refine p ⟨w'.as.take n, w'.F, w'.P⟩ v H' (cut_le l hl) (r.cut n) ?_
          obtain ⟨a, e1, e2⟩ := rv
          exact ⟨a, by show (w'.as.take n)[i]? = some a; rw [List.getElem?_take_of_lt hi]; exact e1, e2⟩
        · have p : Post K E (RV K) w (if i < n then .ok (.h i) (M'.take n) else .st) Q := p
          rw [if_neg hi] at p
          exact p.elim
      | d y => exact p ⟨w'.as.take n, w'.F, w'.P⟩ v H' (cut_le l hl) (r.cut n) rv
      | a y => exact p ⟨w'.as.take n, w'.F, w'.P⟩ v H' (cut_le l hl) (r.cut n) rv
      | t y => exact p ⟨w'.as.take n, w'.F, w'.P⟩ v H' (cut_le l hl) (r.cut n) rv
      | x y z => exact p ⟨w'.as.take n, w'.F, w'.P⟩ v H' (cut_le l hl) (r.cut n) rv
      | c y => exact p ⟨w'.as.take n, w'.F, w'.P⟩ v H' (cut_le l hl) (r.cut n) rv
      | s y => exact p ⟨w'.as.take n, w'.F, w'.P⟩ v H' (cut_le l hl) (r.cut n) rv
section
variable {P : Program} {w : World} {K : Frag} {mg : Str → Option Value} {base : Heap}
/-- the context of a def's body -/
abbrev bodyX (P : Program) (w : World) (K : Frag) (mg : Str → Option Value) (base : Heap) (N : List Str) (qual : Str) (sc : Scope) (f : Addr) (cdv : Value) (A : Around) (outer : List PySem.Env) (s : Shared) (H : Hp) (E : XK) : Cx := cxOf (L2.CX P w) P w K mg base N qual sc f cdv A outer s H E
theorem body_takes {N : List Str} {qual : Str} {sc : Scope} {f : Addr} {cdv : Value} {A : Around} {outer : List PySem.Env} {s : Shared} {H : Hp} {E : XK} : Takes (bodyX P w K mg base N qual sc f cdv A outer s H E) (fun c d _ H => E c d H) := takes_of rfl rfl rfl rfl
open PyProof.Rows in
theorem fnG_of {f : Addr} {name qual : Str} {params : Arguments} {body : List Stmt} {scope : Scope} {dV kV doc pm cdv ct oc : Value} {an od : Option Addr} {osl : Array (Option Value)} {N ps : List Str} {k : Nat} {sp : Sp}
    (lk : K.lookup f = some ⟨oc, od, .func (PySem.W.fnOf name qual params body scope dV kV doc pm an cdv ct), osl⟩) (hcd : PySem.W.codeIn K cdv qual = true) (S : FnScope N ps scope) (len : ∀ vs H Q E, sp vs H Q E → vs.length = ps.length)
    (hbody : ∀ (A : Around) (outer : List PySem.Env) (s : Shared) (H : Hp) (vs : List V) (Q : VK) (E : XK), Room k (A.deeper (PyProof.Rows.envOfC qual scope s.heap.objs.size f cdv)) → GA (A.deeper (PyProof.Rows.envOfC qual scope s.heap.objs.size f cdv)) → sp vs H Q E →
      ∃ t, PSs (bodyX P w K mg base N qual scope f cdv A outer s H E) body t ∧ t { nx := fun _ H' => Q .non H', rt := Q } (L2.start N vs) H) :
    FnG P w K mg base (k + 1) f (PySem.W.fnOf name qual params body scope dV kV doc pm an cdv ct) ps sp := by
  refine ⟨len, fun A outer s H args us vs Q E hr hga e0 hb r hsp => ?_⟩
  have hl := len _ _ _ _ hsp
  have KX : K.In s.heap := e0.mod.kin.keeps fun b o e => (e0.bs b o e).1
  have lim : s.heap.NoLimit := e0.mod.nolimit.keeps fun b o e => (e0.bs b o e).1
  have hkind : ∀ y ∈ ps.zip us, scope.names.lookup y.1 = some .local ∨ (scope.names.lookup y.1 = some .cell ∧ ((cellsFrom (s.heap.objs.size + 1) scope.names []).lookup y.1).isSome = true) := fun y hy => by
    rcases S.par y.1 (List.of_mem_zip (show (y.1, y.2) ∈ ps.zip us from hy)).1 with q | q
    · exact .inl q
    · exact .inr ⟨q, PySem.W.cellsFrom_some _ _ _ (.inl q)⟩
  refine codeAny_call_function hr.depth (KX _ _ lk) rfl S.co S.gen rfl (PySem.W.codeRec_of KX hcd) (hb _ _ _ _ ?_)
  refine wpAny_newFunctionEnv_cells S.kind hkind fun env he s1 x => ?_
  subst he
  refine ⟨lim.keeps x.toInCall.keep, codeAny_func ?_⟩
  obtain ⟨t, ht, hq⟩ := hbody A outer s H vs Q E (hr.deeper _) hga hsp
  have I : Inv (bodyX P w K mg base N qual scope f cdv A outer s H E) [] (L2.start N vs) H s1 := inv_start S hr.hd e0 hl r x
  refine wpAny_mono (ht.run [] s1 (L2.start N vs) H _ I hq) (fun fl s' hs => ?_) fun e s' hs => hs
  cases fl with
  | ret u =>
    obtain ⟨v, σ', H', J, rv, q⟩ := hs
    exact ⟨v, H', J.os, J.bare, J.base, J.hok, rv, q⟩
  | next =>
    obtain ⟨σ', H', J, q⟩ := hs
    exact ⟨V.non, H', J.os, J.bare, J.base, J.hok, rfl, q⟩
  | brk =>
    obtain ⟨_, _, _, q⟩ := hs
    exact q.elim
  | cont =>
    obtain ⟨_, _, _, q⟩ := hs
    exact q.elim
/-- no error comes to a comprehension's turn -/
theorem takesW0 {X : Cx} : Takes X W0 := takes0
end
end DL
namespace DL
open PySem PySem.Spec L2
/-- items by their places -/
def permL {α : Type} (q : List Nat) (l : List α) : List α := q.filterMap fun i => l[i]?
theorem perm_vals {vs : List V} {us : List Value} (h : Vals vs us) : ∀ q : List Nat, Vals (permL q vs) (permL q us)
  | [] => .nil
  | i :: q => by
    unfold permL
    cases e : vs[i]? with
    | none => rw [List.filterMap_cons_none e, List.filterMap_cons_none (h.none_of e)]; exact perm_vals h q
    | some v =>
      obtain ⟨u, e2, r⟩ := h.get e
      rw [List.filterMap_cons_some e, List.filterMap_cons_some e2]
      exact .cons r (perm_vals h q)
theorem perm_rvs {K : Frag} {w : Wd} {xs : List Vl} {vs : List V} (h : RVs K w xs vs) : ∀ q : List Nat, RVs K w (permL q xs) (permL q vs)
  | [] => .nil
  | i :: q => by
    unfold permL
    cases e : xs[i]? with
    | none =>
      have e2 : vs[i]? = none := by
        have := List.getElem?_eq_none_iff.mp e
        exact List.getElem?_eq_none_iff.mpr (by rw [← h.len]; exact this)
      rw [List.filterMap_cons_none e, List.filterMap_cons_none e2]; exact perm_rvs h q
    | some v =>
      obtain ⟨u, e2, r⟩ := h.get e
      rw [List.filterMap_cons_some e, List.filterMap_cons_some e2]
      exact .cons r (perm_rvs h q)
/-- so many positional values and these keywords bind to the parameters, by q -/
structure KwB (K : Frag) (fd : FuncData) (ps ks : List Str) (n : Nat) (q : List Nat) : Prop where
  to : ∀ (s : Shared) (us ws : List Value), K.In s.heap → us.length = n → ws.length = ks.length → BindsTo s fd ⟨us, ks.zip ws⟩ (ps.zip (permL q (us ++ ws)))
structure CaldK (P : Program) (w : World) (K : Frag) (mg : Str → Option Value) (base : Heap) (k : Nat) (x : Str) (n : Nat) (ks : List Str) (q : List Nat) (m : Fn) : Prop where
  ex : ∃ (f : Addr) (fd : FuncData) (ps : List Str), ps.length = q.length ∧ FnD P w K mg base k f fd ps m ∧ mg x = some (.ref f) ∧ PySem.W.keepIn K (.ref f) = true ∧ KwB K fd ps ks n q
theorem CaldK.mono {P : Program} {w : World} {K : Frag} {mg : Str → Option Value} {base : Heap} {j k n : Nat} {x : Str} {ks : List Str} {q : List Nat} {m : Fn} (c : CaldK P w K mg base j x n ks q m) (h : j ≤ k) : CaldK P w K mg base k x n ks q m := by
  obtain ⟨f, fd, ps, e, F, a, b, d⟩ := c.ex
  exact ⟨f, fd, ps, e, F.mono h, a, b, d⟩
theorem CaldK.imp {P : Program} {w : World} {K : Frag} {mg : Str → Option Value} {base : Heap} {k n : Nat} {x : Str} {ks : List Str} {q : List Nat} {m m' : Fn} (c : CaldK P w K mg base k x n ks q m) (h : Le m' m) : CaldK P w K mg base k x n ks q m' := by
  obtain ⟨f, fd, ps, e, F, a, b, d⟩ := c.ex
  refine ⟨f, fd, ps, e, F.imp fun vs H Q E ⟨hl, w2, M, ds, r, rv, p⟩ => ⟨hl, w2, M, ds, r, rv, ?_⟩, a, b, d⟩
  rcases h ds M with z | z
  · rw [z] at p; exact p.elim
  · rw [← z]; exact p
def DK (X : Cx) (W : WX) (ks : List Keyword) (f : Evs) : Prop := PK X ks (tA X.K W f)
theorem PKweak {X : Cx} {e : List Keyword} {t t' : TA} (h : PK X e t) (k : ∀ σ H Q, t' σ H Q → t σ H Q) : PK X e t' := ⟨fun pos pins s σ H Q I q => h.run pos pins s σ H Q I (k σ H Q q)⟩
section
variable {X : Cx} {W : WX} {e : Expr} {es : List Expr} {kws : List Keyword} {p pos kpos : Pos} {x : Str} {f g : Evs} {h : Ev} {k j n : Nat} {m : Fn} {ks : List Str} {q : List Nat} {nm : Option Str}
theorem dk_nil : DK X W [] nilA := PKweak pk_nil fun σ H Q ⟨w, e, M, r, re, p⟩ => p.at r .nil
theorem dk_cons (ha : DE X W e h) (hr : DK X W kws g) : DK X W (⟨nm, e, kpos⟩ :: kws) (consA h g) :=
  PKweak (pk_cons ha hr) fun σ H Q ⟨w, e, M, r, re, p⟩ =>
    ⟨w, e, M, r, re, p.bind fun x M1 w1 v H1 l1 r1 rv p1 =>
      ⟨w1, e, M1, r1, re.up l1, p1.bind fun xs M2 w2 vs H2 l2 r2 rvs p2 => p2.at r2 (.cons (rv.up l2) rvs)⟩⟩
def callK (n k : Nat) (q : List Nat) (m : Fn) (f g : Evs) : Ev := fun e M => (f e M).bind fun xs M1 => (g e M1).bind fun ys M2 =>
  if xs.length = n ∧ ys.length = k ∧ (permL q (xs ++ ys)).length = q.length then m (permL q (xs ++ ys)) M2 else .st
theorem run_fnKS {E : XK} {f' : Addr} {fd : FuncData} {ps : List Str} {sp : Sp} {pins : List (Addr × Obj)} {σ : L2.St} {H : Hp} {s : Shared} {Q : VK} {us ws : List Value} {vs zs : List V} (F : FnG X.prog X.w X.K X.mg X.base k f' fd ps sp) (hr : Room k X.A) (ga : GA X.A) (hb : KwB X.K fd ps ks n q) (hx : PassesAt (L2.CX X.prog X.w) X σ E)
    (I : Inv X pins σ H s) (r : Vals vs us) (rz : Vals zs ws) (hn : vs.length = n) (hk : zs.length = ks.length) (hs : sp (permL q (vs ++ zs)) H Q E) : wpAny (model X.prog X.w) X.A (call (.ref f') us (ks.zip ws)) (EP X pins σ Q) X.xe s := by
  have r2 := perm_vals (r.append rz) q
  refine wpAny_call (codeAny_mono (F.run X.A X.stack s H ⟨us, ks.zip ws⟩ (permL q (us ++ ws)) (permL q (vs ++ zs)) Q E hr ga I.env0 (hb.to s us ws I.kIn (by rw [← r.length]; exact hn) (by rw [← rz.length]; exact hk)) r2 hs) fun r s' hq => ?_)
  cases r with
  | error e => exact hx pins H s e s' I hq
  | ok fl =>
    cases fl with
    | ret u => exact I.after hq
    | next => exact False.elim hq
    | brk => exact False.elim hq
    | cont => exact False.elim hq
theorem de_callK0 (c : CaldK X.prog X.w X.K X.mg X.base k x 0 ks q m) (hr : Room j X.A) (ga : GA X.A) (hj : k ≤ j) (tk : Takes X W) (hg : Gl X x) (hkw : DK X W kws g)
    (hall : (backToKw pos (keywordEach kws X.env)).all (·.1.isSome) = true := by rfl) (hks : (backToKw pos (keywordEach kws X.env)).filterMap (·.1) = ks := by rfl)
    (hdb : (x == ("__debug__" : Str)) = false := by decide)
    (hpl : ((backTo pos (starEach [] X.env)).any (·.1) || (backToKw pos (keywordEach kws X.env)).any (·.1.isNone)) = false := by rfl) :
    DE X W (.Call (.Name x p) [] kws pos) (callK 0 ks.length q m nilA g) := by
  obtain ⟨f', fd, ps, en, F, hm, kp, b⟩ := c.ex
  constructor
  intro pins s σ H Q I ⟨w, ev, M, r, re, p⟩
  refine wpAny_Call_Name_kw (ld_glob I hg hm ?_ hdb)
  have p : Post X.K (WE W σ) (RV X.K) w ((g ev M).bind fun ys M2 => if ([] : List Vl).length = 0 ∧ ys.length = ks.length ∧ (permL q ([] ++ ys)).length = q.length then m (permL q ([] ++ ys)) M2 else .st) Q := p
  refine PySem.W.callWith_KW0 (h₀ := X.base) I.ok.mod.kin kp hall (thn (hkw.run pos pins s σ H (fun zs H2 => zs.length = ks.length ∧ spD X.K ps.length m (permL q ([] ++ zs)) H2 Q (WE W σ)) I ⟨w, ev, M, r, re, p.bind fun ys M2 w2 zs H2 l2 r2 rz p2 => ?_⟩) fun ws s2 ⟨zs, H2, I2, rz, q2⟩ => ⟨I2.kIn, ?_⟩) hpl
  · split at p2
    · rename_i hl
      refine ⟨by rw [← rz.len]; exact hl.2.1, ?_, w2, M2, _, r2, perm_rvs (show RVs X.K w2 ([] ++ ys) ([] ++ zs) from rz) q, p2⟩
      rw [← (perm_rvs (show RVs X.K w2 ([] ++ ys) ([] ++ zs) from rz) q).len, hl.2.2, en]
    · exact p2.elim
  · rw [hks]
    exact run_fnKS F (hr.mono hj) ga b (passAt tk σ) I2 .nil rz rfl q2.1 q2.2
end
section
variable {P : Program} {w : World} {K : Frag} {mg : Str → Option Value} {base : Heap} {x qual : Str} {st : Stmt} {f : Addr} {fd : FuncData} {N ps : List Str} {k keep : Nat} {g : Sv}
abbrev FunT (K : Frag) (x qual : Str) (st : Stmt) (f : Addr) (fd : FuncData) : Prop := FunD K x qual (defArgs st) (defBody st) (defScope st) [] [] f fd
theorem fnDD (F : FunT K x qual st f fd) (S : FnScope N ps (defScope st))
    (hb : ∀ (cdv : Value) (A : Around) (outer : List PySem.Env) (s : Shared) (H : Hp) (E : XK), Room k (A.deeper (PyProof.Rows.envOfC qual (defScope st) s.heap.objs.size f cdv)) → GA (A.deeper (PyProof.Rows.envOfC qual (defScope st) s.heap.objs.size f cdv)) →
      DSs (bodyX P w K mg base N qual (defScope st) f cdv A outer s H E) (fun c d _ H => E c d H) (defBody st) g) : FnD P w K mg base (k + 1) f fd ps (defM N.length keep g) := by
  obtain ⟨oc, od, dV, kV, doc, pm, an, cdv, ct, osl, rfl, lk, hcd, _, _⟩ := F.ex
  refine fnG_of lk hcd S (fun vs H Q E h => h.1) fun A outer s H vs Q E hr ga ⟨hl, w2, M, ds, r, rv, p⟩ => ?_
  exact ⟨_, hb cdv A outer s H E hr ga, w2, startE N.length ds, M, r, RE.start rv N, leave_ok r (Nat.le_add_right _ _) p⟩
theorem cald_of {m : Fn} (F : FunT K x qual st f fd) (hm : mg x = some (.ref f)) (ok : FnD P w K mg base k f fd ps m)
    (h : ∀ (kV doc pm : Value) (an : Option Addr) (cdv ct : Value) (us : List Value), us.length = ps.length → bindArgs (PySem.W.fnOf x qual (defArgs st) (defBody st) (defScope st) .none kV doc pm an cdv ct) ⟨us, []⟩ = pure (ps.zip us)) : Cald P w K mg base k x ps.length m :=
  ⟨f, fd, ps, rfl, ok, hm, F.kp, FunD.bindsN F h⟩
theorem caldK_of {m : Fn} {n : Nat} {ks : List Str} {q : List Nat} (F : FunT K x qual st f fd) (hm : mg x = some (.ref f)) (ok : FnD P w K mg base k f fd ps m) (hq : ps.length = q.length)
    (h : ∀ (kV doc pm : Value) (an : Option Addr) (cdv ct : Value) (us ws : List Value), us.length = n → ws.length = ks.length → bindArgs (PySem.W.fnOf x qual (defArgs st) (defBody st) (defScope st) .none kV doc pm an cdv ct) ⟨us, ks.zip ws⟩ = pure (ps.zip (permL q (us ++ ws)))) : CaldK P w K mg base k x n ks q m := by
  refine ⟨f, fd, ps, hq, ok, hm, F.kp, ⟨fun s us ws hK h1 h2 => ?_⟩⟩
  obtain ⟨oc, od, dV, kV, doc, pm, an, cdv, ct, osl, rfl, lk, hcd, hD, hW⟩ := F.ex
  rcases hD with ⟨_, rfl⟩ | ⟨e, _⟩
  · exact .of_eq (h kV doc pm an cdv ct us ws h1 h2)
  · exact absurd rfl e
end
section
variable {P : Program} {w : World} {K : Frag} {mg mb : Str → Option Value} {k : Nat} {fa a : Addr} {fd : FuncData} {x : Str} {sp : Sp} {s1 : Shared} {vs : List Value} {H : Hp}
/-- the heap without the script holds what the top has left -/
theorem hid_env (KX : K.In s1.heap) (hns : s1.heap.Ns mainGlobals mg) (hb : s1.heap.Ns builtinsNs mb) (hbb : ∀ x : Str, x ≠ "__name__" → mb x = bootBuiltins x) (hlim : s1.heap.NoLimit) (hg : s1.gens = #[])
    (ha : s1.heap.get? a = some { cls := .type "list", data := .seq vs.toArray }) (hok : HOk P w H s1.heap) (hA : ∀ b u, H b = some u → b = a) (hK : ∀ u, H a = some u → K.lookup a = none) :
    K.In (hidT s1.heap H) ∧ (hidT s1.heap H).Ns mainGlobals mg ∧ Env0 P w K mg (hidT s1.heap H) callerA [] s1 H := by
  have free : ∀ (b : Addr) (o : Obj) (es : Array DictEntry) (ep : Nat), s1.heap.get? b = some o → o.data = .dict es ep → H b = none := fun b o es ep e d => by
    cases q : H b with
    | none => rfl
    | some u =>
      rw [hA b u q, ha] at e
      cases e
      cases d
  have keepN : ∀ (b : Addr) (m : Str → Option Value), s1.heap.Ns b m → (hidT s1.heap H).Ns b m := by
    rintro b m ⟨o, es, ep, e, d, r⟩
    exact ⟨o, es, ep, hidT_get e (free b o es ep e d), d, r⟩
  have keepK : K.In (hidT s1.heap H) := fun b o e => hidT_get (KX b o e) (by
    cases q : H b with
    | none => rfl
    | some u =>
      have z := hA b u q
      subst z
      rw [hK u q] at e
      cases e)
  obtain ⟨mc, l1, l2⟩ := hlim
  exact ⟨keepK, keepN _ _ hns, ⟨rfl, ⟨keepK, keepN _ _ hns, ⟨mb, keepN _ _ hb, hbb⟩, ⟨mc, keepN _ _ l1, l2⟩⟩, fun b o e => of_hidT e, Nat.le_of_eq (hidT_size _ _), trivial, (fun b z => absurd (show b ∈ ([] : List Addr) from z) (by simp)), hok, PyProof.Rows.AllBare.of_eq hg⟩⟩
open PyProof.Rows in
theorem law_at (KX : K.In s1.heap) (hns : s1.heap.Ns mainGlobals mg) (hb : s1.heap.Ns builtinsNs mb) (hbb : ∀ x : Str, x ≠ "__name__" → mb x = bootBuiltins x) (hlim : s1.heap.NoLimit) (hg : s1.gens = #[])
    (ha : s1.heap.get? a = some { cls := .type "list", data := .seq vs.toArray }) (hok : HOk P w H s1.heap) (hA : ∀ b u, H b = some u → b = a) (hK : ∀ u, H a = some u → K.lookup a = none) (hO : Only H) (hr : Room k callerA)
    (F : ∀ base : Heap, K.In base → base.Ns mainGlobals mg → FnG P w K mg base k fa fd [x] sp) (hbind : ∀ (s : Shared) (u : Value), BindsTo s fd ⟨[u], []⟩ [(x, u)])
    (hsp : sp [.ref a] H (fun v _ => v = .bl true) fun _ _ _ => False) :
    codeAny (model P w) callerA (.call (.ref fa) ⟨[.ref a], []⟩) (fun r s' => r = .ok (.ret (.bool true)) ∧ OldK s1.heap s'.heap ∧ s'.os = s1.os ∧ AllBare s'.gens) s1 := by
  obtain ⟨h1, h2, e0⟩ := hid_env KX hns hb hbb hlim hg ha hok hA hK
  refine codeAny_mono ((F _ h1 h2).run callerA [] s1 H ⟨[.ref a], []⟩ [.ref a] [.ref a] _ _ hr rfl e0 (hbind s1 (.ref a)) (.cons rfl .nil) hsp) fun r s' h => ?_
  match r, h with
  | .error e, ⟨_, _, _, _, _, _, _, _, _, _, _, _, z⟩ => exact z.elim
  | .ok .next, h => exact False.elim h
  | .ok .brk, h => exact False.elim h
  | .ok .cont, h => exact False.elim h
  | .ok (.ret u), ⟨v, H', os, bare, un, hok', rv, q⟩ =>
    have q : v = .bl true := q
    subst q
    obtain rfl : u = Value.bool true := rv
    refine ⟨rfl, OldK.of_keep fun b o e => ?_, os, bare⟩
    cases q : H b with
    | none => exact un.keep b o e q (fun z => nomatch z) (fun z => nomatch z)
    | some t =>
      rcases hO b with z | ⟨ob, xs, z⟩
      · rw [q] at z; cases z
      · have e1 := (hok b _ z).1
        have e2 := (hok' b _ (un.frzs b ob _ z)).1
        rw [e] at e1
        cases e1
        exact e2
open PyProof.Rows in
theorem law_run {ns : List Int} (KX : K.In s1.heap) (hns : s1.heap.Ns mainGlobals mg) (hb : s1.heap.Ns builtinsNs mb) (hbb : ∀ x : Str, x ≠ "__name__" → mb x = bootBuiltins x) (hlim : s1.heap.NoLimit) (hg : s1.gens = #[])
    (ha : s1.heap.get? a = some { cls := .type "list", data := .seq vs.toArray }) (hi : IntsAre vs ns) (hl : ns.length ≤ sizeLine) (hr : Room k callerA)
    (F : ∀ base : Heap, K.In base → base.Ns mainGlobals mg → FnG P w K mg base k fa fd [x] sp) (hbind : ∀ (s : Shared) (u : Value), BindsTo s fd ⟨[u], []⟩ [(x, u)])
    (hsp : ∀ H : Hp, Only H → SqL K H a (ns.map V.int) → sp [.ref a] H (fun v _ => v = .bl true) fun _ _ _ => False) :
    codeAny (model P w) callerA (.call (.ref fa) ⟨[.ref a], []⟩) (fun r s' => r = .ok (.ret (.bool true)) ∧ OldK s1.heap s'.heap ∧ s'.os = s1.os ∧ AllBare s'.gens) s1 := by
  have rv := vals_ints hi
  have hlen := hi.length
  cases hk : K.lookup a with
  | some o =>
    have e := KX a o hk
    rw [ha] at e
    cases e
    have hO : Only (fun _ => none) := fun _ => .inl rfl
    have hS : SqL K (fun _ => none) a (ns.map V.int) := .inr ⟨_, vs.toArray, _, hk, rfl, rfl, rfl, by rw [List.size_toArray, hlen]; exact hl, by simpa using rv⟩
    exact law_at KX hns hb hbb hlim hg ha (fun b u z => by cases (show (none : Option HO) = some u from z)) (fun b u z => by cases (show (none : Option HO) = some u from z)) (fun u z => by cases (show (none : Option HO) = some u from z)) hO hr F hbind (hsp _ hO hS)
  | none =>
    have at_a : (fun b => if b = a then some (HO.frz { cls := .type "list", data := .seq vs.toArray } (.lst (ns.map V.int))) else none : Hp) a = some (HO.frz { cls := .type "list", data := .seq vs.toArray } (.lst (ns.map V.int))) := if_pos rfl
    generalize hH : (fun b => if b = a then some (HO.frz { cls := .type "list", data := .seq vs.toArray } (.lst (ns.map V.int))) else none : Hp) = H at at_a
    have off_a : ∀ b, b ≠ a → H b = none := fun b z => by rw [← hH]; exact if_neg z
    have only_a : ∀ b u, H b = some u → b = a := fun b u z => by
      by_cases hb : b = a
      · exact hb
      · rw [off_a b hb] at z; cases z
    have hO : Only H := fun b => by
      by_cases hb : b = a
      · subst hb; exact .inr ⟨_, _, at_a⟩
      · exact .inl (off_a b hb)
    have hok : HOk P w H s1.heap := fun b u z => by
      have e := only_a b u z
      subst e
      rw [at_a] at z
      cases z
      exact ⟨ha, by rw [List.length_map]; exact hl, vs, _, rv, ha⟩
    exact law_at KX hns hb hbb hlim hg ha hok only_a (fun _ _ => hk) hO hr F hbind (hsp H hO (.inl (.inr ⟨_, at_a⟩)))
end
theorem walk_end {l : PySem.W.OpenLaw} {n k : Nat} {q : Program} {loose : List Str} {XP : (Str → Option Value) → Heap → Prop} {YP : World → Heap → Prop} {d : DefRec} {x : Str} {m : Fn}
    (hn : l.most = some n) (hn2 : n ≤ sizeLine) (hdf : d.params.defaults = []) (hr : Room k callerA)
    (F : ∀ (w : World) (mg : Str → Option Value) (fa : Addr) (h : Heap), YP w h → h.Ns mainGlobals mg → mg d.name = some (.ref fa) →
      ∃ (K : Frag) (fd : FuncData), K.In h ∧ (∀ (s : Shared) (u : Value), BindsTo s fd ⟨[u], []⟩ [(x, u)]) ∧ ∀ base : Heap, K.In base → base.Ns mainGlobals mg → FnD l.prog w K mg base k fa fd [x] m)
    (hm : ∀ ns : List Int, ns.length ≤ n → ∃ M, m [.s (ns.map PyData.int)] [] = .ok (.d (.bool true)) M) :
    PySem.W.WalkO q loose XP YP l.row.toRowW d [] (fun f vs => PySem.call f vs) := by
  refine Att.attach_call hn hdf fun w s₀ s₁ mg mb fa o pm cd doc a vs ns G Y ho hd hcd hmg hobj hints hlen hg => ?_
  obtain ⟨K, fd, KX, hb, hF⟩ := F w mg fa _ Y G.T.g hmg
  refine law_run KX G.T.g G.T.b G.T.builtins G.T.nolimit hg hobj hints (Nat.le_trans hlen hn2) hr hF hb fun H hO hS => ?_
  obtain ⟨M', e⟩ := hm ns hlen
  refine ⟨rfl, ⟨[], H, fun _ => none⟩, [], [.s (ns.map PyData.int)], ⟨fun _ _ z => z, rfl, List.nodup_nil, (fun a o z => nomatch z), (fun i a m z => by have z : none = some a := z; cases z)⟩, .cons ⟨a, ns.map V.int, rfl, hS, DpAll.ints ns⟩ .nil, ?_⟩
  rw [e]
  intro w' v H' l r rv
  cases rv
  rfl
end DL
namespace DL
open PySem PySem.Spec L2
section
open PyProof.Rows
variable {prog : Program} {w : World} {A : Around} {E : Value → Shared → Prop}
theorem draw_lst {it l : Addr} {items : Array Value} (hne : l ≠ it) : ∀ (n i : Nat) (s : Shared) (Q : List Value → Shared → Prop), s.heap.IsListIter it l i → s.heap.IsList l items → i + n ≤ items.size →
    (∀ h', h'.IsListIter it l (i + n) → Heap.SameBut it s.heap h' → Q ((items.toList.drop i).take n) { s with heap := h' }) → wpAny (model prog w) A (draw (.ref it) n) Q E s
  | 0, i, s, Q, hit, _, _, hQ => by
    show wpAny _ _ (pure []) Q E s
    exact wpAny_pure (by simpa using hQ s.heap hit (Heap.SameBut.refl ..))
  | n + 1, i, s, Q, hit, hl, hle, hQ => by
    have hlt : i < items.size := by omega
    show wpAny _ _ (pyNext (.ref it) >>= _) Q E s
    refine wpAny_bind (wpAny_pyNext_list_item hit hl (x := items[i]) (by simp [hlt]) fun h1 hit1 hs1 => ?_)
    refine wpAny_bind (wpAny_holding (draw_lst hne n (i + 1) _ _ hit1 (hl.extBut hs1.extBut hne) (by omega) fun h2 hit2 hs2 => wpAny_pure ?_))
    have hd : items.toList.drop i = items[i] :: items.toList.drop (i + 1) := by simp [List.drop_eq_getElem_cons, hlt]
    have q := hQ h2 (by rw [show i + (n + 1) = i + 1 + n by omega]; exact hit2) (hs1.trans hs2)
    rw [hd, List.take_succ_cons] at q
    exact q
theorem unpack_lst {s : Shared} {l : Addr} {items : Array Value} {Q : List Value → Shared → Prop} (hh : A.handled = none) (hl : s.heap.IsList l items)
    (hQ : ∀ h', Heap.ExtBut s.heap.objs.size s.heap h' → Q items.toList { s with heap := h' }) : wpAny (model prog w) A (unpackItems (.ref l) items.size none) Q E s := by
  have hlt : l ≠ s.heap.objs.size := by
    obtain ⟨o, ho, _⟩ := hl
    exact Nat.ne_of_lt (Heap.lt_size ho)
  have hp : ∀ o, (s.heap.push o).IsList l items := fun o => hl.at fun u e => Heap.get?_push_of_some _ e
  unfold unpackItems notIterableAtAll
  refine wpAny_bind (wpAny_bind (wpAny_specialOf hl.typeIs slot_list_iter.lookup (wpAny_pure ?_)))
  simp only [Bool.false_eq_true, if_false]
  refine wpAny_bind (wpAny_holding (wpAny_pyIter_list hl ?_))
  refine wpAny_bind (wpAny_holding (draw_lst hlt items.size 0 _ _ ⟨_, Heap.get?_push_size _ rfl, rfl, rfl⟩ (hp _) (by omega) fun h1 hit1 hs1 => ?_))
  have hall : List.take items.size (List.drop 0 items.toList) = items.toList := by
    rw [List.drop_zero]
    exact List.take_of_length_le (by simp)
  rw [hall, if_neg (by simp)]
  refine wpAny_bind (wpAny_holding (wpAny_pyNext_list_end hh hit1 ((hp _).extBut hs1.extBut hlt) (by simp) fun h2 he2 => ?_))
  simp only [Option.isSome_none, Bool.false_eq_true, if_false]
  exact wpAny_pure (hQ h2 fun b o hb e => he2 b o hb (hs1.extBut b o hb (Heap.get?_push_of_some _ e)))
end
section
variable {X : Cx} {W : WX} {pos : Pos}
/-- a target of several names, of a tuple or a list of that length -/
def gSeq (K : Frag) (n : Nat) (t : TGs) : TG := fun v σ H Q => ∃ a xs, v = .ref a ∧ (SqT K H a xs ∨ SqL K H a xs) ∧ xs.length = n ∧ t xs σ H Q
theorem pg_seq {es : List Expr} {k : Nat} {t : TGs} {n : Nat} (hc : X.calm = true) (h : PGs X es t) (hn : (assignEach es X.env).length = n := by rfl) (hst : (assignEach es X.env).findIdx? (·.1) = none := by rfl) : PG X (.Tuple es k pos) (gSeq X.K n t) := by
  constructor
  intro pins s σ H v u Q I r hw
  obtain ⟨a, xs, e1, hq, hl, hw⟩ := hw
  subst e1
  cases r
  rcases hq with hq | hq
  · exact (pg_tup hc h hn hst).run pins s σ H (.ref a) _ Q I rfl ⟨a, xs, rfl, hq, hl, hw⟩
  · obtain ⟨its, rv, p, hz⟩ := I.list hq
    have he : (assignEach es X.env).length = its.toArray.size := by rw [hn, ← hl, rv.length, List.size_toArray]
    rw [PyProof.Rows.assign_Tuple]
    refine wpAny_bind (wpAny_standAt ?_)
    unfold unpack
    rw [he, hst]
    refine wpAny_bind (wpAny_holding (unpack_lst (I.ok.hd hc) p.isList fun h' hx => ?_))
    have I1 : Inv X pins σ H { s with heap := h' } := I.kept (t' := s.toks) fun b o e => hx b o (Nat.ne_of_lt (Heap.lt_size e)) e
    exact h.run pins _ σ H xs _ Q I1 (by simpa using rv) hw
def seqT (n : Nat) (δ : Tgs) : Tg := fun x e M => match seqOf M x with
  | some xs => if xs.length = n then δ xs e M else .st
  | none => .st
theorem gd_seq {es : List Expr} {k n : Nat} {δ : Tgs} (hc : X.calm = true) (h : GDs X es δ) (hn : (assignEach es X.env).length = n := by rfl) (hst : (assignEach es X.env).findIdx? (·.1) = none := by rfl) : GD X (.Tuple es k pos) (seqT n δ) :=
  PGweak (pg_seq hc h hn hst) fun v σ H Q ⟨w, e, M, x, r, re, rv, p⟩ => by
    unfold seqT at p
    split at p
    · rename_i xs hx
      split at p
      · rename_i hl
        obtain ⟨q, vs, rfl, hs, d⟩ := seq_at r rv.v hx
        exact ⟨q, vs, rfl, hs.symm, by rw [d.len]; exact hl, w, e, M, xs, r, re, d, p⟩
      · exact p.elim
    · exact p.elim
def parS (i j : Nat) (f : Evs) : Sv := lift f fun xs e M => match xs with
  | [x, y] => .go .nx ((e.set i (some x)).set j (some y)) M
  | _ => .st
theorem ds_par {i j : Nat} {x y : Str} {a b : Expr} {f : Evs} {px py pt : Pos} {kt k2 pt2} (hc : X.calm = true) (hN : X.N.Nodup) (hi : X.N[i]? = some x) (hj : X.N[j]? = some y) (hij : i ≠ j)
    (hx : X.env.scope.names.lookup x = some .local) (hy : X.env.scope.names.lookup y = some .local) (ha : DA X W [a, b] f)
    (hw : swappedStores [.Tuple [.Name x px, .Name y py] kt pt] (.Tuple [a, b] k2 pt2) X.env = pure (some [x, y]))
    (hs : swapsWithSole [.Tuple [.Name x px, .Name y py] kt pt] (.Tuple [a, b] k2 pt2) pos.line X.env = pure false := by rfl) :
    DS X W (.Assign [.Tuple [.Name x px, .Name y py] kt pt] (.Tuple [a, b] k2 pt2) pos) (parS i j f) :=
  PSweak (ps_par hc hN hi hj hij hx hy ha hw hs) fun D σ H ⟨w, e, M, r, re, p⟩ => ⟨w, e, M, r, re, p.of re fun xs M1 w1 vs H1 l1 r1 rv p1 => by
    split at p1
    · obtain ⟨v, u, rfl, h1, h2⟩ := rvs2 rv
      exact ⟨v, u, rfl, p1.nx r1 (((re.up l1).set h1 i).set h2 j)⟩
    · exact p1.elim⟩
theorem noDict {K : Frag} {F : Hp} {v : V} {x : PyData} (h : L2.Dp K F v x) : x.hasDict = false ∧ True := by
  have h0 : ∀ (d : PyData) (v : V), L2.Dp K F v d → d.hasDict = false := by
    intro d
    exact PyData.rec (motive_1 := fun d => ∀ v, L2.Dp K F v d → d.hasDict = false) (motive_2 := fun ds => ∀ vs, L2.DpAll K F vs ds → PyData.hasDictAll ds = false) (motive_3 := fun _ => True) (motive_4 := fun _ => True)
      (fun v h => rfl) (fun b v h => rfl) (fun i v h => rfl) (fun s v h => rfl)
      (fun xs ih v h => by cases h with | lst h1 h2 => simp only [PyData.hasDict]; exact ih _ h2)
      (fun xs ih v h => by cases h with | tup h1 h2 => simp only [PyData.hasDict]; exact ih _ h2)
      (fun kvs ih v h => by cases h)
      (fun vs h => rfl)
      (fun x xs ih1 ih2 vs h => by cases h with | cons h1 h2 => simp only [PyData.hasDictAll, ih1 _ h1, ih2 _ h2, Bool.or_self])
      trivial (fun _ _ _ _ => trivial) (fun _ _ _ _ => trivial) d
  exact ⟨h0 x v h, trivial⟩
/-- as it is shown; a list or a tuple -/
def reprV : List Vl → Mem → Res Vl
  | [x], M => match datOf M x with
    | some (.list xs) => if (PyData.list xs).showable = true ∧ (PyData.list xs).shown.length ≤ sizeLine ∧ (PyData.list xs).depth ≤ 60 then .ok (.d (.str (PyData.list xs).shown)) M else .st
    | some (.tuple xs) => if (PyData.tuple xs).showable = true ∧ (PyData.tuple xs).shown.length ≤ sizeLine ∧ (PyData.tuple xs).depth ≤ 60 then .ok (.d (.str (PyData.tuple xs).shown)) M else .st
    | some (.int i) => if i.natAbs.log2 < 1920 then .ok (.d (.str (toString i))) M else .st
    | some (.bool b) => .ok (.d (.str (if b then "True" else "False"))) M
    | some .none => .ok (.d (.str "None")) M
    | some (.str z) => if (reprText z).length ≤ sizeLine then .ok (.d (.str (reprText z))) M else .st
    | _ => .st
  | _, _ => .st
theorem repr_ref {a : Addr} {x : PyData} {pins : List (Addr × Obj)} {s : Shared} {σ : L2.St} {H : Hp} {Q : VK} (ga : GA X.A) (hu : X.A.units + 64 < cLine) (I : Inv X pins σ H s) (h : L2.Dp X.K H (.ref a) x) (h1 : x.showable = true) (h2 : x.shown.length ≤ sizeLine) (h3 : x.depth ≤ 60) (q : Q (.str x.shown) H) :
    wpAny (model X.prog X.w) X.A (call (.builtin "repr") [.ref a]) (EP X pins σ Q) X.xe s := by
  obtain ⟨as, r⟩ := L2.Dp.reads I x _ (.ref a) h rfl
  refine PySem.repr_of_reads' r h1 (fun z => by rw [(noDict h).1] at z; cases z) ga (by omega) (fun _ _ e => e) (fun h' u tk hk => ⟨.str x.shown, H, I.kept (t' := tk) hk, ⟨u, rfl⟩, q⟩) h2
theorem cd_repr (ga : GA X.A) (hu : X.A.units + 64 < cLine) : CallD X (.builtin "repr") reprV := by
  rintro pins s σ H vs us Q I rv ⟨w, M, xs, r, rx, p⟩
  unfold reprV at p
  split at p
  · obtain ⟨v, rfl, hv⟩ := rvs1 rx
    split at p
    · rename_i hq
      split at p
      · rename_i hz
        have d := dat_at r hv hq
        cases d with
        | lst d1 d2 =>
          have eu := rv.ref1
          subst eu
          exact repr_ref ga hu I (.lst d1 d2) hz.1 hz.2.1 hz.2.2 (p.at r (.str _))
      · exact p.elim
    · rename_i hq
      split at p
      · rename_i hz
        have d := dat_at r hv hq
        cases d with
        | tup d1 d2 =>
          have eu := rv.ref1
          subst eu
          exact repr_ref ga hu I (.tup d1 d2) hz.1 hz.2.1 hz.2.2 (p.at r (.str _))
      · exact p.elim
    · rename_i hq
      split at p
      · rename_i hz
        have d := dat_at r hv hq
        cases d
        obtain ⟨u, rfl, t, rfl⟩ := rv.one
        exact PySem.P.repr_of_int hz ⟨.str _, H, I.tok _, ⟨_, rfl⟩, p.at r (.str _)⟩
      · exact p.elim
    · rename_i hq
      have d := dat_at r hv hq
      cases d
      obtain ⟨u, rfl, hu'⟩ := rv.one
      cases hu'
      exact PySem.P.repr_of_bool ⟨.str _, H, I.tok _, ⟨_, rfl⟩, p.at r (.str _)⟩
    · rename_i hq
      have d := dat_at r hv hq
      cases d
      obtain ⟨u, rfl, hu'⟩ := rv.one
      cases hu'
      exact PySem.P.repr_of_none ⟨.str _, H, I.tok _, ⟨_, rfl⟩, p.at r (.str _)⟩
    · rename_i hq
      split at p
      · rename_i hz
        have d := dat_at r hv hq
        cases d
        obtain ⟨u, rfl, t, rfl⟩ := rv.one
        exact PySem.P.repr_of_str ⟨.str _, H, I.tok _, ⟨_, rfl⟩, p.at r (.str _)⟩ hz
      · exact p.elim
    · exact p.elim
  · exact p.elim
end
end DL
namespace DL
open PySem PySem.Spec L2
theorem fnD0 {P : Program} {w : World} {K : Frag} {mg : Str → Option Value} {base : Heap} {k : Nat} {f : Addr} {fd : FuncData} {ps : List Str} : FnD P w K mg base k f fd ps (fun _ _ => .st) :=
  ⟨fun vs H Q E h => h.1, fun A outer s H args us vs Q E hr hg he hb hv ⟨_, _, _, _, _, _, p⟩ => p.elim⟩
/-- fuel of a loop over the list in a slot -/
def lenAt (i : Nat) : Env → Mem → Nat := fun e M => match e[i]? with
  | some (some x) => match lstOf M x with
    | some xs => xs.length + 1
    | none => 0
  | _ => 0
end DL
namespace DL
open PySem PySem.Spec L2
namespace C
def g_box : Sv := (seqS (setS 2 (ifE (opT ltV (getV 1) (callE lenV (consA (getV 0) nilA))) (op2 ixV (getV 0) (getV 1)) (cst (.d (.int 0))))) (retS (newE (dispE (consA (op2 mulV (callE DL.absV (consA (getV 2) nilA)) (callE intV (consA (op2 geV (callE DL.absV (consA (getV 2) nilA)) (op2 powV (cst (.d (.int 10))) (cst (.d (.int 18))))) nilA))) (consA (op2 addV (op2 addV (op2 modV (getV 2) (cst (.d (.int 2305843009213693951)))) (op2 mulV (cst (.d (.int 7919))) (getV 1))) (cst (.d (.int 55)))) (consA (cst (.d (.int 0))) nilA)))))))
def m_box : Fn := defM 3 1 g_box
def g_take (self : Fn) : Sv := (seqS (ifS (opT gtV (op2 ixV (getV 0) (cst (.d (.int 0)))) (cst (.d (.int 0)))) (seqS (setS 2 (op2 modV (op2 ixV (getV 0) (cst (.d (.int 0)))) (getV 1))) (seqS (asgS (op2 fdivV (op2 ixV (getV 0) (cst (.d (.int 0)))) (getV 1)) (subT (getV 0) (cst (.d (.int 0))))) (retS (getV 2)))) nopS) (seqS (ifS (opT gtV (getV 1) (op2 powV (cst (.d (.int 10))) (cst (.d (.int 7))))) (retS (op2 modV (op2 addV (callF 2 self (consA (getV 0) (consA (op2 powV (cst (.d (.int 10))) (cst (.d (.int 7)))) nilA))) (op2 mulV (op2 powV (cst (.d (.int 10))) (cst (.d (.int 7)))) (callF 2 self (consA (getV 0) (consA (op2 addV (op2 fdivV (op2 subV (getV 1) (cst (.d (.int 1)))) (op2 powV (cst (.d (.int 10))) (cst (.d (.int 7))))) (cst (.d (.int 1)))) nilA))))) (getV 1))) nopS) (seqS (asgS (op2 addV (op2 ixV (getV 0) (cst (.d (.int 2)))) (cst (.d (.int 1)))) (subT (getV 0) (cst (.d (.int 2))))) (seqS (setS 3 (op2 modV (op2 powV (op2 addV (op2 ixV (getV 0) (cst (.d (.int 1)))) (op2 mulV (cst (.d (.int 39373))) (op2 ixV (getV 0) (cst (.d (.int 2)))))) (cst (.d (.int 5)))) (cst (.d (.int 2147483647))))) (retS (op2 modV (op2 fdivV (op2 modV (op2 addV (op2 mulV (getV 3) (op2 addV (op2 modV (getV 3) (cst (.d (.int 40009)))) (cst (.d (.int 7))))) (op2 mulV (op2 ixV (getV 0) (cst (.d (.int 2)))) (cst (.d (.int 7919))))) (cst (.d (.int 2147483629)))) (cst (.d (.int 64)))) (getV 1)))))))
def m_take : Nat → Fn
  | 0 => fun _ _ => .st
  | n + 1 => defM 4 0 (g_take (m_take n))
def g_cells : Sv := (seqS (setS 2 (newE (listE (slE (getV 0) noP (someP (getV 1)))))) (seqS (forS (enumI (slE (getV 0) (someP (getV 1)) (someP (cst (.d (.int 63)))))) (tupT 2 (consT (setT 3) (consT (setT 4) nilT))) (asgS (op2 addV (op2 ixV (getV 2) (op2 modV (getV 3) (getV 1))) (op2 mulV (getV 4) (op2 addV (getV 3) (cst (.d (.int 2)))))) (subT (getV 2) (op2 modV (getV 3) (getV 1))))) (seqS (freeze 2) (retS (ifE (opT neV (getV 2) (datE (dispE nilA))) (getV 2) (datE (dispE (consA (cst (.d (.int 0))) nilA))))))))
def m_cells : Fn := defM 5 0 g_cells
def g_strewn : Sv := (seqS (parS 2 3 (consA (newE (listE (getV 1))) (consA (newE (dispE nilA)) nilA))) (seqS (whileS (opT neV (getV 2) (datE (dispE nilA))) (dropS (methE appM (getV 3) (consA (methE popM (getV 2) (consA (callF 2 (C.m_take 10) (consA (getV 0) (consA (callE lenV (consA (getV 2) nilA)) nilA))) nilA)) nilA))) (lenAt 2)) (seqS (freeze 3) (retS (getV 3)))))
def m_strewn : Fn := defM 4 0 g_strewn
def g_same (self : Fn) : Sv := (seqS (ifS (tstE (isiTE (getV 1) (consA (cst (.t "list")) (consA (cst (.t "tuple")) nilA)))) (seqS (ifS (orT (opT neV (callE isiV (consA (getV 0) (consA (cst (.t "list")) nilA))) (callE isiV (consA (getV 1) (consA (cst (.t "list")) nilA)))) (opT neV (callE isiV (consA (getV 0) (consA (cst (.t "tuple")) nilA))) (callE isiV (consA (getV 1) (consA (cst (.t "tuple")) nilA))))) (retS (cst (.d (.bool false)))) nopS) (retS (andE (op2 eqV (callE lenV (consA (getV 0) nilA)) (callE lenV (consA (getV 1) nilA))) (callE allV (consA (datE (lcE [2, 3] (zipI (getV 0) (getV 1)) (tupT 2 (consT (setT 2) (consT (setT 3) nilT))) (fun _ M => .ok true M) (callF 2 self (consA (getV 2) (consA (getV 3) nilA))))) nilA))))) nopS) (seqS (ifS (orT (opT isV (getV 1) (cst (.d .none))) (tstE (isiTE (getV 1) (consA (cst (.t "str")) (consA (cst (.t "bool")) nilA))))) (retS (andE (op2 eqV (getV 0) (getV 1)) (andE (op2 eqV (callE isiV (consA (getV 0) (consA (cst (.t "bool")) nilA))) (callE isiV (consA (getV 1) (consA (cst (.t "bool")) nilA)))) (op2 eqV (op2 isV (getV 0) (cst (.d .none))) (op2 isV (getV 1) (cst (.d .none))))))) nopS) (retS (andE (callE isiV (consA (getV 0) (consA (cst (.t "int")) nilA))) (andE (notE (callE isiV (consA (getV 0) (consA (cst (.t "bool")) nilA)))) (op2 eqV (getV 0) (getV 1)))))))
def m_same : Nat → Fn
  | 0 => fun _ _ => .st
  | n + 1 => defM 4 0 (g_same (m_same n))
def g_lists (self : Fn) : Sv := (retS (ifE (tstE (isiTE (getV 0) (consA (cst (.t "list")) (consA (cst (.t "tuple")) nilA)))) (datE (lcE [1] (seqI (getV 0)) (setT 1) (fun _ M => .ok true M) (callF 1 self (consA (getV 1) nilA)))) (getV 0)))
def m_lists : Nat → Fn
  | 0 => fun _ _ => .st
  | n + 1 => defM 2 0 (g_lists (m_lists n))
end C
end DL
namespace DL
open PySem PySem.Spec L2
theorem bind_ok {α β : Type} {x : α} {M : Mem} {k : α → Mem → Res β} : (Res.ok x M).bind k = k x M := Eq.trans rfl rfl
theorem pur_ok {α : Type} {x : α} {M : Mem} : (Res.ok x M).pur = .ok x M := Eq.trans rfl rfl
def bindS {α : Type} (r : Res α) (k : α → Env → Mem → RS) (e : Env) : RS := match r with
  | .ok x M1 => k x e M1
  | .er C fs M1 => .er C fs e M1
  | .st => .st
theorem lift_eq {α : Type} {f : Env → Mem → Res α} {k : α → Env → Mem → RS} {e : Env} {M : Mem} : lift f k e M = bindS (f e M) k e := Eq.trans rfl rfl
theorem bindS_ok {α : Type} {x : α} {M1 : Mem} {k : α → Env → Mem → RS} {e : Env} : bindS (.ok x M1) k e = k x e M1 := Eq.trans rfl rfl
theorem bindS_er {α : Type} {C : Str} {fs : List (Str × PyData)} {M1 : Mem} {k : α → Env → Mem → RS} {e : Env} : bindS (α := α) (.er C fs M1) k e = .er C fs e M1 := Eq.trans rfl rfl
def thenS (r : RS) (h : Sv) : RS := match r with
  | .go .nx e1 M1 => h e1 M1
  | r => r
theorem then_nx {e : Env} {M : Mem} {h : Sv} : thenS (.go .nx e M) h = h e M := Eq.trans rfl rfl
theorem then_rt {e : Env} {M : Mem} {h : Sv} {x : Vl} : thenS (.go (.rt x) e M) h = .go (.rt x) e M := Eq.trans rfl rfl
theorem then_er {e : Env} {M : Mem} {h : Sv} {C : Str} {fs : List (Str × PyData)} : thenS (.er C fs e M) h = .er C fs e M := Eq.trans rfl rfl
theorem getV_0 {e : Env} {M : Mem} {v : Vl} : getV 0 (some v :: e) M = .ok v M := Eq.trans rfl rfl
theorem getV_s {i : Nat} {e : Env} {M : Mem} {o : Option Vl} : getV (i + 1) (o :: e) M = getV i e M := by simp [getV]
theorem leave_d {n : Nat} {e : Env} {M : Mem} {x : PyData} : leave n (.go (.rt (.d x)) e M) = .ok (.d x) (M.take n) := Eq.trans rfl rfl
theorem leave_nx {n : Nat} {e : Env} {M : Mem} : leave n (.go .nx e M) = .ok (.d .none) (M.take n) := Eq.trans rfl rfl
theorem leave_er {n : Nat} {e : Env} {M : Mem} {C : Str} {fs : List (Str × PyData)} : leave n (.er C fs e M) = .er C fs (M.take n) := Eq.trans rfl rfl
theorem leave_h {n i : Nat} {e : Env} {M : Mem} (h : i < n) : leave n (.go (.rt (.h i)) e M) = .ok (.h i) (M.take n) := by simp [leave, h]
theorem take_all {M : Mem} {n : Nat} (h : M.length ≤ n) : M.take n = M := List.take_of_length_le h
theorem ixV_h {M : Mem} {i : Nat} {xs : List PyData} {k : Int} {d : PyData} (h : M[i]? = some (.lst xs)) (hd : atI xs k = some d) : ixV (.h i) (.d (.int k)) M = .ok (.d d) M := by
  simp [ixV, seqOf, tupOf, rdOf, lstOf, h, hd]
theorem ixV_l {M : Mem} {xs : List PyData} {k : Int} {d : PyData} (hd : atI xs k = some d) : ixV (.d (.list xs)) (.d (.int k)) M = .ok (.d d) M := by
  simp [ixV, seqOf, tupOf, rdOf, lstOf, hd]
theorem ixV_t {M : Mem} {xs : List PyData} {k : Int} {d : PyData} (hd : atI xs k = some d) : ixV (.d (.tuple xs)) (.d (.int k)) M = .ok (.d d) M := by
  simp [ixV, seqOf, tupOf, rdOf, lstOf, hd]
theorem ixV_s {M : Mem} {xs : List PyData} {k : Int} {d : PyData} (hd : atI xs k = some d) : ixV (.s xs) (.d (.int k)) M = .ok (.d d) M := by
  simp [ixV, seqOf, tupOf, rdOf, lstOf, hd]
theorem add_ii {i j : Int} {M : Mem} : addV (.d (.int i)) (.d (.int j)) M = .ok (.d (.int (i + j))) M := Eq.trans rfl rfl
theorem sub_ii {i j : Int} {M : Mem} : subV (.d (.int i)) (.d (.int j)) M = .ok (.d (.int (i - j))) M := Eq.trans rfl rfl
theorem mul_ii {i j : Int} {M : Mem} (h : (-(2 ^ 64) < i ∧ i < 2 ^ 64) ∨ (-(2 ^ 64) < j ∧ j < 2 ^ 64)) : mulV (.d (.int i)) (.d (.int j)) M = .ok (.d (.int (i * j))) M := by
  exact if_pos (by rcases h with h | h; exact .inl h; exact .inr (.inl h))
theorem mod_ii {i j : Int} {M : Mem} (h : 0 < j) : modV (.d (.int i)) (.d (.int j)) M = .ok (.d (.int (i % j))) M := by
  exact if_pos h
theorem fdiv_ii {i j : Int} {M : Mem} (h : 0 < j) (h2 : j < 2 ^ 255) : fdivV (.d (.int i)) (.d (.int j)) M = .ok (.d (.int (i / j))) M := by
  refine if_pos ⟨h, ?_⟩
  have : j.natAbs < 2 ^ 255 := by omega
  exact Nat.lt_trans ((Nat.log2_lt (by omega)).mpr this) (by decide)
theorem pow_ii {i j : Int} {M : Mem} (h0 : 0 ≤ j) (h : j ≤ 1000000) (h2 : i.natAbs < 2 ^ 64) : powV (.d (.int i)) (.d (.int j)) M = .ok (.d (.int (i ^ j.toNat))) M := if_pos ⟨h0, h, h2⟩
theorem pow_7 {M : Mem} : powV (.d (.int 10)) (.d (.int 7)) M = .ok (.d (.int 10000000)) M := Eq.trans rfl rfl
theorem pow_18 {M : Mem} : powV (.d (.int 10)) (.d (.int 18)) M = .ok (.d (.int 1000000000000000000)) M := Eq.trans rfl rfl
theorem pow_40 {M : Mem} : powV (.d (.int 10)) (.d (.int 40)) M = .ok (.d (.int 10000000000000000000000000000000000000000)) M := Eq.trans rfl rfl
theorem gt_ii {i j : Int} {M : Mem} : gtV (.d (.int i)) (.d (.int j)) M = .ok (.d (.bool (decide (j < i)))) M := Eq.trans rfl rfl
theorem lt_ii {i j : Int} {M : Mem} : ltV (.d (.int i)) (.d (.int j)) M = .ok (.d (.bool (decide (i < j)))) M := Eq.trans rfl rfl
theorem ge_ii {i j : Int} {M : Mem} : geV (.d (.int i)) (.d (.int j)) M = .ok (.d (.bool (decide (j ≤ i)))) M := Eq.trans rfl rfl
theorem le_ii {i j : Int} {M : Mem} : leV (.d (.int i)) (.d (.int j)) M = .ok (.d (.bool (decide (i ≤ j)))) M := Eq.trans rfl rfl
theorem bool_b {b : Bool} {M : Mem} : boolOf (.d (.bool b)) M = .ok b M := Eq.trans rfl rfl
def putV (o j x : Vl) (e : Env) (M2 : Mem) : Res Env := match o, j, x with
  | .h i, .d (.int k), .d y => match M2[i]? with
    | some (.lst xs) => match ixN xs.length k with
      | some n => .ok e (M2.set i (.lst (xs.set n y)))
      | none => .st
    | _ => .st
  | _, _, _ => .st
theorem putV_h {e : Env} {M : Mem} {i n : Nat} {k : Int} {xs : List PyData} {y : PyData} (hM : M[i]? = some (.lst xs)) (hn : ixN xs.length k = some n) : putV (.h i) (.d (.int k)) (.d y) e M = .ok e (M.set i (.lst (xs.set n y))) := by
  unfold putV
  simp only [hM, hn]
def goG (r : Res Env) : RS := match r with
  | .ok e1 M1 => .go .nx e1 M1
  | _ => .st
theorem goG_ok {e : Env} {M : Mem} : goG (.ok e M) = .go .nx e M := Eq.trans rfl rfl
section
variable {g : Vl → Vl → Mem → Res Vl} {f f1 f2 : Ev} {F : Env → Mem → Res (List PyData)} {h k : Evs} {e : Env} {M M1 : Mem} {x y : Vl} {xs : List Vl} {t u : Env → Mem → Res Bool} {G G2 : Sv} {b : Bool} {γ : Tg} {δ : Tgs}
theorem cst_a : cst x e M = .ok x M := Eq.trans rfl rfl
def o2a (g : Vl → Vl → Mem → Res Vl) (f2 : Ev) (e : Env) (r : Res Vl) : Res Vl := r.bind fun x M1 => (f2 e M1).bind fun y M2 => (g x y M2).pur
def o2b (g : Vl → Vl → Mem → Res Vl) (x : Vl) (r : Res Vl) : Res Vl := r.bind fun y M2 => (g x y M2).pur
theorem op2_a : op2 g f1 f2 e M = o2a g f2 e (f1 e M) := Eq.trans rfl rfl
theorem o2a_ok : o2a g f2 e (.ok x M1) = o2b g x (f2 e M1) := Eq.trans rfl rfl
theorem o2b_ok : o2b g x (.ok y M1) = (g x y M1).pur := Eq.trans rfl rfl
def oTa (g : Vl → Vl → Mem → Res Vl) (f2 : Ev) (e : Env) (r : Res Vl) : Res Bool := r.bind fun x M1 => (f2 e M1).bind fun y M2 => (g x y M2).pur.bind boolOf
def oTb (g : Vl → Vl → Mem → Res Vl) (x : Vl) (r : Res Vl) : Res Bool := r.bind fun y M2 => (g x y M2).pur.bind boolOf
theorem opT_a : opT g f1 f2 e M = oTa g f2 e (f1 e M) := Eq.trans rfl rfl
theorem oTa_ok : oTa g f2 e (.ok x M1) = oTb g x (f2 e M1) := Eq.trans rfl rfl
theorem oTb_ok : oTb g x (.ok y M1) = (g x y M1).pur.bind boolOf := Eq.trans rfl rfl
def cAa (h : Evs) (e : Env) (r : Res Vl) : Res (List Vl) := r.bind fun x M1 => (h e M1).bind fun xs M2 => .ok (x :: xs) M2
def cAb (x : Vl) (r : Res (List Vl)) : Res (List Vl) := r.bind fun xs M2 => .ok (x :: xs) M2
theorem nilA_a : nilA e M = .ok [] M := Eq.trans rfl rfl
theorem consA_a : consA f h e M = cAa h e (f e M) := Eq.trans rfl rfl
theorem cAa_ok : cAa h e (.ok x M1) = cAb x (h e M1) := Eq.trans rfl rfl
theorem cAb_ok : cAb x (.ok xs M1) = .ok (x :: xs) M1 := Eq.trans rfl rfl
def cFa (n : Nat) (m : Fn) (r : Res (List Vl)) : Res Vl := r.bind fun xs M1 => if xs.length = n then m xs M1 else .st
theorem callF_a {n : Nat} {m : Fn} : callF n m h e M = cFa n m (h e M) := Eq.trans rfl rfl
theorem cFa_ok {n : Nat} {m : Fn} : cFa n m (.ok xs M1) = if xs.length = n then m xs M1 else .st := Eq.trans rfl rfl
def cEa (v : List Vl → Mem → Res Vl) (r : Res (List Vl)) : Res Vl := r.bind fun xs M1 => (v xs M1).pur
theorem callE_a {v : List Vl → Mem → Res Vl} : callE v h e M = cEa v (h e M) := Eq.trans rfl rfl
theorem cEa_ok {v : List Vl → Mem → Res Vl} : cEa v (.ok xs M1) = (v xs M1).pur := Eq.trans rfl rfl
def dta (r : Res (List PyData)) : Res Vl := r.bind fun xs M1 => .ok (.d (.list xs)) M1
theorem datE_a : datE F e M = dta (F e M) := Eq.trans rfl rfl
theorem dta_ok {ds : List PyData} : dta (.ok ds M1) = .ok (.d (.list ds)) M1 := Eq.trans rfl rfl
def nwa (r : Res (List PyData)) : Res Vl := r.bind fun xs M1 => .ok (.h M1.length) (M1 ++ [.lst xs])
theorem newE_a : newE F e M = nwa (F e M) := Eq.trans rfl rfl
theorem nwa_ok {ds : List PyData} : nwa (.ok ds M1) = .ok (.h M1.length) (M1 ++ [.lst ds]) := Eq.trans rfl rfl
theorem dispE_a : dispE h e M = (h e M).bind asDs := Eq.trans rfl rfl
def tpa (r : Res (List Vl)) : Res Vl := r.bind fun xs M1 => (asDs xs M1).bind fun ds M2 => .ok (.d (.tuple ds)) M2
theorem tupE_a : tupE h e M = tpa (h e M) := Eq.trans rfl rfl
theorem tpa_ok : tpa (.ok xs M1) = (asDs xs M1).bind fun ds M2 => .ok (.d (.tuple ds)) M2 := Eq.trans rfl rfl
theorem asDs_a : asDs xs M = match datas xs with
  | some ds => if ds.length ≤ sizeLine then .ok ds M else .st
  | none => .st := by unfold asDs; rfl
def ifa (f g : Ev) (e : Env) (r : Res Bool) : Res Vl := r.bind fun b M1 => if b = true then f e M1 else g e M1
theorem ifE_a : ifE t f1 f2 e M = ifa f1 f2 e (t e M) := Eq.trans rfl rfl
theorem ifa_t : ifa f1 f2 e (.ok true M1) = f1 e M1 := Eq.trans rfl rfl
theorem ifa_f : ifa f1 f2 e (.ok false M1) = f2 e M1 := Eq.trans rfl rfl
def nta (r : Res Bool) : Res Bool := r.bind fun b M1 => .ok (!b) M1
theorem notT_a : notT t e M = nta (t e M) := Eq.trans rfl rfl
theorem nta_ok : nta (.ok b M1) = .ok (!b) M1 := Eq.trans rfl rfl
def ana (u : Env → Mem → Res Bool) (e : Env) (r : Res Bool) : Res Bool := r.bind fun b M1 => if b = true then u e M1 else .ok false M1
theorem andT_a : andT t u e M = ana u e (t e M) := Eq.trans rfl rfl
theorem ana_t : ana u e (.ok true M1) = u e M1 := Eq.trans rfl rfl
theorem ana_f : ana u e (.ok false M1) = .ok false M1 := Eq.trans rfl rfl
def ora (u : Env → Mem → Res Bool) (e : Env) (r : Res Bool) : Res Bool := r.bind fun b M1 => if b = true then .ok true M1 else u e M1
theorem orT_a : orT t u e M = ora u e (t e M) := Eq.trans rfl rfl
theorem ora_t : ora u e (.ok true M1) = .ok true M1 := Eq.trans rfl rfl
theorem ora_f : ora u e (.ok false M1) = u e M1 := Eq.trans rfl rfl
def tsa (r : Res Vl) : Res Bool := r.bind asB
theorem tstE_a : tstE f e M = tsa (f e M) := Eq.trans rfl rfl
theorem tsa_b : tsa (.ok (.d (.bool b)) M1) = .ok b M1 := Eq.trans rfl rfl
def aEa (g : Ev) (e : Env) (r : Res Vl) : Res Vl := r.bind fun x M1 => (boolOf x M1).bind fun b M2 => if b = true then g e M2 else .ok (.d (.bool false)) M2
theorem andE_a : andE f1 f2 e M = aEa f2 e (f1 e M) := Eq.trans rfl rfl
theorem aEa_t : aEa f2 e (.ok (.d (.bool true)) M1) = f2 e M1 := Eq.trans rfl rfl
theorem aEa_f : aEa f2 e (.ok (.d (.bool false)) M1) = .ok (.d (.bool false)) M1 := Eq.trans rfl rfl
def oEa (g : Ev) (e : Env) (r : Res Vl) : Res Vl := r.bind fun x M1 => (boolOf x M1).bind fun b M2 => if b = true then .ok (.d (.bool true)) M2 else g e M2
theorem orE_a : orE f1 f2 e M = oEa f2 e (f1 e M) := Eq.trans rfl rfl
theorem oEa_t : oEa f2 e (.ok (.d (.bool true)) M1) = .ok (.d (.bool true)) M1 := Eq.trans rfl rfl
theorem oEa_f : oEa f2 e (.ok (.d (.bool false)) M1) = f2 e M1 := Eq.trans rfl rfl
def nEa (r : Res Vl) : Res Vl := r.bind fun x M1 => (boolOf x M1).bind fun b M2 => .ok (.d (.bool !b)) M2
theorem notE_a : notE f e M = nEa (f e M) := Eq.trans rfl rfl
theorem nEa_ok : nEa (.ok (.d (.bool b)) M1) = .ok (.d (.bool !b)) M1 := Eq.trans rfl rfl
theorem seqS_a : seqS G G2 e M = thenS (G e M) G2 := Eq.trans rfl rfl
theorem nopS_a : nopS e M = .go .nx e M := Eq.trans rfl rfl
theorem setS_a {i : Nat} : setS i f e M = bindS (f e M) (fun x e M => .go .nx (e.set i (some x)) M) e := Eq.trans rfl rfl
theorem retS_a : retS f e M = bindS (f e M) (fun x e M => .go (.rt x) e M) e := Eq.trans rfl rfl
theorem dropS_a : dropS f e M = bindS (f e M) (fun _ e M => .go .nx e M) e := Eq.trans rfl rfl
def ifK (G G2 : Sv) : Bool → Env → Mem → RS := fun b e M => if b = true then G e M else G2 e M
theorem ifS_a : ifS t G G2 e M = bindS (t e M) (ifK G G2) e := Eq.trans rfl rfl
theorem ifK_t : ifK G G2 true e M = G e M := Eq.trans rfl rfl
theorem ifK_f : ifK G G2 false e M = G2 e M := Eq.trans rfl rfl
def asK (γ : Tg) : Vl → Env → Mem → RS := fun x e M => goG (γ x e M)
theorem asgS_a : asgS f γ e M = bindS (f e M) (asK γ) e := Eq.trans rfl rfl
theorem asK_a : asK γ x e M = goG (γ x e M) := Eq.trans rfl rfl
theorem setT_a {i : Nat} : setT i x e M = .ok (e.set i (some x)) M := Eq.trans rfl rfl
theorem nilT_a : nilT [] e M = .ok e M := Eq.trans rfl rfl
def cTa (δ : Tgs) (xs : List PyData) (r : Res Env) : Res Env := r.bind fun e1 M1 => δ xs e1 M1
theorem consT_a {d : PyData} {ds : List PyData} : consT γ δ (d :: ds) e M = cTa δ ds (γ (.d d) e M) := Eq.trans rfl rfl
theorem cTa_ok {ds : List PyData} {e1 : Env} : cTa δ ds (.ok e1 M1) = δ ds e1 M1 := Eq.trans rfl rfl
theorem tupT_a {n : Nat} {ds : List PyData} (h : ds.length = n) : tupT n δ (.d (.tuple ds)) e M = δ ds e M := if_pos h
theorem seqT_t {n : Nat} {ds : List PyData} (h : ds.length = n) : seqT n δ (.d (.tuple ds)) e M = δ ds e M := if_pos h
theorem seqT_l {n : Nat} {ds : List PyData} (h : ds.length = n) : seqT n δ (.d (.list ds)) e M = δ ds e M := if_pos h
theorem subT_a : subT f1 f2 x e M = (f1 e M).bind fun o M1 => (f2 e M1).bind fun j M2 => putV o j x e M2 := Eq.trans rfl rfl
theorem forS_a {fi : Ei} : forS fi γ G e M = bindS (fi e M) (fun xs e M => forL γ G xs e M) e := Eq.trans rfl rfl
theorem parS_a {i j : Nat} : parS i j h e M = bindS (h e M) (fun xs e M => match xs with
  | [x, y] => RS.go .nx ((e.set i (some x)).set j (some y)) M
  | _ => .st) e := Eq.trans rfl rfl
end
theorem freeze_at {i j : Nat} {e : Env} {M : Mem} {xs : List PyData} (h1 : e[i]? = some (some (.h j))) (h2 : M[j]? = some (.lst xs)) : freeze i e M = .go .nx (e.set i (some (.d (.list xs)))) (M.set j .gone) := by
  unfold freeze
  rw [h1]
  simp only [h2]
theorem whileS_at {c : Env → Mem → Res Bool} {g : Sv} {n : Env → Mem → Nat} {k : Nat} {e : Env} {M : Mem} {r : RS} (hk : n e M = k) (h : whileL c g k e M = r) : whileS c g n e M = r := by
  unfold whileS
  rw [hk]
  exact h
theorem listE_a {f : Ev} {e : Env} {M M1 : Mem} {x : Vl} {xs : List PyData} (h : f e M = .ok x M1) (hx : seqOf M1 x = some xs) : listE f e M = .ok xs M1 := by
  unfold listE
  rw [h, bind_ok]
  simp only [hx]
namespace C
/-- the box: what is left of a great number, a seed, a counter -/
def Bx (n : Nat) (o : MO) : Prop := ∃ a b c : Int, o = .lst [.int a, .int b, .int c] ∧ 0 ≤ a ∧ 0 ≤ b ∧ b < 2 ^ 62 ∧ 0 ≤ c ∧ c ≤ n
theorem Bx.mono {m n : Nat} {o : MO} (h : Bx m o) (hn : m ≤ n) : Bx n o := by
  obtain ⟨a, b, c, e, h1, h2, h3, h4, h5⟩ := h
  exact ⟨a, b, c, e, h1, h2, h3, h4, by omega⟩
theorem getM {M : Mem} {i : Nat} {o o' : MO} (h : M[i]? = some o) : (M.set i o')[i]? = some o' := by
  have : i < M.length := by
    by_cases hi : i < M.length
    · exact hi
    · rw [List.getElem?_eq_none (by omega)] at h; cases h
  simp [this]
theorem take_step (i n m : Nat) (M : Mem) (o : MO) (sp : Int) (self : Fn) (hM : M[i]? = some o) (hB : Bx n o) (hn : n + 1 ≤ 2 ^ 46) (hm : n + 1 ≤ m) (h0 : 0 < sp) (h1 : sp ≤ 10 ^ 70)
    (hs : 10000000 < sp → ∃ v1 o1 v2 o2, self [.h i, .d (.int 10000000)] M = .ok (.d (.int v1)) (M.set i o1) ∧ self [.h i, .d (.int ((sp - 1) / 10000000 + 1))] (M.set i o1) = .ok (.d (.int v2)) (M.set i o2) ∧ Bx m o2) :
    ∃ v o', defM 4 0 (g_take self) [.h i, .d (.int sp)] M = .ok (.d (.int v)) (M.set i o') ∧ Bx m o' ∧ 0 ≤ v ∧ v < sp := by
  obtain ⟨a, b, c, rfl, ha, hb, hb2, hc, hc2⟩ := hB
  have i0 : atI [PyData.int a, .int b, .int c] 0 = some (.int a) := rfl
  have i1 : atI [PyData.int a, .int b, .int c] 1 = some (.int b) := rfl
  have i2 : atI [PyData.int a, .int b, .int c] 2 = some (.int c) := rfl
  have p0 : ixN [PyData.int a, .int b, .int c].length 0 = some 0 := rfl
  have p2 : ixN [PyData.int a, .int b, .int c].length 2 = some 2 := rfl
  have hv : ∀ x : Int, 0 ≤ x % sp ∧ x % sp < sp := fun x => ⟨Int.emod_nonneg _ (by omega), Int.emod_lt_of_pos _ h0⟩
  unfold g_take
  by_cases h : 0 < a
  · simp only [defM, startE, seqS_a, setS_a, bindS_ok, bindS_er, then_nx, then_rt, then_er, ifS_a, ifK_t, ifK_f, retS_a, dropS_a, asgS_a, asK_a, goG_ok, subT_a, nopS_a, getV_0, getV_s, cst_a, op2_a, o2a_ok, o2b_ok, opT_a, oTa_ok, oTb_ok, consA_a, cAa_ok, cAb_ok, nilA_a, callF_a, cFa_ok, callE_a, cEa_ok, newE_a, nwa_ok, datE_a, dta_ok, dispE_a, tupE_a, tpa_ok, asDs_a, datas, bind_ok, pur_ok, bool_b, leave_d, leave_nx, leave_er, ifE_a, ifa_t, ifa_f, notT_a, nta_ok, andT_a, ana_t, ana_f, orT_a, ora_t, ora_f, tstE_a, tsa_b, andE_a, aEa_t, aEa_f, orE_a, oEa_t, oEa_f, notE_a, nEa_ok, add_ii, sub_ii, gt_ii, lt_ii, ge_ii, le_ii, setT_a, consT_a, cTa_ok, nilT_a, tupT_a, seqT_t, seqT_l, forS_a, List.map_cons, List.map_nil, List.length_cons, List.length_nil, Nat.reduceAdd, Nat.reduceSub, Nat.zero_add, Nat.add_zero, List.replicate, List.cons_append, List.nil_append, List.append_nil, List.getElem?_cons_zero, List.getElem?_cons_succ, List.set_cons_zero, List.set_cons_succ, List.getElem?_nil, Option.map_some, Option.map_none, Option.bind_some, if_true, if_false, ite_true, ite_false, eq_self_iff_true, and_self, and_true, true_and, decide_true, decide_false, Bool.false_eq_true, Bool.not_true, Bool.not_false, sizeLine, Nat.reducePow, Nat.reduceLeDiff, Nat.zero_le, pow_7, pow_18, pow_40, ixV_h hM i0, h, mod_ii h0, fdiv_ii h0 (by omega), putV_h hM p0]
    refine ⟨a % sp, _, ?_, ⟨a / sp, b, c, rfl, ?_, hb, hb2, hc, by omega⟩, hv _⟩
    · rw [take_all (by simp)]
      try rfl
    · exact Int.ediv_nonneg ha (by omega)
  · by_cases hsp : 10000000 < sp
    · obtain ⟨v1, o1, v2, o2, e1, e2, hB2⟩ := hs hsp
      have hmul : mulV (.d (.int 10000000)) (.d (.int v2)) (M.set i o2) = .ok (.d (.int (10000000 * v2))) (M.set i o2) := mul_ii (.inl (by decide))
      simp only [defM, startE, seqS_a, setS_a, bindS_ok, bindS_er, then_nx, then_rt, then_er, ifS_a, ifK_t, ifK_f, retS_a, dropS_a, asgS_a, asK_a, goG_ok, subT_a, nopS_a, getV_0, getV_s, cst_a, op2_a, o2a_ok, o2b_ok, opT_a, oTa_ok, oTb_ok, consA_a, cAa_ok, cAb_ok, nilA_a, callF_a, cFa_ok, callE_a, cEa_ok, newE_a, nwa_ok, datE_a, dta_ok, dispE_a, tupE_a, tpa_ok, asDs_a, datas, bind_ok, pur_ok, bool_b, leave_d, leave_nx, leave_er, ifE_a, ifa_t, ifa_f, notT_a, nta_ok, andT_a, ana_t, ana_f, orT_a, ora_t, ora_f, tstE_a, tsa_b, andE_a, aEa_t, aEa_f, orE_a, oEa_t, oEa_f, notE_a, nEa_ok, add_ii, sub_ii, gt_ii, lt_ii, ge_ii, le_ii, setT_a, consT_a, cTa_ok, nilT_a, tupT_a, seqT_t, seqT_l, forS_a, List.map_cons, List.map_nil, List.length_cons, List.length_nil, Nat.reduceAdd, Nat.reduceSub, Nat.zero_add, Nat.add_zero, List.replicate, List.cons_append, List.nil_append, List.append_nil, List.getElem?_cons_zero, List.getElem?_cons_succ, List.set_cons_zero, List.set_cons_succ, List.getElem?_nil, Option.map_some, Option.map_none, Option.bind_some, if_true, if_false, ite_true, ite_false, eq_self_iff_true, and_self, and_true, true_and, decide_true, decide_false, Bool.false_eq_true, Bool.not_true, Bool.not_false, sizeLine, Nat.reducePow, Nat.reduceLeDiff, Nat.zero_le, pow_7, pow_18, pow_40, ixV_h hM i0, h, hsp, e1, fdiv_ii (show (0 : Int) < 10000000 by decide) (by decide), e2, hmul, mod_ii h0]
      refine ⟨(v1 + 10000000 * v2) % sp, o2, ?_, hB2, hv _⟩
      rw [take_all (by simp)]
    · have j1 : atI [PyData.int a, .int b, .int (c + 1)] 1 = some (.int b) := rfl
      have j2 : atI [PyData.int a, .int b, .int (c + 1)] 2 = some (.int (c + 1)) := rfl
      have hM' := getM (o' := .lst [.int a, .int b, .int (c + 1)]) hM
      have hmul : mulV (.d (.int 39373)) (.d (.int (c + 1))) (M.set i (.lst [.int a, .int b, .int (c + 1)])) = .ok (.d (.int (39373 * (c + 1)))) (M.set i (.lst [.int a, .int b, .int (c + 1)])) := mul_ii (.inl (by decide))
      have hpow : powV (.d (.int (b + 39373 * (c + 1)))) (.d (.int 5)) (M.set i (.lst [.int a, .int b, .int (c + 1)])) = .ok (.d (.int ((b + 39373 * (c + 1)) ^ 5))) (M.set i (.lst [.int a, .int b, .int (c + 1)])) := pow_ii (by decide) (by decide) (by omega)
      generalize hq : (b + 39373 * (c + 1)) ^ 5 % 2147483647 = q at *
      have hq1 : 0 ≤ q := by omega
      have hq2 : q < 2147483647 := by omega
      simp only [defM, startE, seqS_a, setS_a, bindS_ok, bindS_er, then_nx, then_rt, then_er, ifS_a, ifK_t, ifK_f, retS_a, dropS_a, asgS_a, asK_a, goG_ok, subT_a, nopS_a, getV_0, getV_s, cst_a, op2_a, o2a_ok, o2b_ok, opT_a, oTa_ok, oTb_ok, consA_a, cAa_ok, cAb_ok, nilA_a, callF_a, cFa_ok, callE_a, cEa_ok, newE_a, nwa_ok, datE_a, dta_ok, dispE_a, tupE_a, tpa_ok, asDs_a, datas, bind_ok, pur_ok, bool_b, leave_d, leave_nx, leave_er, ifE_a, ifa_t, ifa_f, notT_a, nta_ok, andT_a, ana_t, ana_f, orT_a, ora_t, ora_f, tstE_a, tsa_b, andE_a, aEa_t, aEa_f, orE_a, oEa_t, oEa_f, notE_a, nEa_ok, add_ii, sub_ii, gt_ii, lt_ii, ge_ii, le_ii, setT_a, consT_a, cTa_ok, nilT_a, tupT_a, seqT_t, seqT_l, forS_a, List.map_cons, List.map_nil, List.length_cons, List.length_nil, Nat.reduceAdd, Nat.reduceSub, Nat.zero_add, Nat.add_zero, List.replicate, List.cons_append, List.nil_append, List.append_nil, List.getElem?_cons_zero, List.getElem?_cons_succ, List.set_cons_zero, List.set_cons_succ, List.getElem?_nil, Option.map_some, Option.map_none, Option.bind_some, if_true, if_false, ite_true, ite_false, eq_self_iff_true, and_self, and_true, true_and, decide_true, decide_false, Bool.false_eq_true, Bool.not_true, Bool.not_false, sizeLine, Nat.reducePow, Nat.reduceLeDiff, Nat.zero_le, pow_7, pow_18, pow_40, ixV_h hM i0, ixV_h hM i1, ixV_h hM i2, h, hsp, mod_ii h0, putV_h hM p2, ixV_h hM' j1, ixV_h hM' j2, hmul, hpow, mod_ii (show (0 : Int) < 2147483647 by decide), hq, mod_ii (show (0 : Int) < 40009 by decide), mul_ii (.inl (show -(2 ^ 64) < q ∧ q < 2 ^ 64 by omega)), mul_ii (i := c + 1) (.inr (show -(2 ^ 64) < (7919 : Int) ∧ (7919 : Int) < 2 ^ 64 by decide)), mod_ii (show (0 : Int) < 2147483629 by decide), fdiv_ii (show (0 : Int) < 64 by decide) (by decide)]
      refine ⟨((q * (q % 40009 + 7) + (c + 1) * 7919) % 2147483629 / 64 % sp), .lst [.int a, .int b, .int (c + 1)], ?_, ⟨a, b, c + 1, rfl, ha, hb, hb2, by omega, by omega⟩, hv _⟩
      rw [take_all (by simp)]
theorem take_ok : ∀ (f n i : Nat) (M : Mem) (o : MO) (sp : Int), M[i]? = some o → Bx n o → n + 2 ^ f ≤ 2 ^ 45 → 0 < sp → sp ≤ 10 ^ (7 * (f + 1)) → f < 10 →
    ∃ v o', m_take (f + 1) [.h i, .d (.int sp)] M = .ok (.d (.int v)) (M.set i o') ∧ Bx (n + 2 ^ f) o' ∧ 0 ≤ v ∧ v < sp := by
  intro f
  induction f with
  | zero =>
    intro n i M o sp hM hB hn h0 h1 hf
    exact take_step i n (n + 2 ^ 0) M o sp (m_take 0) hM hB (by omega) (by omega) h0 (by omega) (fun h => by omega)
  | succ f ih =>
    intro n i M o sp hM hB hn h0 h1 hf
    have hp : 0 < 2 ^ f := Nat.pow_pos (by decide)
    have hp2 : 2 ^ (f + 1) = 2 ^ f + 2 ^ f := by rw [Nat.pow_succ]; omega
    have hT : (10 : Int) ^ (7 * (f + 1 + 1)) = 10 ^ (7 * (f + 1)) * 10000000 := by
      rw [show 7 * (f + 1 + 1) = 7 * (f + 1) + 7 by omega, Int.pow_add]
      rfl
    have hT2 : (10000000 : Int) ≤ 10 ^ (7 * (f + 1)) := by
      have : (10 : Nat) ^ 7 ≤ 10 ^ (7 * (f + 1)) := Nat.pow_le_pow_right (by decide) (by omega)
      have e : ((10 ^ (7 * (f + 1)) : Nat) : Int) = (10 : Int) ^ (7 * (f + 1)) := by simp
      omega
    have hT3 : (10 : Int) ^ (7 * (f + 1 + 1)) ≤ 10 ^ 70 := by
      have : (10 : Nat) ^ (7 * (f + 1 + 1)) ≤ 10 ^ 70 := Nat.pow_le_pow_right (by decide) (by omega)
      have e : ((10 ^ (7 * (f + 1 + 1)) : Nat) : Int) = (10 : Int) ^ (7 * (f + 1 + 1)) := by simp
      omega
    refine take_step i n (n + 2 ^ (f + 1)) M o sp (m_take (f + 1)) hM hB (by omega) (by omega) h0 (by omega) (fun hs => ?_)
    obtain ⟨v1, o1, e1, B1, k1, _⟩ := ih n i M o 10000000 hM hB (by omega) (by decide) hT2 (by omega)
    obtain ⟨v2, o2, e2, B2, k2, _⟩ := ih (n + 2 ^ f) i (M.set i o1) o1 ((sp - 1) / 10000000 + 1) (getM hM) B1 (by omega) (by omega) (by omega) (by omega)
    rw [List.set_set] at e2
    exact ⟨v1, o1, v2, o2, e1, e2, by rw [hp2, ← Nat.add_assoc]; exact B2⟩
/-- one draw -/
theorem take10 {n i : Nat} {M : Mem} {o : MO} {sp : Int} (hM : M[i]? = some o) (hB : Bx n o) (hn : n ≤ 2 ^ 44) (h0 : 0 < sp) (h1 : sp ≤ 10 ^ 70) :
    ∃ v o', m_take 10 [.h i, .d (.int sp)] M = .ok (.d (.int v)) (M.set i o') ∧ Bx (n + 512) o' ∧ 0 ≤ v ∧ v < sp :=
  take_ok 9 n i M o sp hM hB (by omega) h0 h1 (by omega)
end C
end DL
namespace DL
open PySem PySem.Spec L2
theorem ixN_nat {n k : Nat} (h : k < n) : ixN n (k : Int) = some k := by
  unfold ixN
  rw [if_pos (by omega), if_pos (by omega)]
  simp
theorem atI_nat {α : Type} {xs : List α} {k : Nat} (h : k < xs.length) : atI xs (k : Int) = some xs[k] := by
  unfold atI
  rw [ixN_nat h]
  simp [h]
theorem methE_at {g : Nat → List PyData → List Vl → Mem → Res Vl} {f : Ev} {h : Evs} {e : Env} {M M2 : Mem} {i : Nat} {xs0 xs : List PyData} {ys : List Vl} (hf : f e M = .ok (.h i) M) (h0 : M[i]? = some (.lst xs0)) (hh : h e M = .ok ys M2) (h2 : M2[i]? = some (.lst xs)) :
    methE g f h e M = (g i xs ys M2).pur := by
  unfold methE
  rw [hf, bind_ok]
  simp only [h0, hh, bind_ok, h2]
theorem pop_at {i k : Nat} {xs : List PyData} {M : Mem} (h : k < xs.length) (hl : xs.length ≤ 2 ^ 62) : popM i xs [.d (.int (k : Nat))] M = .ok (.d xs[k]) (M.set i (.lst (xs.eraseIdx k))) := by
  unfold popM
  simp only [ixN_nat h]
  rw [if_pos ⟨by omega, by omega⟩]
  simp [h]
theorem app_at {i : Nat} {xs : List PyData} {y : PyData} {M : Mem} (h : xs.length < sizeLine) : appM i xs [.d y] M = .ok (.d .none) (M.set i (.lst (xs ++ [y]))) := if_pos h
theorem while_step {c : Env → Mem → Res Bool} {g : Sv} {n : Nat} {e e2 : Env} {M M1 M2 : Mem} (h1 : c e M = .ok true M1) (h2 : g e M1 = .go .nx e2 M2) : whileL c g (n + 1) e M = whileL c g n e2 M2 := by
  show lift c _ e M = _
  rw [lift_eq, h1, bindS_ok, if_pos rfl, h2]
theorem while_end {c : Env → Mem → Res Bool} {g : Sv} {n : Nat} {e : Env} {M M1 : Mem} (h1 : c e M = .ok false M1) : whileL c g (n + 1) e M = .go .nx e M1 := by
  show lift c _ e M = _
  rw [lift_eq, h1, bindS_ok, if_neg Bool.false_ne_true]
theorem forL_cons {γ : Tg} {g : Sv} {x : PyData} {xs : List PyData} {e e1 e2 : Env} {M M1 M2 : Mem} (h1 : γ (.d x) e M = .ok e1 M1) (h2 : g e1 M1 = .go .nx e2 M2) : forL γ g (x :: xs) e M = forL γ g xs e2 M2 := by
  show (match γ (.d x) e M with
    | .ok e1 M1 => _
    | _ => _) = _
  rw [h1]
  simp only [h2]
/-- a loop that keeps something -/
theorem forL_inv {γ : Tg} {g : Sv} (I : Nat → Env → Mem → Prop) (xs : List PyData) : ∀ (j : Nat) (e : Env) (M : Mem), j ≤ xs.length → (∀ (k : Nat) (x : PyData) (e : Env) (M : Mem), j ≤ k → xs[k]? = some x → I k e M → ∃ e1 M1 e2 M2, γ (.d x) e M = .ok e1 M1 ∧ g e1 M1 = .go .nx e2 M2 ∧ I (k + 1) e2 M2) → I j e M →
    ∃ e' M', forL γ g (xs.drop j) e M = .go .nx e' M' ∧ I xs.length e' M' := by
  intro j
  induction hn : xs.length - j generalizing j with
  | zero =>
    intro e M hj _ hI
    have : j = xs.length := by omega
    subst this
    rw [List.drop_length]
    exact ⟨e, M, rfl, hI⟩
  | succ n ih =>
    intro e M hj hs hI
    have hlt : j < xs.length := by omega
    rw [List.drop_eq_getElem_cons hlt]
    obtain ⟨e1, M1, e2, M2, h1, h2, h3⟩ := hs j xs[j] e M (Nat.le_refl _) (List.getElem?_eq_getElem hlt) hI
    rw [forL_cons h1 h2]
    exact ih (j + 1) (by omega) e2 M2 (by omega) (fun k x e M hk => hs k x e M (by omega)) h3
theorem forL_all {γ : Tg} {g : Sv} (I : Nat → Env → Mem → Prop) {xs : List PyData} {e : Env} {M : Mem} (hs : ∀ (k : Nat) (x : PyData) (e : Env) (M : Mem), xs[k]? = some x → I k e M → ∃ e1 M1 e2 M2, γ (.d x) e M = .ok e1 M1 ∧ g e1 M1 = .go .nx e2 M2 ∧ I (k + 1) e2 M2) (h0 : I 0 e M) :
    ∃ e' M', forL γ g xs e M = .go .nx e' M' ∧ I xs.length e' M' := forL_inv I xs 0 e M (Nat.zero_le _) (fun k x e M _ => hs k x e M) h0
/-- a comprehension that keeps something -/
theorem lcL_all {γ : Tg} {t : Env → Mem → Res Bool} {h : Ev} {ew : Env} (I : Nat → Mem → Prop) (P : Nat → PyData → PyData → Prop) (xs : List PyData) : ∀ (j : Nat) (acc : List PyData) (M : Mem), j ≤ xs.length → acc.length + (xs.length - j) ≤ sizeLine →
    (∀ (k : Nat) (x : PyData) (M : Mem), xs[k]? = some x → I k M → ∃ e1 M1 M2 y M3, γ (.d x) ew M = .ok e1 M1 ∧ t e1 M1 = .ok true M2 ∧ h e1 M2 = .ok (.d y) M3 ∧ I (k + 1) M3 ∧ P k x y) → I j M →
    ∃ ys M', lcL γ t h ew (xs.drop j) acc M = .ok (acc ++ ys) M' ∧ I xs.length M' ∧ ys.length = xs.length - j ∧ ∀ k x y, xs[j + k]? = some x → ys[k]? = some y → P (j + k) x y := by
  intro j
  induction hn : xs.length - j generalizing j with
  | zero =>
    intro acc M hj _ _ hI
    have : j = xs.length := by omega
    subst this
    rw [List.drop_length]
    exact ⟨[], M, by rw [List.append_nil]; rfl, hI, rfl, fun k x y _ e => by cases e⟩
  | succ n ih =>
    intro acc M hj hl hs hI
    have hlt : j < xs.length := by omega
    rw [List.drop_eq_getElem_cons hlt]
    obtain ⟨e1, M1, M2, y, M3, h1, h2, h3, h4, h5⟩ := hs j xs[j] M (List.getElem?_eq_getElem hlt) hI
    obtain ⟨ys, M', k1, k2, k3, k4⟩ := ih (j + 1) (by omega) (acc ++ [y]) M3 (by omega) (by rw [List.length_append, List.length_singleton]; omega) hs h4
    refine ⟨y :: ys, M', ?_, k2, by rw [List.length_cons, k3], ?_⟩
    · unfold lcL
      rw [h1]
      simp only [h2, h3]
      rw [if_pos (by omega), k1, List.append_assoc]
      rfl
    · intro k x z e1 e2
      cases k with
      | zero =>
        rw [Nat.add_zero] at e1 ⊢
        rw [List.getElem?_eq_getElem hlt] at e1
        cases e1
        cases e2
        exact h5
      | succ k =>
        have := k4 k x z (by rw [show j + 1 + k = j + (k + 1) by omega]; exact e1) e2
        rw [show j + (k + 1) = j + 1 + k by omega]
        exact this
/-- a comprehension without side effects -/
theorem lcL_map {γ : Tg} {t : Env → Mem → Res Bool} {h : Ev} {ew : Env} {M : Mem} (F : PyData → PyData) : ∀ (xs acc : List PyData), acc.length + xs.length ≤ sizeLine → (∀ x ∈ xs, ∃ e1, γ (.d x) ew M = .ok e1 M ∧ t e1 M = .ok true M ∧ h e1 M = .ok (.d (F x)) M) →
    lcL γ t h ew xs acc M = .ok (acc ++ xs.map F) M
  | [], acc, _, _ => by rw [List.map_nil, List.append_nil]; rfl
  | x :: xs, acc, hl, hs => by
    obtain ⟨e1, h1, h2, h3⟩ := hs x List.mem_cons_self
    rw [List.length_cons] at hl
    unfold lcL
    rw [h1]
    simp only [h2, h3]
    rw [if_pos (by omega), lcL_map F xs (acc ++ [F x]) (by rw [List.length_append, List.length_singleton]; omega) fun y hy => hs y (List.mem_cons_of_mem _ hy), List.append_assoc]
    rfl
section
variable {M : Mem} {a b x o : MO} {i L : Nat}
theorem m2_get (hi : i < M.length) : (M ++ [a, b])[i]? = M[i]? := List.getElem?_append_left hi
theorem m2_a (hL : L = M.length) : (M ++ [a, b])[L]? = some a := by subst hL; simp
theorem m2_b (hL : L = M.length) : (M ++ [a, b])[L + 1]? = some b := by subst hL; simp
theorem m2_set (hi : i < M.length) : (M ++ [a, b]).set i x = M.set i x ++ [a, b] := by rw [List.set_append_left _ _ hi]
theorem m2_sa (hL : L = M.length) : (M ++ [a, b]).set L x = M ++ [x, b] := by subst hL; rw [List.set_append_right _ _ (Nat.le_refl _)]; simp
theorem m2_sb (hL : L = M.length) : (M ++ [a, b]).set (L + 1) x = M ++ [a, x] := by subst hL; rw [List.set_append_right _ _ (by omega)]; simp
theorem m1_a (hL : L = M.length) : (M ++ [a])[L]? = some a := by subst hL; simp
theorem m1_sa (hL : L = M.length) : (M ++ [a]).set L x = M ++ [x] := by subst hL; rw [List.set_append_right _ _ (Nat.le_refl _)]; simp
theorem lt_of_get (h : M[i]? = some o) : i < M.length := by
  by_cases hi : i < M.length
  · exact hi
  · rw [List.getElem?_eq_none (by omega)] at h; cases h
end
theorem lt_of_getL {α : Type} {xs : List α} {i : Nat} {x : α} (h : xs[i]? = some x) : i < xs.length := by
  by_cases hi : i < xs.length
  · exact hi
  · rw [List.getElem?_eq_none (by omega)] at h; cases h
theorem perm_erase {α : Type} : ∀ (l : List α) (k : Nat) (h : k < l.length), (l[k] :: l.eraseIdx k).Perm l
  | x :: l, 0, _ => by simp
  | x :: l, k + 1, h => by
    rw [List.getElem_cons_succ, List.eraseIdx_cons_succ]
    exact (List.Perm.swap x _ _).trans (List.Perm.cons x (perm_erase l k (by simpa using h)))
theorem canLayAll_iff : ∀ xs : List PyData, PyData.canLayAll0 xs = true ↔ ∀ x ∈ xs, PyData.canLay0 x = true
  | [] => by simp [PyData.canLayAll0]
  | x :: xs => by simp [PyData.canLayAll0, canLayAll_iff xs]
theorem eqvAll_nil (xs : List PyData) : PyData.eqvAll xs [] = xs.isEmpty := by cases xs <;> simp [PyData.eqvAll]
/-- a list beside the empty list -/
theorem ne_nil {a : Vl} {xs : List PyData} {M : Mem} (h : datOf M a = some (.list xs)) (hc : ∀ x ∈ xs, x.canLay0 = true) : neV a (.d (.list [])) M = .ok (.d (.bool (!xs.isEmpty))) M := by
  unfold neV
  rw [h]
  show neD (.list xs) (.list []) M = _
  have h1 : (PyData.list xs).canLay0 = true := by rw [PyData.canLay0]; exact (canLayAll_iff xs).mpr hc
  have h2 : (PyData.list []).canLay0 = true := rfl
  have h3 : (PyData.list []).depth = 1 := rfl
  refine (if_pos (by unfold eqOk; rw [h1, h2, h3]; simp; omega)).trans ?_
  rw [PyData.eqv, eqvAll_nil]
theorem len_at {x : Vl} {xs : List PyData} {M : Mem} (h : seqOf M x = some xs) : lenV [x] M = .ok (.d (.int (xs.length : Nat))) M := by
  cases x with
  | d y =>
    cases y with
    | str z => simp [seqOf, tupOf, rdOf, lstOf] at h
    | _ => simp only [lenV, h]
  | _ => simp only [lenV, h]
theorem len_l {xs : List PyData} {M : Mem} : lenV [.d (.list xs)] M = .ok (.d (.int (xs.length : Nat))) M := len_at rfl
theorem len_t {xs : List PyData} {M : Mem} : lenV [.d (.tuple xs)] M = .ok (.d (.int (xs.length : Nat))) M := len_at rfl
theorem len_s {xs : List PyData} {M : Mem} : lenV [.s xs] M = .ok (.d (.int (xs.length : Nat))) M := len_at rfl
theorem len_h {i : Nat} {xs : List PyData} {M : Mem} (h : M[i]? = some (.lst xs)) : lenV [.h i] M = .ok (.d (.int (xs.length : Nat))) M := len_at (by simp [seqOf, tupOf, rdOf, lstOf, h])
namespace C
/-- all of some, in another order -/
theorem strewn_loop {i : Nat} {xs0 : List PyData} : ∀ (f : Nat) (left found : List PyData) (n : Nat) (M : Mem) (o : MO), left.length = f → M[i]? = some o → Bx n o → n + 512 * f ≤ 2 ^ 44 → f ≤ 2 ^ 20 → found.length + left.length ≤ 2 ^ 20 → (∀ x ∈ left, x.canLay0 = true) →
    ∃ o' ys, whileL (opT neV (getV 2) (datE (dispE nilA))) (dropS (methE appM (getV 3) (consA (methE popM (getV 2) (consA (callF 2 (C.m_take 10) (consA (getV 0) (consA (callE lenV (consA (getV 2) nilA)) nilA))) nilA)) nilA))) (f + 1)
      [some (.h i), some (.d (.list xs0)), some (.h M.length), some (.h (M.length + 1))] (M ++ [.lst left, .lst found])
      = .go .nx [some (.h i), some (.d (.list xs0)), some (.h M.length), some (.h (M.length + 1))] (M.set i o' ++ [.lst [], .lst ys]) ∧ Bx (n + 512 * f) o' ∧ ys.Perm (found ++ left) := by
  intro f
  induction f with
  | zero =>
    intro left found n M o hl hM hB hn _ _ hc
    have hl : left = [] := List.length_eq_zero_iff.mp hl
    subst hl
    refine ⟨o, found, ?_, by simpa using hB, by simp⟩
    have hd : datOf (M ++ [.lst [], .lst found]) (.h M.length) = some (.list []) := by simp [datOf, m2_a]
    have hs : M.set i o = M := by
      have hi := lt_of_get hM
      rw [List.getElem?_eq_getElem hi] at hM
      cases hM
      simp
    rw [while_end (M1 := M ++ [.lst [], .lst found]) (by simp only [defM, startE, seqS_a, setS_a, bindS_ok, bindS_er, then_nx, then_rt, then_er, ifS_a, ifK_t, ifK_f, retS_a, dropS_a, asgS_a, asK_a, goG_ok, subT_a, nopS_a, getV_0, getV_s, cst_a, op2_a, o2a_ok, o2b_ok, opT_a, oTa_ok, oTb_ok, consA_a, cAa_ok, cAb_ok, nilA_a, callF_a, cFa_ok, callE_a, cEa_ok, newE_a, nwa_ok, datE_a, dta_ok, dispE_a, tupE_a, tpa_ok, asDs_a, datas, bind_ok, pur_ok, bool_b, leave_d, leave_nx, leave_er, ifE_a, ifa_t, ifa_f, notT_a, nta_ok, andT_a, ana_t, ana_f, orT_a, ora_t, ora_f, tstE_a, tsa_b, andE_a, aEa_t, aEa_f, orE_a, oEa_t, oEa_f, notE_a, nEa_ok, add_ii, sub_ii, gt_ii, lt_ii, ge_ii, le_ii, setT_a, consT_a, cTa_ok, nilT_a, tupT_a, seqT_t, seqT_l, forS_a, List.map_cons, List.map_nil, List.length_cons, List.length_nil, Nat.reduceAdd, Nat.reduceSub, Nat.zero_add, Nat.add_zero, List.replicate, List.cons_append, List.nil_append, List.append_nil, List.getElem?_cons_zero, List.getElem?_cons_succ, List.set_cons_zero, List.set_cons_succ, List.getElem?_nil, Option.map_some, Option.map_none, Option.bind_some, if_true, if_false, ite_true, ite_false, eq_self_iff_true, and_self, and_true, true_and, decide_true, decide_false, Bool.false_eq_true, Bool.not_true, Bool.not_false, sizeLine, Nat.reducePow, Nat.reduceLeDiff, Nat.zero_le, pow_7, pow_18, pow_40, ne_nil hd (by simp)]; rfl), hs]
  | succ f ih =>
    intro left found n M o hl hM hB hn hf hsz hc
    have hd : datOf (M ++ [.lst left, .lst found]) (.h M.length) = some (.list left) := by simp [datOf, m2_a]
    have hi := lt_of_get hM
    have hne : left.isEmpty = false := by cases left with
      | nil => cases hl
      | cons _ _ => rfl
    have hM2 : (M ++ [.lst left, .lst found])[i]? = some o := by rw [m2_get hi]; exact hM
    obtain ⟨v, o1, e, B, k1, k2⟩ := take10 (sp := (left.length : Nat)) hM2 hB (by omega) (by omega) (by omega)
    obtain ⟨k, rfl⟩ := Int.eq_ofNat_of_zero_le k1
    have hk : k < left.length := by omega
    rw [m2_set hi] at e
    have hs0 : sizeLine = 2 ^ 24 := rfl
    have pop := pop_at (i := M.length) (M := M.set i o1 ++ [.lst left, .lst found]) hk (by omega)
    rw [m2_sa (by simp)] at pop
    have app := app_at (i := M.length + 1) (xs := found) (y := left[k]) (M := M.set i o1 ++ [.lst (left.eraseIdx k), .lst found]) (by omega)
    rw [m2_sb (by simp)] at app
    have hlen : lenV [.h M.length] (M ++ [.lst left, .lst found]) = _ := len_h (m2_a rfl)
    have inner : methE popM (getV 2) (consA (callF 2 (C.m_take 10) (consA (getV 0) (consA (callE lenV (consA (getV 2) nilA)) nilA))) nilA) [some (.h i), some (.d (.list xs0)), some (.h M.length), some (.h (M.length + 1))] (M ++ [.lst left, .lst found])
        = .ok (.d left[k]) (M.set i o1 ++ [.lst (left.eraseIdx k), .lst found]) := by
      rw [methE_at (i := M.length) (xs0 := left) (xs := left) (ys := [.d (.int (k : Nat))]) (M2 := M.set i o1 ++ [.lst left, .lst found]) (by simp only [defM, startE, seqS_a, setS_a, bindS_ok, bindS_er, then_nx, then_rt, then_er, ifS_a, ifK_t, ifK_f, retS_a, dropS_a, asgS_a, asK_a, goG_ok, subT_a, nopS_a, getV_0, getV_s, cst_a, op2_a, o2a_ok, o2b_ok, opT_a, oTa_ok, oTb_ok, consA_a, cAa_ok, cAb_ok, nilA_a, callF_a, cFa_ok, callE_a, cEa_ok, newE_a, nwa_ok, datE_a, dta_ok, dispE_a, tupE_a, tpa_ok, asDs_a, datas, bind_ok, pur_ok, bool_b, leave_d, leave_nx, leave_er, ifE_a, ifa_t, ifa_f, notT_a, nta_ok, andT_a, ana_t, ana_f, orT_a, ora_t, ora_f, tstE_a, tsa_b, andE_a, aEa_t, aEa_f, orE_a, oEa_t, oEa_f, notE_a, nEa_ok, add_ii, sub_ii, gt_ii, lt_ii, ge_ii, le_ii, setT_a, consT_a, cTa_ok, nilT_a, tupT_a, seqT_t, seqT_l, forS_a, List.map_cons, List.map_nil, List.length_cons, List.length_nil, Nat.reduceAdd, Nat.reduceSub, Nat.zero_add, Nat.add_zero, List.replicate, List.cons_append, List.nil_append, List.append_nil, List.getElem?_cons_zero, List.getElem?_cons_succ, List.set_cons_zero, List.set_cons_succ, List.getElem?_nil, Option.map_some, Option.map_none, Option.bind_some, if_true, if_false, ite_true, ite_false, eq_self_iff_true, and_self, and_true, true_and, decide_true, decide_false, Bool.false_eq_true, Bool.not_true, Bool.not_false, sizeLine, Nat.reducePow, Nat.reduceLeDiff, Nat.zero_le, pow_7, pow_18, pow_40]) (m2_a rfl) (by simp only [defM, startE, seqS_a, setS_a, bindS_ok, bindS_er, then_nx, then_rt, then_er, ifS_a, ifK_t, ifK_f, retS_a, dropS_a, asgS_a, asK_a, goG_ok, subT_a, nopS_a, getV_0, getV_s, cst_a, op2_a, o2a_ok, o2b_ok, opT_a, oTa_ok, oTb_ok, consA_a, cAa_ok, cAb_ok, nilA_a, callF_a, cFa_ok, callE_a, cEa_ok, newE_a, nwa_ok, datE_a, dta_ok, dispE_a, tupE_a, tpa_ok, asDs_a, datas, bind_ok, pur_ok, bool_b, leave_d, leave_nx, leave_er, ifE_a, ifa_t, ifa_f, notT_a, nta_ok, andT_a, ana_t, ana_f, orT_a, ora_t, ora_f, tstE_a, tsa_b, andE_a, aEa_t, aEa_f, orE_a, oEa_t, oEa_f, notE_a, nEa_ok, add_ii, sub_ii, gt_ii, lt_ii, ge_ii, le_ii, setT_a, consT_a, cTa_ok, nilT_a, tupT_a, seqT_t, seqT_l, forS_a, List.map_cons, List.map_nil, List.length_cons, List.length_nil, Nat.reduceAdd, Nat.reduceSub, Nat.zero_add, Nat.add_zero, List.replicate, List.cons_append, List.nil_append, List.append_nil, List.getElem?_cons_zero, List.getElem?_cons_succ, List.set_cons_zero, List.set_cons_succ, List.getElem?_nil, Option.map_some, Option.map_none, Option.bind_some, if_true, if_false, ite_true, ite_false, eq_self_iff_true, and_self, and_true, true_and, decide_true, decide_false, Bool.false_eq_true, Bool.not_true, Bool.not_false, sizeLine, Nat.reducePow, Nat.reduceLeDiff, Nat.zero_le, pow_7, pow_18, pow_40, hlen, e]) (m2_a (by simp)), pop]
      rfl
    have outer : methE appM (getV 3) (consA (methE popM (getV 2) (consA (callF 2 (C.m_take 10) (consA (getV 0) (consA (callE lenV (consA (getV 2) nilA)) nilA))) nilA)) nilA) [some (.h i), some (.d (.list xs0)), some (.h M.length), some (.h (M.length + 1))] (M ++ [.lst left, .lst found])
        = .ok (.d .none) (M.set i o1 ++ [.lst (left.eraseIdx k), .lst (found ++ [left[k]])]) := by
      rw [methE_at (i := M.length + 1) (xs0 := found) (xs := found) (ys := [.d left[k]]) (M2 := M.set i o1 ++ [.lst (left.eraseIdx k), .lst found]) (by simp only [defM, startE, seqS_a, setS_a, bindS_ok, bindS_er, then_nx, then_rt, then_er, ifS_a, ifK_t, ifK_f, retS_a, dropS_a, asgS_a, asK_a, goG_ok, subT_a, nopS_a, getV_0, getV_s, cst_a, op2_a, o2a_ok, o2b_ok, opT_a, oTa_ok, oTb_ok, consA_a, cAa_ok, cAb_ok, nilA_a, callF_a, cFa_ok, callE_a, cEa_ok, newE_a, nwa_ok, datE_a, dta_ok, dispE_a, tupE_a, tpa_ok, asDs_a, datas, bind_ok, pur_ok, bool_b, leave_d, leave_nx, leave_er, ifE_a, ifa_t, ifa_f, notT_a, nta_ok, andT_a, ana_t, ana_f, orT_a, ora_t, ora_f, tstE_a, tsa_b, andE_a, aEa_t, aEa_f, orE_a, oEa_t, oEa_f, notE_a, nEa_ok, add_ii, sub_ii, gt_ii, lt_ii, ge_ii, le_ii, setT_a, consT_a, cTa_ok, nilT_a, tupT_a, seqT_t, seqT_l, forS_a, List.map_cons, List.map_nil, List.length_cons, List.length_nil, Nat.reduceAdd, Nat.reduceSub, Nat.zero_add, Nat.add_zero, List.replicate, List.cons_append, List.nil_append, List.append_nil, List.getElem?_cons_zero, List.getElem?_cons_succ, List.set_cons_zero, List.set_cons_succ, List.getElem?_nil, Option.map_some, Option.map_none, Option.bind_some, if_true, if_false, ite_true, ite_false, eq_self_iff_true, and_self, and_true, true_and, decide_true, decide_false, Bool.false_eq_true, Bool.not_true, Bool.not_false, sizeLine, Nat.reducePow, Nat.reduceLeDiff, Nat.zero_le, pow_7, pow_18, pow_40]) (m2_b rfl) (by simp only [defM, startE, seqS_a, setS_a, bindS_ok, bindS_er, then_nx, then_rt, then_er, ifS_a, ifK_t, ifK_f, retS_a, dropS_a, asgS_a, asK_a, goG_ok, subT_a, nopS_a, getV_0, getV_s, cst_a, op2_a, o2a_ok, o2b_ok, opT_a, oTa_ok, oTb_ok, consA_a, cAa_ok, cAb_ok, nilA_a, callF_a, cFa_ok, callE_a, cEa_ok, newE_a, nwa_ok, datE_a, dta_ok, dispE_a, tupE_a, tpa_ok, asDs_a, datas, bind_ok, pur_ok, bool_b, leave_d, leave_nx, leave_er, ifE_a, ifa_t, ifa_f, notT_a, nta_ok, andT_a, ana_t, ana_f, orT_a, ora_t, ora_f, tstE_a, tsa_b, andE_a, aEa_t, aEa_f, orE_a, oEa_t, oEa_f, notE_a, nEa_ok, add_ii, sub_ii, gt_ii, lt_ii, ge_ii, le_ii, setT_a, consT_a, cTa_ok, nilT_a, tupT_a, seqT_t, seqT_l, forS_a, List.map_cons, List.map_nil, List.length_cons, List.length_nil, Nat.reduceAdd, Nat.reduceSub, Nat.zero_add, Nat.add_zero, List.replicate, List.cons_append, List.nil_append, List.append_nil, List.getElem?_cons_zero, List.getElem?_cons_succ, List.set_cons_zero, List.set_cons_succ, List.getElem?_nil, Option.map_some, Option.map_none, Option.bind_some, if_true, if_false, ite_true, ite_false, eq_self_iff_true, and_self, and_true, true_and, decide_true, decide_false, Bool.false_eq_true, Bool.not_true, Bool.not_false, sizeLine, Nat.reducePow, Nat.reduceLeDiff, Nat.zero_le, pow_7, pow_18, pow_40, inner]) (m2_b (by simp)), app]
      rfl
    rw [while_step (M1 := M ++ [.lst left, .lst found]) (e2 := [some (.h i), some (.d (.list xs0)), some (.h M.length), some (.h (M.length + 1))]) (M2 := M.set i o1 ++ [.lst (left.eraseIdx k), .lst (found ++ [left[k]])]) (by simp only [defM, startE, seqS_a, setS_a, bindS_ok, bindS_er, then_nx, then_rt, then_er, ifS_a, ifK_t, ifK_f, retS_a, dropS_a, asgS_a, asK_a, goG_ok, subT_a, nopS_a, getV_0, getV_s, cst_a, op2_a, o2a_ok, o2b_ok, opT_a, oTa_ok, oTb_ok, consA_a, cAa_ok, cAb_ok, nilA_a, callF_a, cFa_ok, callE_a, cEa_ok, newE_a, nwa_ok, datE_a, dta_ok, dispE_a, tupE_a, tpa_ok, asDs_a, datas, bind_ok, pur_ok, bool_b, leave_d, leave_nx, leave_er, ifE_a, ifa_t, ifa_f, notT_a, nta_ok, andT_a, ana_t, ana_f, orT_a, ora_t, ora_f, tstE_a, tsa_b, andE_a, aEa_t, aEa_f, orE_a, oEa_t, oEa_f, notE_a, nEa_ok, add_ii, sub_ii, gt_ii, lt_ii, ge_ii, le_ii, setT_a, consT_a, cTa_ok, nilT_a, tupT_a, seqT_t, seqT_l, forS_a, List.map_cons, List.map_nil, List.length_cons, List.length_nil, Nat.reduceAdd, Nat.reduceSub, Nat.zero_add, Nat.add_zero, List.replicate, List.cons_append, List.nil_append, List.append_nil, List.getElem?_cons_zero, List.getElem?_cons_succ, List.set_cons_zero, List.set_cons_succ, List.getElem?_nil, Option.map_some, Option.map_none, Option.bind_some, if_true, if_false, ite_true, ite_false, eq_self_iff_true, and_self, and_true, true_and, decide_true, decide_false, Bool.false_eq_true, Bool.not_true, Bool.not_false, sizeLine, Nat.reducePow, Nat.reduceLeDiff, Nat.zero_le, pow_7, pow_18, pow_40, ne_nil hd hc, hne]) (by simp only [defM, startE, seqS_a, setS_a, bindS_ok, bindS_er, then_nx, then_rt, then_er, ifS_a, ifK_t, ifK_f, retS_a, dropS_a, asgS_a, asK_a, goG_ok, subT_a, nopS_a, getV_0, getV_s, cst_a, op2_a, o2a_ok, o2b_ok, opT_a, oTa_ok, oTb_ok, consA_a, cAa_ok, cAb_ok, nilA_a, callF_a, cFa_ok, callE_a, cEa_ok, newE_a, nwa_ok, datE_a, dta_ok, dispE_a, tupE_a, tpa_ok, asDs_a, datas, bind_ok, pur_ok, bool_b, leave_d, leave_nx, leave_er, ifE_a, ifa_t, ifa_f, notT_a, nta_ok, andT_a, ana_t, ana_f, orT_a, ora_t, ora_f, tstE_a, tsa_b, andE_a, aEa_t, aEa_f, orE_a, oEa_t, oEa_f, notE_a, nEa_ok, add_ii, sub_ii, gt_ii, lt_ii, ge_ii, le_ii, setT_a, consT_a, cTa_ok, nilT_a, tupT_a, seqT_t, seqT_l, forS_a, List.map_cons, List.map_nil, List.length_cons, List.length_nil, Nat.reduceAdd, Nat.reduceSub, Nat.zero_add, Nat.add_zero, List.replicate, List.cons_append, List.nil_append, List.append_nil, List.getElem?_cons_zero, List.getElem?_cons_succ, List.set_cons_zero, List.set_cons_succ, List.getElem?_nil, Option.map_some, Option.map_none, Option.bind_some, if_true, if_false, ite_true, ite_false, eq_self_iff_true, and_self, and_true, true_and, decide_true, decide_false, Bool.false_eq_true, Bool.not_true, Bool.not_false, sizeLine, Nat.reducePow, Nat.reduceLeDiff, Nat.zero_le, pow_7, pow_18, pow_40, outer])]
    have hle : (left.eraseIdx k).length = f := by rw [List.length_eraseIdx]; simp [hk]; omega
    obtain ⟨o', ys, e2, B2, P⟩ := ih (left.eraseIdx k) (found ++ [left[k]]) (n + 512) (M.set i o1) o1 hle (getM hM) B (by omega) (by omega) (by rw [List.length_append, hle]; simp; omega) (fun x hx => hc x (List.mem_of_mem_eraseIdx hx))
    rw [List.length_set, List.set_set] at e2
    refine ⟨o', ys, e2, by rw [show n + 512 * (f + 1) = n + 512 + 512 * f by omega]; exact B2, P.trans ?_⟩
    rw [List.append_assoc]
    exact List.Perm.append_left _ (perm_erase left k hk)
theorem strewn_ok {n i : Nat} {M : Mem} {o : MO} {xs : List PyData} (hM : M[i]? = some o) (hB : Bx n o) (hn : n + 512 * xs.length ≤ 2 ^ 44) (hl : xs.length ≤ 2 ^ 20) (hc : ∀ x ∈ xs, x.canLay0 = true) :
    ∃ ys o', m_strewn [.h i, .d (.list xs)] M = .ok (.d (.list ys)) (M.set i o') ∧ Bx (n + 512 * xs.length) o' ∧ ys.Perm xs := by
  have hi := lt_of_get hM
  obtain ⟨o', ys, e, B, P⟩ := strewn_loop (i := i) (xs0 := xs) xs.length xs [] n M o rfl hM hB hn hl (by simpa using hl) hc
  refine ⟨ys, o', ?_, B, P⟩
  have fuel : lenAt 2 [some (.h i), some (.d (.list xs)), some (.h M.length), some (.h (M.length + 1))] (M ++ [.lst xs, .lst []]) = xs.length + 1 := by
    unfold lenAt
    simp [lstOf]
  have par : parS 2 3 (consA (newE (listE (getV 1))) (consA (newE (dispE nilA)) nilA)) [some (.h i), some (.d (.list xs)), none, none] M
      = .go .nx [some (.h i), some (.d (.list xs)), some (.h M.length), some (.h (M.length + 1))] (M ++ [.lst xs, .lst []]) := by
    simp only [defM, startE, seqS_a, setS_a, bindS_ok, bindS_er, then_nx, then_rt, then_er, ifS_a, ifK_t, ifK_f, retS_a, dropS_a, asgS_a, asK_a, goG_ok, subT_a, nopS_a, getV_0, getV_s, cst_a, op2_a, o2a_ok, o2b_ok, opT_a, oTa_ok, oTb_ok, consA_a, cAa_ok, cAb_ok, nilA_a, callF_a, cFa_ok, callE_a, cEa_ok, newE_a, nwa_ok, datE_a, dta_ok, dispE_a, tupE_a, tpa_ok, asDs_a, datas, bind_ok, pur_ok, bool_b, leave_d, leave_nx, leave_er, ifE_a, ifa_t, ifa_f, notT_a, nta_ok, andT_a, ana_t, ana_f, orT_a, ora_t, ora_f, tstE_a, tsa_b, andE_a, aEa_t, aEa_f, orE_a, oEa_t, oEa_f, notE_a, nEa_ok, add_ii, sub_ii, gt_ii, lt_ii, ge_ii, le_ii, setT_a, consT_a, cTa_ok, nilT_a, tupT_a, seqT_t, seqT_l, forS_a, List.map_cons, List.map_nil, List.length_cons, List.length_nil, Nat.reduceAdd, Nat.reduceSub, Nat.zero_add, Nat.add_zero, List.replicate, List.cons_append, List.nil_append, List.append_nil, List.getElem?_cons_zero, List.getElem?_cons_succ, List.set_cons_zero, List.set_cons_succ, List.getElem?_nil, Option.map_some, Option.map_none, Option.bind_some, if_true, if_false, ite_true, ite_false, eq_self_iff_true, and_self, and_true, true_and, decide_true, decide_false, Bool.false_eq_true, Bool.not_true, Bool.not_false, sizeLine, Nat.reducePow, Nat.reduceLeDiff, Nat.zero_le, pow_7, pow_18, pow_40, parS_a, listE_a (f := getV 1) (x := .d (.list xs)) (xs := xs) (e := [some (.h i), some (.d (.list xs)), none, none]) (M := M) (M1 := M) (by simp only [defM, startE, seqS_a, setS_a, bindS_ok, bindS_er, then_nx, then_rt, then_er, ifS_a, ifK_t, ifK_f, retS_a, dropS_a, asgS_a, asK_a, goG_ok, subT_a, nopS_a, getV_0, getV_s, cst_a, op2_a, o2a_ok, o2b_ok, opT_a, oTa_ok, oTb_ok, consA_a, cAa_ok, cAb_ok, nilA_a, callF_a, cFa_ok, callE_a, cEa_ok, newE_a, nwa_ok, datE_a, dta_ok, dispE_a, tupE_a, tpa_ok, asDs_a, datas, bind_ok, pur_ok, bool_b, leave_d, leave_nx, leave_er, ifE_a, ifa_t, ifa_f, notT_a, nta_ok, andT_a, ana_t, ana_f, orT_a, ora_t, ora_f, tstE_a, tsa_b, andE_a, aEa_t, aEa_f, orE_a, oEa_t, oEa_f, notE_a, nEa_ok, add_ii, sub_ii, gt_ii, lt_ii, ge_ii, le_ii, setT_a, consT_a, cTa_ok, nilT_a, tupT_a, seqT_t, seqT_l, forS_a, List.map_cons, List.map_nil, List.length_cons, List.length_nil, Nat.reduceAdd, Nat.reduceSub, Nat.zero_add, Nat.add_zero, List.replicate, List.cons_append, List.nil_append, List.append_nil, List.getElem?_cons_zero, List.getElem?_cons_succ, List.set_cons_zero, List.set_cons_succ, List.getElem?_nil, Option.map_some, Option.map_none, Option.bind_some, if_true, if_false, ite_true, ite_false, eq_self_iff_true, and_self, and_true, true_and, decide_true, decide_false, Bool.false_eq_true, Bool.not_true, Bool.not_false, sizeLine, Nat.reducePow, Nat.reduceLeDiff, Nat.zero_le, pow_7, pow_18, pow_40]) rfl, List.length_append, List.append_assoc]
  have fz := freeze_at (i := 3) (e := [some (.h i), some (.d (.list xs)), some (.h M.length), some (.h (M.length + 1))]) (M := M.set i o' ++ [.lst [], .lst ys]) rfl (m2_b (by simp))
  rw [m2_sb (by simp)] at fz
  unfold m_strewn g_strewn
  simp only [defM, startE, seqS_a, setS_a, bindS_ok, bindS_er, then_nx, then_rt, then_er, ifS_a, ifK_t, ifK_f, retS_a, dropS_a, asgS_a, asK_a, goG_ok, subT_a, nopS_a, getV_0, getV_s, cst_a, op2_a, o2a_ok, o2b_ok, opT_a, oTa_ok, oTb_ok, consA_a, cAa_ok, cAb_ok, nilA_a, callF_a, cFa_ok, callE_a, cEa_ok, newE_a, nwa_ok, datE_a, dta_ok, dispE_a, tupE_a, tpa_ok, asDs_a, datas, bind_ok, pur_ok, bool_b, leave_d, leave_nx, leave_er, ifE_a, ifa_t, ifa_f, notT_a, nta_ok, andT_a, ana_t, ana_f, orT_a, ora_t, ora_f, tstE_a, tsa_b, andE_a, aEa_t, aEa_f, orE_a, oEa_t, oEa_f, notE_a, nEa_ok, add_ii, sub_ii, gt_ii, lt_ii, ge_ii, le_ii, setT_a, consT_a, cTa_ok, nilT_a, tupT_a, seqT_t, seqT_l, forS_a, List.map_cons, List.map_nil, List.length_cons, List.length_nil, Nat.reduceAdd, Nat.reduceSub, Nat.zero_add, Nat.add_zero, List.replicate, List.cons_append, List.nil_append, List.append_nil, List.getElem?_cons_zero, List.getElem?_cons_succ, List.set_cons_zero, List.set_cons_succ, List.getElem?_nil, Option.map_some, Option.map_none, Option.bind_some, if_true, if_false, ite_true, ite_false, eq_self_iff_true, and_self, and_true, true_and, decide_true, decide_false, Bool.false_eq_true, Bool.not_true, Bool.not_false, sizeLine, Nat.reducePow, Nat.reduceLeDiff, Nat.zero_le, pow_7, pow_18, pow_40, par, whileS_at fuel e, fz]
  rw [List.take_append_of_le_length (by simp), take_all (by simp)]
theorem numD_get {ys : List PyData} {j : Nat} {x : PyData} (h : (numD ys)[j]? = some x) : ∃ y, ys[j]? = some y ∧ x = .tuple [.int (j : Nat), y] := by
  unfold numD at h
  rw [List.getElem?_map, List.getElem?_zipIdx] at h
  cases q : ys[j]? with
  | none => rw [q] at h; cases h
  | some y =>
    rw [q] at h
    cases h
    exact ⟨y, rfl, by simp⟩
theorem slE_s {f : Ev} {a b : Eo} {e : Env} {M : Mem} {xs : List PyData} {lo hi : Option Int} (hf : f e M = .ok (.s xs) M) (ha : a e M = .ok lo M) (hb : b e M = .ok hi M) : slE f a b e M = .ok (.d (.list (cutD xs lo hi))) M := by
  unfold slE
  rw [hf, bind_ok, ha, bind_ok, hb, bind_ok]
  rfl
theorem someP_a {f : Ev} {e : Env} {M : Mem} {i : Int} (h : f e M = .ok (.d (.int i)) M) : someP f e M = .ok (some i) M := by
  unfold someP
  rw [h, bind_ok]
theorem cut_to {xs : List PyData} {k : Nat} : cutD xs none (some (k : Int)) = xs.take k := by
  unfold cutD
  rw [HT.sIx_none, HT.sIx_nat, List.drop_zero, Nat.sub_zero, ← List.take_eq_take_min]
theorem cut_nn {xs : List PyData} {k l : Nat} : cutD xs (some (k : Int)) (some (l : Int)) = (xs.drop (min k xs.length)).take (min l xs.length - min k xs.length) := by
  unfold cutD
  rw [HT.sIx_nat, HT.sIx_nat]
theorem enumI_a {f : Ev} {e : Env} {M M1 : Mem} {x : Vl} {xs : List PyData} (h : f e M = .ok x M1) (hx : walkOf x = some xs) (hl : xs.length ≤ 2 ^ 20) : enumI f e M = .ok (numD xs) M1 := by
  unfold enumI
  rw [h, bind_ok]
  simp only [hx]
  try rfl
/-- the numbers of the script, as they are drawn from -/
theorem cells_ok {ns : List Int} {k : Nat} (hk : 0 < k) (hk2 : k ≤ 63) (hn : ns.length ≤ 63) {M : Mem} :
    ∃ cs : List Int, m_cells [.s (ns.map PyData.int), .d (.int (k : Nat))] M = .ok (.d (.list (cs.map PyData.int))) M ∧ cs ≠ [] ∧ cs.length ≤ k := by
  have hcan : ∀ cs : List Int, ∀ x ∈ cs.map PyData.int, x.canLay0 = true := fun cs x hx => by
    obtain ⟨i, _, rfl⟩ := List.mem_map.mp hx
    rfl
  generalize hys : ((ns.map PyData.int).drop (min k (ns.map PyData.int).length)).take (min 63 (ns.map PyData.int).length - min k (ns.map PyData.int).length) = ys
  have hyl : ys.length ≤ 63 := by rw [← hys, List.length_take]; omega
  obtain ⟨e', M', el, cs, v3, v4, rfl, rfl, hl⟩ := forL_all (γ := tupT 2 (consT (setT 3) (consT (setT 4) nilT)))
    (g := asgS (op2 addV (op2 ixV (getV 2) (op2 modV (getV 3) (getV 1))) (op2 mulV (getV 4) (op2 addV (getV 3) (cst (.d (.int 2)))))) (subT (getV 2) (op2 modV (getV 3) (getV 1))))
    (fun j e M2 => ∃ (cs : List Int) (v3 v4 : Option Vl), e = [some (.s (ns.map PyData.int)), some (.d (.int (k : Nat))), some (.h M.length), v3, v4] ∧ M2 = M ++ [.lst (cs.map PyData.int)] ∧ cs.length = min k ns.length)
    (xs := numD ys) (e := [some (.s (ns.map PyData.int)), some (.d (.int (k : Nat))), some (.h M.length), none, none]) (M := M ++ [.lst ((ns.take k).map PyData.int)])
    (by
      rintro j x e M2 hx ⟨cs, v3, v4, rfl, rfl, hl⟩
      obtain ⟨y, hy, rfl⟩ := numD_get hx
      have hj : j < ys.length := lt_of_getL hy
      rw [← hys] at hy
      have hkn : k < ns.length := by
        rw [← hys, List.length_take, List.length_drop, List.length_map] at hj
        omega
      rw [List.getElem?_take, List.getElem?_drop, List.getElem?_map] at hy
      split at hy
      · obtain ⟨c, hc, rfl⟩ := Option.map_eq_some_iff.mp hy
        have hjk : j % k < cs.length := by
          have := Nat.mod_lt j hk
          omega
        have hjk' : j % k < (cs.map PyData.int).length := by simpa using hjk
        have hmod : modV (.d (.int (j : Nat))) (.d (.int (k : Nat))) (M ++ [.lst (cs.map PyData.int)]) = .ok (.d (.int ((j % k : Nat) : Int))) (M ++ [.lst (cs.map PyData.int)]) := by
          rw [mod_ii (by omega)]
          rfl
        have hix := ixV_h (M := M ++ [.lst (cs.map PyData.int)]) (m1_a rfl) (atI_nat hjk')
        rw [List.getElem_map] at hix
        have hput := putV_h (e := [some (.s (ns.map PyData.int)), some (.d (.int (k : Nat))), some (.h M.length), some (.d (.int (j : Nat))), some (.d (.int c))]) (M := M ++ [.lst (cs.map PyData.int)]) (y := .int (cs[j % k] + c * ((j : Int) + 2))) (m1_a rfl) (ixN_nat hjk')
        rw [m1_sa rfl] at hput
        refine ⟨[some (.s (ns.map PyData.int)), some (.d (.int (k : Nat))), some (.h M.length), some (.d (.int (j : Nat))), some (.d (.int c))], M ++ [.lst (cs.map PyData.int)], [some (.s (ns.map PyData.int)), some (.d (.int (k : Nat))), some (.h M.length), some (.d (.int (j : Nat))), some (.d (.int c))], M ++ [.lst ((cs.set (j % k) (cs[j % k] + c * ((j : Int) + 2))).map PyData.int)], ?_, ?_, cs.set (j % k) (cs[j % k] + c * ((j : Int) + 2)), _, _, rfl, rfl, by rw [List.length_set]; exact hl⟩
        · simp only [defM, startE, seqS_a, setS_a, bindS_ok, bindS_er, then_nx, then_rt, then_er, ifS_a, ifK_t, ifK_f, retS_a, dropS_a, asgS_a, asK_a, goG_ok, subT_a, nopS_a, getV_0, getV_s, cst_a, op2_a, o2a_ok, o2b_ok, opT_a, oTa_ok, oTb_ok, consA_a, cAa_ok, cAb_ok, nilA_a, callF_a, cFa_ok, callE_a, cEa_ok, newE_a, nwa_ok, datE_a, dta_ok, dispE_a, tupE_a, tpa_ok, asDs_a, datas, bind_ok, pur_ok, bool_b, leave_d, leave_nx, leave_er, ifE_a, ifa_t, ifa_f, notT_a, nta_ok, andT_a, ana_t, ana_f, orT_a, ora_t, ora_f, tstE_a, tsa_b, andE_a, aEa_t, aEa_f, orE_a, oEa_t, oEa_f, notE_a, nEa_ok, add_ii, sub_ii, gt_ii, lt_ii, ge_ii, le_ii, setT_a, consT_a, cTa_ok, nilT_a, tupT_a, seqT_t, seqT_l, forS_a, List.map_cons, List.map_nil, List.length_cons, List.length_nil, Nat.reduceAdd, Nat.reduceSub, Nat.zero_add, Nat.add_zero, List.replicate, List.cons_append, List.nil_append, List.append_nil, List.getElem?_cons_zero, List.getElem?_cons_succ, List.set_cons_zero, List.set_cons_succ, List.getElem?_nil, Option.map_some, Option.map_none, Option.bind_some, if_true, if_false, ite_true, ite_false, eq_self_iff_true, and_self, and_true, true_and, decide_true, decide_false, Bool.false_eq_true, Bool.not_true, Bool.not_false, sizeLine, Nat.reducePow, Nat.reduceLeDiff, Nat.zero_le, pow_7, pow_18, pow_40]
        · simp only [defM, startE, seqS_a, setS_a, bindS_ok, bindS_er, then_nx, then_rt, then_er, ifS_a, ifK_t, ifK_f, retS_a, dropS_a, asgS_a, asK_a, goG_ok, subT_a, nopS_a, getV_0, getV_s, cst_a, op2_a, o2a_ok, o2b_ok, opT_a, oTa_ok, oTb_ok, consA_a, cAa_ok, cAb_ok, nilA_a, callF_a, cFa_ok, callE_a, cEa_ok, newE_a, nwa_ok, datE_a, dta_ok, dispE_a, tupE_a, tpa_ok, asDs_a, datas, bind_ok, pur_ok, bool_b, leave_d, leave_nx, leave_er, ifE_a, ifa_t, ifa_f, notT_a, nta_ok, andT_a, ana_t, ana_f, orT_a, ora_t, ora_f, tstE_a, tsa_b, andE_a, aEa_t, aEa_f, orE_a, oEa_t, oEa_f, notE_a, nEa_ok, add_ii, sub_ii, gt_ii, lt_ii, ge_ii, le_ii, setT_a, consT_a, cTa_ok, nilT_a, tupT_a, seqT_t, seqT_l, forS_a, List.map_cons, List.map_nil, List.length_cons, List.length_nil, Nat.reduceAdd, Nat.reduceSub, Nat.zero_add, Nat.add_zero, List.replicate, List.cons_append, List.nil_append, List.append_nil, List.getElem?_cons_zero, List.getElem?_cons_succ, List.set_cons_zero, List.set_cons_succ, List.getElem?_nil, Option.map_some, Option.map_none, Option.bind_some, if_true, if_false, ite_true, ite_false, eq_self_iff_true, and_self, and_true, true_and, decide_true, decide_false, Bool.false_eq_true, Bool.not_true, Bool.not_false, sizeLine, Nat.reducePow, Nat.reduceLeDiff, Nat.zero_le, pow_7, pow_18, pow_40, hmod, hix, mul_ii (i := c) (j := (j : Int) + 2) (.inr (by omega)), hput, List.map_set]
      · cases hy)
    ⟨ns.take k, none, none, rfl, rfl, by simp⟩
  have h1 : slE (getV 0) noP (someP (getV 1)) [some (.s (ns.map PyData.int)), some (.d (.int (k : Nat))), none, none, none] M = .ok (.d (.list ((ns.take k).map PyData.int))) M := by
    rw [slE_s (xs := ns.map PyData.int) (lo := none) (hi := some (k : Int)) (by simp only [defM, startE, seqS_a, setS_a, bindS_ok, bindS_er, then_nx, then_rt, then_er, ifS_a, ifK_t, ifK_f, retS_a, dropS_a, asgS_a, asK_a, goG_ok, subT_a, nopS_a, getV_0, getV_s, cst_a, op2_a, o2a_ok, o2b_ok, opT_a, oTa_ok, oTb_ok, consA_a, cAa_ok, cAb_ok, nilA_a, callF_a, cFa_ok, callE_a, cEa_ok, newE_a, nwa_ok, datE_a, dta_ok, dispE_a, tupE_a, tpa_ok, asDs_a, datas, bind_ok, pur_ok, bool_b, leave_d, leave_nx, leave_er, ifE_a, ifa_t, ifa_f, notT_a, nta_ok, andT_a, ana_t, ana_f, orT_a, ora_t, ora_f, tstE_a, tsa_b, andE_a, aEa_t, aEa_f, orE_a, oEa_t, oEa_f, notE_a, nEa_ok, add_ii, sub_ii, gt_ii, lt_ii, ge_ii, le_ii, setT_a, consT_a, cTa_ok, nilT_a, tupT_a, seqT_t, seqT_l, forS_a, List.map_cons, List.map_nil, List.length_cons, List.length_nil, Nat.reduceAdd, Nat.reduceSub, Nat.zero_add, Nat.add_zero, List.replicate, List.cons_append, List.nil_append, List.append_nil, List.getElem?_cons_zero, List.getElem?_cons_succ, List.set_cons_zero, List.set_cons_succ, List.getElem?_nil, Option.map_some, Option.map_none, Option.bind_some, if_true, if_false, ite_true, ite_false, eq_self_iff_true, and_self, and_true, true_and, decide_true, decide_false, Bool.false_eq_true, Bool.not_true, Bool.not_false, sizeLine, Nat.reducePow, Nat.reduceLeDiff, Nat.zero_le, pow_7, pow_18, pow_40]) rfl (someP_a (by simp only [defM, startE, seqS_a, setS_a, bindS_ok, bindS_er, then_nx, then_rt, then_er, ifS_a, ifK_t, ifK_f, retS_a, dropS_a, asgS_a, asK_a, goG_ok, subT_a, nopS_a, getV_0, getV_s, cst_a, op2_a, o2a_ok, o2b_ok, opT_a, oTa_ok, oTb_ok, consA_a, cAa_ok, cAb_ok, nilA_a, callF_a, cFa_ok, callE_a, cEa_ok, newE_a, nwa_ok, datE_a, dta_ok, dispE_a, tupE_a, tpa_ok, asDs_a, datas, bind_ok, pur_ok, bool_b, leave_d, leave_nx, leave_er, ifE_a, ifa_t, ifa_f, notT_a, nta_ok, andT_a, ana_t, ana_f, orT_a, ora_t, ora_f, tstE_a, tsa_b, andE_a, aEa_t, aEa_f, orE_a, oEa_t, oEa_f, notE_a, nEa_ok, add_ii, sub_ii, gt_ii, lt_ii, ge_ii, le_ii, setT_a, consT_a, cTa_ok, nilT_a, tupT_a, seqT_t, seqT_l, forS_a, List.map_cons, List.map_nil, List.length_cons, List.length_nil, Nat.reduceAdd, Nat.reduceSub, Nat.zero_add, Nat.add_zero, List.replicate, List.cons_append, List.nil_append, List.append_nil, List.getElem?_cons_zero, List.getElem?_cons_succ, List.set_cons_zero, List.set_cons_succ, List.getElem?_nil, Option.map_some, Option.map_none, Option.bind_some, if_true, if_false, ite_true, ite_false, eq_self_iff_true, and_self, and_true, true_and, decide_true, decide_false, Bool.false_eq_true, Bool.not_true, Bool.not_false, sizeLine, Nat.reducePow, Nat.reduceLeDiff, Nat.zero_le, pow_7, pow_18, pow_40])), cut_to, List.map_take]
  have h2 : ∀ N : Mem, slE (getV 0) (someP (getV 1)) (someP (cst (.d (.int 63)))) [some (.s (ns.map PyData.int)), some (.d (.int (k : Nat))), some (.h M.length), none, none] N = .ok (.d (.list ys)) N := fun N => by
    rw [slE_s (xs := ns.map PyData.int) (lo := some (k : Int)) (hi := some ((63 : Nat) : Int)) (by simp only [defM, startE, seqS_a, setS_a, bindS_ok, bindS_er, then_nx, then_rt, then_er, ifS_a, ifK_t, ifK_f, retS_a, dropS_a, asgS_a, asK_a, goG_ok, subT_a, nopS_a, getV_0, getV_s, cst_a, op2_a, o2a_ok, o2b_ok, opT_a, oTa_ok, oTb_ok, consA_a, cAa_ok, cAb_ok, nilA_a, callF_a, cFa_ok, callE_a, cEa_ok, newE_a, nwa_ok, datE_a, dta_ok, dispE_a, tupE_a, tpa_ok, asDs_a, datas, bind_ok, pur_ok, bool_b, leave_d, leave_nx, leave_er, ifE_a, ifa_t, ifa_f, notT_a, nta_ok, andT_a, ana_t, ana_f, orT_a, ora_t, ora_f, tstE_a, tsa_b, andE_a, aEa_t, aEa_f, orE_a, oEa_t, oEa_f, notE_a, nEa_ok, add_ii, sub_ii, gt_ii, lt_ii, ge_ii, le_ii, setT_a, consT_a, cTa_ok, nilT_a, tupT_a, seqT_t, seqT_l, forS_a, List.map_cons, List.map_nil, List.length_cons, List.length_nil, Nat.reduceAdd, Nat.reduceSub, Nat.zero_add, Nat.add_zero, List.replicate, List.cons_append, List.nil_append, List.append_nil, List.getElem?_cons_zero, List.getElem?_cons_succ, List.set_cons_zero, List.set_cons_succ, List.getElem?_nil, Option.map_some, Option.map_none, Option.bind_some, if_true, if_false, ite_true, ite_false, eq_self_iff_true, and_self, and_true, true_and, decide_true, decide_false, Bool.false_eq_true, Bool.not_true, Bool.not_false, sizeLine, Nat.reducePow, Nat.reduceLeDiff, Nat.zero_le, pow_7, pow_18, pow_40]) (someP_a (by simp only [defM, startE, seqS_a, setS_a, bindS_ok, bindS_er, then_nx, then_rt, then_er, ifS_a, ifK_t, ifK_f, retS_a, dropS_a, asgS_a, asK_a, goG_ok, subT_a, nopS_a, getV_0, getV_s, cst_a, op2_a, o2a_ok, o2b_ok, opT_a, oTa_ok, oTb_ok, consA_a, cAa_ok, cAb_ok, nilA_a, callF_a, cFa_ok, callE_a, cEa_ok, newE_a, nwa_ok, datE_a, dta_ok, dispE_a, tupE_a, tpa_ok, asDs_a, datas, bind_ok, pur_ok, bool_b, leave_d, leave_nx, leave_er, ifE_a, ifa_t, ifa_f, notT_a, nta_ok, andT_a, ana_t, ana_f, orT_a, ora_t, ora_f, tstE_a, tsa_b, andE_a, aEa_t, aEa_f, orE_a, oEa_t, oEa_f, notE_a, nEa_ok, add_ii, sub_ii, gt_ii, lt_ii, ge_ii, le_ii, setT_a, consT_a, cTa_ok, nilT_a, tupT_a, seqT_t, seqT_l, forS_a, List.map_cons, List.map_nil, List.length_cons, List.length_nil, Nat.reduceAdd, Nat.reduceSub, Nat.zero_add, Nat.add_zero, List.replicate, List.cons_append, List.nil_append, List.append_nil, List.getElem?_cons_zero, List.getElem?_cons_succ, List.set_cons_zero, List.set_cons_succ, List.getElem?_nil, Option.map_some, Option.map_none, Option.bind_some, if_true, if_false, ite_true, ite_false, eq_self_iff_true, and_self, and_true, true_and, decide_true, decide_false, Bool.false_eq_true, Bool.not_true, Bool.not_false, sizeLine, Nat.reducePow, Nat.reduceLeDiff, Nat.zero_le, pow_7, pow_18, pow_40])) (someP_a (by simp only [defM, startE, seqS_a, setS_a, bindS_ok, bindS_er, then_nx, then_rt, then_er, ifS_a, ifK_t, ifK_f, retS_a, dropS_a, asgS_a, asK_a, goG_ok, subT_a, nopS_a, getV_0, getV_s, cst_a, op2_a, o2a_ok, o2b_ok, opT_a, oTa_ok, oTb_ok, consA_a, cAa_ok, cAb_ok, nilA_a, callF_a, cFa_ok, callE_a, cEa_ok, newE_a, nwa_ok, datE_a, dta_ok, dispE_a, tupE_a, tpa_ok, asDs_a, datas, bind_ok, pur_ok, bool_b, leave_d, leave_nx, leave_er, ifE_a, ifa_t, ifa_f, notT_a, nta_ok, andT_a, ana_t, ana_f, orT_a, ora_t, ora_f, tstE_a, tsa_b, andE_a, aEa_t, aEa_f, orE_a, oEa_t, oEa_f, notE_a, nEa_ok, add_ii, sub_ii, gt_ii, lt_ii, ge_ii, le_ii, setT_a, consT_a, cTa_ok, nilT_a, tupT_a, seqT_t, seqT_l, forS_a, List.map_cons, List.map_nil, List.length_cons, List.length_nil, Nat.reduceAdd, Nat.reduceSub, Nat.zero_add, Nat.add_zero, List.replicate, List.cons_append, List.nil_append, List.append_nil, List.getElem?_cons_zero, List.getElem?_cons_succ, List.set_cons_zero, List.set_cons_succ, List.getElem?_nil, Option.map_some, Option.map_none, Option.bind_some, if_true, if_false, ite_true, ite_false, eq_self_iff_true, and_self, and_true, true_and, decide_true, decide_false, Bool.false_eq_true, Bool.not_true, Bool.not_false, sizeLine, Nat.reducePow, Nat.reduceLeDiff, Nat.zero_le, pow_7, pow_18, pow_40]; rfl)), cut_nn, hys]
  have fz := freeze_at (i := 2) (e := [some (.s (ns.map PyData.int)), some (.d (.int (k : Nat))), some (.h M.length), v3, v4]) (M := M ++ [.lst (cs.map PyData.int)]) rfl (m1_a rfl)
  rw [m1_sa rfl] at fz
  unfold m_cells g_cells
  by_cases hc : cs = []
  · subst hc
    refine ⟨[0], ?_, by simp, by simp; omega⟩
    rw [List.map_nil] at el fz
    simp only [defM, startE, seqS_a, setS_a, bindS_ok, bindS_er, then_nx, then_rt, then_er, ifS_a, ifK_t, ifK_f, retS_a, dropS_a, asgS_a, asK_a, goG_ok, subT_a, nopS_a, getV_0, getV_s, cst_a, op2_a, o2a_ok, o2b_ok, opT_a, oTa_ok, oTb_ok, consA_a, cAa_ok, cAb_ok, nilA_a, callF_a, cFa_ok, callE_a, cEa_ok, newE_a, nwa_ok, datE_a, dta_ok, dispE_a, tupE_a, tpa_ok, asDs_a, datas, bind_ok, pur_ok, bool_b, leave_d, leave_nx, leave_er, ifE_a, ifa_t, ifa_f, notT_a, nta_ok, andT_a, ana_t, ana_f, orT_a, ora_t, ora_f, tstE_a, tsa_b, andE_a, aEa_t, aEa_f, orE_a, oEa_t, oEa_f, notE_a, nEa_ok, add_ii, sub_ii, gt_ii, lt_ii, ge_ii, le_ii, setT_a, consT_a, cTa_ok, nilT_a, tupT_a, seqT_t, seqT_l, forS_a, List.map_cons, List.map_nil, List.length_cons, List.length_nil, Nat.reduceAdd, Nat.reduceSub, Nat.zero_add, Nat.add_zero, List.replicate, List.cons_append, List.nil_append, List.append_nil, List.getElem?_cons_zero, List.getElem?_cons_succ, List.set_cons_zero, List.set_cons_succ, List.getElem?_nil, Option.map_some, Option.map_none, Option.bind_some, if_true, if_false, ite_true, ite_false, eq_self_iff_true, and_self, and_true, true_and, decide_true, decide_false, Bool.false_eq_true, Bool.not_true, Bool.not_false, sizeLine, Nat.reducePow, Nat.reduceLeDiff, Nat.zero_le, pow_7, pow_18, pow_40, listE_a h1 rfl, enumI_a (h2 _) rfl (by omega), el, fz, ne_nil (M := M ++ [.gone]) (a := .d (.list [])) (xs := []) rfl (by simp), List.isEmpty_nil]
    rw [List.take_append_of_le_length (by simp), take_all (by simp)]
  · have hce : (cs.map PyData.int).isEmpty = false := by cases cs with
      | nil => exact absurd rfl hc
      | cons _ _ => rfl
    refine ⟨cs, ?_, hc, by omega⟩
    simp only [defM, startE, seqS_a, setS_a, bindS_ok, bindS_er, then_nx, then_rt, then_er, ifS_a, ifK_t, ifK_f, retS_a, dropS_a, asgS_a, asK_a, goG_ok, subT_a, nopS_a, getV_0, getV_s, cst_a, op2_a, o2a_ok, o2b_ok, opT_a, oTa_ok, oTb_ok, consA_a, cAa_ok, cAb_ok, nilA_a, callF_a, cFa_ok, callE_a, cEa_ok, newE_a, nwa_ok, datE_a, dta_ok, dispE_a, tupE_a, tpa_ok, asDs_a, datas, bind_ok, pur_ok, bool_b, leave_d, leave_nx, leave_er, ifE_a, ifa_t, ifa_f, notT_a, nta_ok, andT_a, ana_t, ana_f, orT_a, ora_t, ora_f, tstE_a, tsa_b, andE_a, aEa_t, aEa_f, orE_a, oEa_t, oEa_f, notE_a, nEa_ok, add_ii, sub_ii, gt_ii, lt_ii, ge_ii, le_ii, setT_a, consT_a, cTa_ok, nilT_a, tupT_a, seqT_t, seqT_l, forS_a, List.map_cons, List.map_nil, List.length_cons, List.length_nil, Nat.reduceAdd, Nat.reduceSub, Nat.zero_add, Nat.add_zero, List.replicate, List.cons_append, List.nil_append, List.append_nil, List.getElem?_cons_zero, List.getElem?_cons_succ, List.set_cons_zero, List.set_cons_succ, List.getElem?_nil, Option.map_some, Option.map_none, Option.bind_some, if_true, if_false, ite_true, ite_false, eq_self_iff_true, and_self, and_true, true_and, decide_true, decide_false, Bool.false_eq_true, Bool.not_true, Bool.not_false, sizeLine, Nat.reducePow, Nat.reduceLeDiff, Nat.zero_le, pow_7, pow_18, pow_40, listE_a h1 rfl, enumI_a (h2 _) rfl (by omega), el, fz, ne_nil (M := M ++ [.gone]) (a := .d (.list (cs.map PyData.int))) rfl (hcan cs), hce]
    rw [List.take_append_of_le_length (by simp), take_all (by simp)]
end C
end DL
namespace DL
open PySem PySem.Spec L2
theorem abs_i {i : Int} {M : Mem} : DL.absV [.d (.int i)] M = .ok (.d (.int (if i < 0 then -i else i))) M := Eq.trans rfl rfl
theorem int_b {b : Bool} {M : Mem} : intV [.d (.bool b)] M = .ok (.d (.int (if b then 1 else 0))) M := Eq.trans rfl rfl
theorem eq_ii {i j : Int} {M : Mem} : eqV (.d (.int i)) (.d (.int j)) M = .ok (.d (.bool (i == j))) M := Eq.trans rfl rfl
theorem ne_ii {i j : Int} {M : Mem} : neV (.d (.int i)) (.d (.int j)) M = .ok (.d (.bool (!(i == j)))) M := Eq.trans rfl rfl
theorem eq_bb {i j : Bool} {M : Mem} : eqV (.d (.bool i)) (.d (.bool j)) M = .ok (.d (.bool (i == j))) M := Eq.trans rfl rfl
theorem ne_bb {i j : Bool} {M : Mem} : neV (.d (.bool i)) (.d (.bool j)) M = .ok (.d (.bool (!(i == j)))) M := Eq.trans rfl rfl
theorem eq_ss {i j : Str} {M : Mem} : eqV (.d (.str i)) (.d (.str j)) M = .ok (.d (.bool (decide (i = j)))) M := Eq.trans rfl rfl
theorem is_nn {M : Mem} : isV (.d .none) (.d .none) M = .ok (.d (.bool true)) M := Eq.trans rfl rfl
theorem is_n {x : PyData} {M : Mem} : isV (.d x) (.d .none) M = .ok (.d (.bool (match x with | .none => true | _ => false))) M := by cases x <;> rfl
/-- a list or a tuple -/
def isSq : PyData → Bool
  | .list _ => true
  | .tuple _ => true
  | _ => false
def isDic : PyData → Bool
  | .dict _ => true
  | _ => false
theorem isiT_lt {f : Ev} {e : Env} {M M1 : Mem} {x : PyData} (h : f e M = .ok (.d x) M1) (hx : isDic x = false) : isiTE f (consA (cst (.t "list")) (consA (cst (.t "tuple")) nilA)) e M = .ok (.d (.bool (isSq x))) M1 := by
  unfold isiTE
  rw [h, bind_ok]
  cases x with
  | dict _ => cases hx
  | _ => rfl
def isSb : PyData → Bool
  | .str _ => true
  | .bool _ => true
  | _ => false
theorem isiT_sb {f : Ev} {e : Env} {M M1 : Mem} {x : PyData} (h : f e M = .ok (.d x) M1) (hx : isDic x = false) : isiTE f (consA (cst (.t "str")) (consA (cst (.t "bool")) nilA)) e M = .ok (.d (.bool (isSb x))) M1 := by
  unfold isiTE
  rw [h, bind_ok]
  cases x with
  | dict _ => cases hx
  | _ => rfl
theorem isi_l {x : PyData} {M : Mem} (hx : isDic x = false) : isiV [.d x, .t "list"] M = .ok (.d (.bool (match x with | .list _ => true | _ => false))) M := by
  cases x with
  | dict _ => cases hx
  | _ => rfl
theorem isi_t {x : PyData} {M : Mem} (hx : isDic x = false) : isiV [.d x, .t "tuple"] M = .ok (.d (.bool (match x with | .tuple _ => true | _ => false))) M := by
  cases x with
  | dict _ => cases hx
  | _ => rfl
theorem isi_i {x : PyData} {M : Mem} (hx : isDic x = false) : isiV [.d x, .t "int"] M = .ok (.d (.bool (match x with | .int _ => true | .bool _ => true | _ => false))) M := by
  cases x with
  | dict _ => cases hx
  | _ => rfl
theorem isi_b {x : PyData} {M : Mem} (hx : isDic x = false) : isiV [.d x, .t "bool"] M = .ok (.d (.bool (match x with | .bool _ => true | _ => false))) M := by
  cases x with
  | dict _ => cases hx
  | _ => rfl
theorem lcE_at {vs : List Nat} {fi : Ei} {γ : Tg} {t : Env → Mem → Res Bool} {h : Ev} {e : Env} {M M1 : Mem} {xs : List PyData} (hf : fi e M = .ok xs M1) : lcE vs fi γ t h e M = lcL γ t h (ewipe e vs) xs [] M1 := by
  unfold lcE
  rw [hf, bind_ok]
theorem all_true {α : Type} {l : List α} {M : Mem} : allV [.d (.list (l.map fun _ => PyData.bool true))] M = .ok (.d (.bool true)) M := by
  have : l.map (fun _ => PyData.bool true) = (l.map fun _ => true).map PyData.bool := by rw [List.map_map]; rfl
  unfold allV
  rw [this]
  simp only [rdOf, lstOf, Option.bind_some, blsOf_map]
  simp
theorem seqI_a {f : Ev} {e : Env} {M M1 : Mem} {x : Vl} {xs : List PyData} (h : f e M = .ok x M1) (hx : walkOf x = some xs) : seqI f e M = .ok xs M1 := by
  unfold seqI
  rw [h, bind_ok]
  simp only [hx]
theorem zipI_a {f g : Ev} {e : Env} {M M1 M2 : Mem} {x y : Vl} {p : List PyData × List PyData} (h : f e M = .ok x M1) (h2 : g e M1 = .ok y M2) (hx : zipOf x y = some p) : zipI f g e M = .ok (zipD p.1 p.2) M2 := by
  unfold zipI
  rw [h, bind_ok, h2, bind_ok]
  simp only [hx]
theorem rngI1_a {f : Ev} {e : Env} {M M1 : Mem} {i : Int} (h : f e M = .ok (.d (.int i)) M1) (hi : -(2 ^ 62) ≤ i ∧ i < 2 ^ 62) : rngI1 f e M = .ok (rangeD 0 i) M1 := by
  unfold rngI1
  rw [h, bind_ok]
  exact if_pos hi
theorem rgE1_a {f : Ev} {e : Env} {M M1 : Mem} {i : Int} (h : f e M = .ok (.d (.int i)) M1) (h0 : 0 ≤ i) (hi : i ≤ 2 ^ 24) : rgE1 f e M = .ok (rangeD 0 i) M1 := by
  unfold rgE1
  rw [h, bind_ok]
  refine if_pos ?_
  unfold rgOk
  simp only [decide_eq_true_eq]
  omega
theorem rangeD_nat (n : Nat) : rangeD 0 (n : Int) = ((List.range n).map fun (i : Nat) => PyData.int i) := by
  unfold rangeD
  simp
theorem zipD_self {xs : List PyData} {x : PyData} (h : x ∈ zipD xs xs) : ∃ y ∈ xs, x = .tuple [y, y] := by
  unfold zipD at h
  obtain ⟨p, hp, rfl⟩ := List.mem_map.mp h
  have : ∀ (l : List PyData) (p : PyData × PyData), p ∈ l.zip l → p.1 = p.2 ∧ p.1 ∈ l := by
    intro l
    induction l with
    | nil => intro p h; cases h
    | cons a l ih =>
      intro p h
      rw [List.zip_cons_cons] at h
      rcases List.mem_cons.mp h with h | h
      · subst h; exact ⟨rfl, List.mem_cons_self⟩
      · exact ⟨(ih p h).1, List.mem_cons_of_mem _ (ih p h).2⟩
  obtain ⟨h1, h2⟩ := this xs p hp
  exact ⟨p.1, h2, by rw [← h1]⟩
/-- trees of whole numbers, truth values, texts and None -/
def leafB : PyData → Bool
  | .int _ => true
  | .bool _ => true
  | .none => true
  | .str _ => true
  | _ => false
def It : Nat → PyData → Prop
  | 0, x => leafB x = true
  | k + 1, x => leafB x = true ∨ ∃ xs, (x = .list xs ∨ x = .tuple xs) ∧ xs.length ≤ 2 ^ 20 ∧ ∀ y ∈ xs, It k y
theorem It.up {x : PyData} : ∀ {k : Nat}, It k x → It (k + 1) x := by
  intro k
  induction k generalizing x with
  | zero => exact fun h => .inl h
  | succ k ih =>
    rintro (h | ⟨xs, h1, h2, h3⟩)
    · exact .inl h
    · exact .inr ⟨xs, h1, h2, fun y hy => ih (h3 y hy)⟩
theorem It.mono {x : PyData} {j k : Nat} (h : It j x) (hk : j ≤ k) : It k x := by
  induction hk with
  | refl => exact h
  | step _ ih => exact ih.up
/-- the same with lists in place of tuples -/
def Tr : Nat → PyData → PyData → Prop
  | 0, x, y => ∃ i, x = .int i ∧ y = .int i
  | k + 1, x, y => (∃ i, x = .int i ∧ y = .int i) ∨ ∃ (xs : List PyData) (F : PyData → PyData), (x = .list xs ∨ x = .tuple xs) ∧ y = .list (xs.map F) ∧ xs.length ≤ 2 ^ 20 ∧ ∀ z ∈ xs, Tr k z (F z)
namespace C
theorem box_ok {cs : List Int} {k : Nat} (hk : k < cs.length) (hl : cs.length ≤ 2 ^ 20) {M : Mem} : ∃ o, m_box [.d (.list (cs.map PyData.int)), .d (.int (k : Nat))] M = .ok (.h M.length) (M ++ [o]) ∧ Bx 0 o := by
  have hk' : k < (cs.map PyData.int).length := by simpa using hk
  have hix := ixV_l (M := M) (atI_nat hk')
  rw [List.getElem_map] at hix
  have hlt : ((k : Int) < (((cs.map PyData.int).length : Nat) : Int)) := by omega
  generalize hA : (if cs[k] < 0 then -cs[k] else cs[k]) = A
  have hA0 : 0 ≤ A := by rw [← hA]; split <;> omega
  generalize hb : (if (decide (1000000000000000000 ≤ A)) = true then (1 : Int) else 0) = b
  have hb0 : 0 ≤ b ∧ b ≤ 1 := by rw [← hb]; split <;> omega
  refine ⟨.lst [.int (A * b), .int (cs[k] % 2305843009213693951 + 7919 * (k : Int) + 55), .int 0], ?_, ⟨_, _, _, rfl, Int.mul_nonneg hA0 hb0.1, by omega, by omega, by omega, by omega⟩⟩
  unfold m_box g_box
  simp only [defM, startE, seqS_a, setS_a, bindS_ok, bindS_er, then_nx, then_rt, then_er, ifS_a, ifK_t, ifK_f, retS_a, dropS_a, asgS_a, asK_a, goG_ok, subT_a, nopS_a, getV_0, getV_s, cst_a, op2_a, o2a_ok, o2b_ok, opT_a, oTa_ok, oTb_ok, consA_a, cAa_ok, cAb_ok, nilA_a, callF_a, cFa_ok, callE_a, cEa_ok, newE_a, nwa_ok, datE_a, dta_ok, dispE_a, tupE_a, tpa_ok, asDs_a, datas, bind_ok, pur_ok, bool_b, leave_d, leave_nx, leave_er, ifE_a, ifa_t, ifa_f, notT_a, nta_ok, andT_a, ana_t, ana_f, orT_a, ora_t, ora_f, tstE_a, tsa_b, andE_a, aEa_t, aEa_f, orE_a, oEa_t, oEa_f, notE_a, nEa_ok, add_ii, sub_ii, gt_ii, lt_ii, ge_ii, le_ii, setT_a, consT_a, cTa_ok, nilT_a, tupT_a, seqT_t, seqT_l, forS_a, List.map_cons, List.map_nil, List.length_cons, List.length_nil, Nat.reduceAdd, Nat.reduceSub, Nat.zero_add, Nat.add_zero, List.replicate, List.cons_append, List.nil_append, List.append_nil, List.getElem?_cons_zero, List.getElem?_cons_succ, List.set_cons_zero, List.set_cons_succ, List.getElem?_nil, Option.map_some, Option.map_none, Option.bind_some, if_true, if_false, ite_true, ite_false, eq_self_iff_true, and_self, and_true, true_and, decide_true, decide_false, Bool.false_eq_true, Bool.not_true, Bool.not_false, sizeLine, Nat.reducePow, Nat.reduceLeDiff, Nat.zero_le, pow_7, pow_18, pow_40, len_l, hlt, hix, abs_i, int_b, hA, hb, mul_ii (i := A) (j := b) (.inr (by omega)), mod_ii (show (0 : Int) < 2305843009213693951 by decide), mul_ii (i := 7919) (j := (k : Int)) (.inl (by decide))]
  rw [leave_h (by omega), take_all (by simp)]
theorem lists_ok : ∀ (f : Nat) (x y : PyData) (M : Mem), Tr f x y → m_lists (f + 1) [.d x] M = .ok (.d y) M := by
  intro f
  induction f with
  | zero =>
    rintro x y M ⟨i, rfl, rfl⟩
    unfold m_lists g_lists
    simp only [defM, startE, seqS_a, setS_a, bindS_ok, bindS_er, then_nx, then_rt, then_er, ifS_a, ifK_t, ifK_f, retS_a, dropS_a, asgS_a, asK_a, goG_ok, subT_a, nopS_a, getV_0, getV_s, cst_a, op2_a, o2a_ok, o2b_ok, opT_a, oTa_ok, oTb_ok, consA_a, cAa_ok, cAb_ok, nilA_a, callF_a, cFa_ok, callE_a, cEa_ok, newE_a, nwa_ok, datE_a, dta_ok, dispE_a, tupE_a, tpa_ok, asDs_a, datas, bind_ok, pur_ok, bool_b, leave_d, leave_nx, leave_er, ifE_a, ifa_t, ifa_f, notT_a, nta_ok, andT_a, ana_t, ana_f, orT_a, ora_t, ora_f, tstE_a, tsa_b, andE_a, aEa_t, aEa_f, orE_a, oEa_t, oEa_f, notE_a, nEa_ok, add_ii, sub_ii, gt_ii, lt_ii, ge_ii, le_ii, setT_a, consT_a, cTa_ok, nilT_a, tupT_a, seqT_t, seqT_l, forS_a, List.map_cons, List.map_nil, List.length_cons, List.length_nil, Nat.reduceAdd, Nat.reduceSub, Nat.zero_add, Nat.add_zero, List.replicate, List.cons_append, List.nil_append, List.append_nil, List.getElem?_cons_zero, List.getElem?_cons_succ, List.set_cons_zero, List.set_cons_succ, List.getElem?_nil, Option.map_some, Option.map_none, Option.bind_some, if_true, if_false, ite_true, ite_false, eq_self_iff_true, and_self, and_true, true_and, decide_true, decide_false, Bool.false_eq_true, Bool.not_true, Bool.not_false, sizeLine, Nat.reducePow, Nat.reduceLeDiff, Nat.zero_le, pow_7, pow_18, pow_40, isiT_lt (f := getV 0) (e := [some (.d (.int i)), none]) (M := M) (M1 := M) (x := .int i) rfl rfl, isSq]
    rw [take_all (by simp)]
  | succ f ih =>
    rintro x y M (⟨i, rfl, rfl⟩ | ⟨xs, F, hx, rfl, hl, hz⟩)
    · unfold m_lists g_lists
      simp only [defM, startE, seqS_a, setS_a, bindS_ok, bindS_er, then_nx, then_rt, then_er, ifS_a, ifK_t, ifK_f, retS_a, dropS_a, asgS_a, asK_a, goG_ok, subT_a, nopS_a, getV_0, getV_s, cst_a, op2_a, o2a_ok, o2b_ok, opT_a, oTa_ok, oTb_ok, consA_a, cAa_ok, cAb_ok, nilA_a, callF_a, cFa_ok, callE_a, cEa_ok, newE_a, nwa_ok, datE_a, dta_ok, dispE_a, tupE_a, tpa_ok, asDs_a, datas, bind_ok, pur_ok, bool_b, leave_d, leave_nx, leave_er, ifE_a, ifa_t, ifa_f, notT_a, nta_ok, andT_a, ana_t, ana_f, orT_a, ora_t, ora_f, tstE_a, tsa_b, andE_a, aEa_t, aEa_f, orE_a, oEa_t, oEa_f, notE_a, nEa_ok, add_ii, sub_ii, gt_ii, lt_ii, ge_ii, le_ii, setT_a, consT_a, cTa_ok, nilT_a, tupT_a, seqT_t, seqT_l, forS_a, List.map_cons, List.map_nil, List.length_cons, List.length_nil, Nat.reduceAdd, Nat.reduceSub, Nat.zero_add, Nat.add_zero, List.replicate, List.cons_append, List.nil_append, List.append_nil, List.getElem?_cons_zero, List.getElem?_cons_succ, List.set_cons_zero, List.set_cons_succ, List.getElem?_nil, Option.map_some, Option.map_none, Option.bind_some, if_true, if_false, ite_true, ite_false, eq_self_iff_true, and_self, and_true, true_and, decide_true, decide_false, Bool.false_eq_true, Bool.not_true, Bool.not_false, sizeLine, Nat.reducePow, Nat.reduceLeDiff, Nat.zero_le, pow_7, pow_18, pow_40, isiT_lt (f := getV 0) (e := [some (.d (.int i)), none]) (M := M) (M1 := M) (x := .int i) rfl rfl, isSq]
      rw [take_all (by simp)]
    · have hw : walkOf (.d x) = some xs := by rcases hx with rfl | rfl <;> rfl
      have hs : isSq x = true := by rcases hx with rfl | rfl <;> rfl
      have hd : isDic x = false := by rcases hx with rfl | rfl <;> rfl
      have hlc : lcE [1] (seqI (getV 0)) (setT 1) (fun _ M => .ok true M) (callF 1 (m_lists (f + 1)) (consA (getV 1) nilA)) [some (.d x), none] M = .ok (xs.map F) M := by
        rw [lcE_at (seqI_a (x := .d x) (M1 := M) (by simp only [defM, startE, seqS_a, setS_a, bindS_ok, bindS_er, then_nx, then_rt, then_er, ifS_a, ifK_t, ifK_f, retS_a, dropS_a, asgS_a, asK_a, goG_ok, subT_a, nopS_a, getV_0, getV_s, cst_a, op2_a, o2a_ok, o2b_ok, opT_a, oTa_ok, oTb_ok, consA_a, cAa_ok, cAb_ok, nilA_a, callF_a, cFa_ok, callE_a, cEa_ok, newE_a, nwa_ok, datE_a, dta_ok, dispE_a, tupE_a, tpa_ok, asDs_a, datas, bind_ok, pur_ok, bool_b, leave_d, leave_nx, leave_er, ifE_a, ifa_t, ifa_f, notT_a, nta_ok, andT_a, ana_t, ana_f, orT_a, ora_t, ora_f, tstE_a, tsa_b, andE_a, aEa_t, aEa_f, orE_a, oEa_t, oEa_f, notE_a, nEa_ok, add_ii, sub_ii, gt_ii, lt_ii, ge_ii, le_ii, setT_a, consT_a, cTa_ok, nilT_a, tupT_a, seqT_t, seqT_l, forS_a, List.map_cons, List.map_nil, List.length_cons, List.length_nil, Nat.reduceAdd, Nat.reduceSub, Nat.zero_add, Nat.add_zero, List.replicate, List.cons_append, List.nil_append, List.append_nil, List.getElem?_cons_zero, List.getElem?_cons_succ, List.set_cons_zero, List.set_cons_succ, List.getElem?_nil, Option.map_some, Option.map_none, Option.bind_some, if_true, if_false, ite_true, ite_false, eq_self_iff_true, and_self, and_true, true_and, decide_true, decide_false, Bool.false_eq_true, Bool.not_true, Bool.not_false, sizeLine, Nat.reducePow, Nat.reduceLeDiff, Nat.zero_le, pow_7, pow_18, pow_40]) hw)]
        have := lcL_map (γ := setT 1) (t := fun _ M => .ok true M) (h := callF 1 (m_lists (f + 1)) (consA (getV 1) nilA)) (ew := ewipe [some (.d x), none] [1]) (M := M) F xs [] (by have : sizeLine = 2 ^ 24 := rfl; simp; omega) (fun z hz' => by
          refine ⟨[some (.d x), some (.d z)], rfl, rfl, ?_⟩
          simp only [defM, startE, seqS_a, setS_a, bindS_ok, bindS_er, then_nx, then_rt, then_er, ifS_a, ifK_t, ifK_f, retS_a, dropS_a, asgS_a, asK_a, goG_ok, subT_a, nopS_a, getV_0, getV_s, cst_a, op2_a, o2a_ok, o2b_ok, opT_a, oTa_ok, oTb_ok, consA_a, cAa_ok, cAb_ok, nilA_a, callF_a, cFa_ok, callE_a, cEa_ok, newE_a, nwa_ok, datE_a, dta_ok, dispE_a, tupE_a, tpa_ok, asDs_a, datas, bind_ok, pur_ok, bool_b, leave_d, leave_nx, leave_er, ifE_a, ifa_t, ifa_f, notT_a, nta_ok, andT_a, ana_t, ana_f, orT_a, ora_t, ora_f, tstE_a, tsa_b, andE_a, aEa_t, aEa_f, orE_a, oEa_t, oEa_f, notE_a, nEa_ok, add_ii, sub_ii, gt_ii, lt_ii, ge_ii, le_ii, setT_a, consT_a, cTa_ok, nilT_a, tupT_a, seqT_t, seqT_l, forS_a, List.map_cons, List.map_nil, List.length_cons, List.length_nil, Nat.reduceAdd, Nat.reduceSub, Nat.zero_add, Nat.add_zero, List.replicate, List.cons_append, List.nil_append, List.append_nil, List.getElem?_cons_zero, List.getElem?_cons_succ, List.set_cons_zero, List.set_cons_succ, List.getElem?_nil, Option.map_some, Option.map_none, Option.bind_some, if_true, if_false, ite_true, ite_false, eq_self_iff_true, and_self, and_true, true_and, decide_true, decide_false, Bool.false_eq_true, Bool.not_true, Bool.not_false, sizeLine, Nat.reducePow, Nat.reduceLeDiff, Nat.zero_le, pow_7, pow_18, pow_40, ih z (F z) M (hz z hz')])
        exact this
      unfold m_lists g_lists
      simp only [defM, startE, seqS_a, setS_a, bindS_ok, bindS_er, then_nx, then_rt, then_er, ifS_a, ifK_t, ifK_f, retS_a, dropS_a, asgS_a, asK_a, goG_ok, subT_a, nopS_a, getV_0, getV_s, cst_a, op2_a, o2a_ok, o2b_ok, opT_a, oTa_ok, oTb_ok, consA_a, cAa_ok, cAb_ok, nilA_a, callF_a, cFa_ok, callE_a, cEa_ok, newE_a, nwa_ok, datE_a, dta_ok, dispE_a, tupE_a, tpa_ok, asDs_a, datas, bind_ok, pur_ok, bool_b, leave_d, leave_nx, leave_er, ifE_a, ifa_t, ifa_f, notT_a, nta_ok, andT_a, ana_t, ana_f, orT_a, ora_t, ora_f, tstE_a, tsa_b, andE_a, aEa_t, aEa_f, orE_a, oEa_t, oEa_f, notE_a, nEa_ok, add_ii, sub_ii, gt_ii, lt_ii, ge_ii, le_ii, setT_a, consT_a, cTa_ok, nilT_a, tupT_a, seqT_t, seqT_l, forS_a, List.map_cons, List.map_nil, List.length_cons, List.length_nil, Nat.reduceAdd, Nat.reduceSub, Nat.zero_add, Nat.add_zero, List.replicate, List.cons_append, List.nil_append, List.append_nil, List.getElem?_cons_zero, List.getElem?_cons_succ, List.set_cons_zero, List.set_cons_succ, List.getElem?_nil, Option.map_some, Option.map_none, Option.bind_some, if_true, if_false, ite_true, ite_false, eq_self_iff_true, and_self, and_true, true_and, decide_true, decide_false, Bool.false_eq_true, Bool.not_true, Bool.not_false, sizeLine, Nat.reducePow, Nat.reduceLeDiff, Nat.zero_le, pow_7, pow_18, pow_40, isiT_lt (f := getV 0) (e := [some (.d x), none]) (M := M) (M1 := M) (x := x) rfl hd, hs, hlc]
      rw [take_all (by simp)]
theorem same_ok : ∀ (f : Nat) (x : PyData) (M : Mem), It f x → m_same (f + 1) [.d x, .d x] M = .ok (.d (.bool true)) M := by
  have eq_nn : ∀ M : Mem, eqV (.d .none) (.d .none) M = .ok (.d (.bool true)) M := fun M => rfl
  have leaf : ∀ (self : Fn) (x : PyData) (M : Mem), leafB x = true → defM 4 0 (g_same self) [.d x, .d x] M = .ok (.d (.bool true)) M := by
    intro self x M hx
    unfold g_same
    cases x with
    | int i =>
      simp only [defM, startE, seqS_a, setS_a, bindS_ok, bindS_er, then_nx, then_rt, then_er, ifS_a, ifK_t, ifK_f, retS_a, dropS_a, asgS_a, asK_a, goG_ok, subT_a, nopS_a, getV_0, getV_s, cst_a, op2_a, o2a_ok, o2b_ok, opT_a, oTa_ok, oTb_ok, consA_a, cAa_ok, cAb_ok, nilA_a, callF_a, cFa_ok, callE_a, cEa_ok, newE_a, nwa_ok, datE_a, dta_ok, dispE_a, tupE_a, tpa_ok, asDs_a, datas, bind_ok, pur_ok, bool_b, leave_d, leave_nx, leave_er, ifE_a, ifa_t, ifa_f, notT_a, nta_ok, andT_a, ana_t, ana_f, orT_a, ora_t, ora_f, tstE_a, tsa_b, andE_a, aEa_t, aEa_f, orE_a, oEa_t, oEa_f, notE_a, nEa_ok, add_ii, sub_ii, gt_ii, lt_ii, ge_ii, le_ii, setT_a, consT_a, cTa_ok, nilT_a, tupT_a, seqT_t, seqT_l, forS_a, List.map_cons, List.map_nil, List.length_cons, List.length_nil, Nat.reduceAdd, Nat.reduceSub, Nat.zero_add, Nat.add_zero, List.replicate, List.cons_append, List.nil_append, List.append_nil, List.getElem?_cons_zero, List.getElem?_cons_succ, List.set_cons_zero, List.set_cons_succ, List.getElem?_nil, Option.map_some, Option.map_none, Option.bind_some, if_true, if_false, ite_true, ite_false, eq_self_iff_true, and_self, and_true, true_and, decide_true, decide_false, Bool.false_eq_true, Bool.not_true, Bool.not_false, sizeLine, Nat.reducePow, Nat.reduceLeDiff, Nat.zero_le, pow_7, pow_18, pow_40, isiT_lt (f := getV 1) (e := [some (.d (.int i)), some (.d (.int i)), none, none]) (M := M) (M1 := M) (x := (.int i)) rfl rfl, isSq, isiT_sb (f := getV 1) (e := [some (.d (.int i)), some (.d (.int i)), none, none]) (M := M) (M1 := M) (x := (.int i)) rfl rfl, isSb, isi_i (x := (.int i)) rfl, isi_b (x := (.int i)) rfl, eq_ii, eq_bb, eq_ss, is_n, beq_self_eq_true]
      rw [take_all (by simp)]
    | bool i =>
      simp only [defM, startE, seqS_a, setS_a, bindS_ok, bindS_er, then_nx, then_rt, then_er, ifS_a, ifK_t, ifK_f, retS_a, dropS_a, asgS_a, asK_a, goG_ok, subT_a, nopS_a, getV_0, getV_s, cst_a, op2_a, o2a_ok, o2b_ok, opT_a, oTa_ok, oTb_ok, consA_a, cAa_ok, cAb_ok, nilA_a, callF_a, cFa_ok, callE_a, cEa_ok, newE_a, nwa_ok, datE_a, dta_ok, dispE_a, tupE_a, tpa_ok, asDs_a, datas, bind_ok, pur_ok, bool_b, leave_d, leave_nx, leave_er, ifE_a, ifa_t, ifa_f, notT_a, nta_ok, andT_a, ana_t, ana_f, orT_a, ora_t, ora_f, tstE_a, tsa_b, andE_a, aEa_t, aEa_f, orE_a, oEa_t, oEa_f, notE_a, nEa_ok, add_ii, sub_ii, gt_ii, lt_ii, ge_ii, le_ii, setT_a, consT_a, cTa_ok, nilT_a, tupT_a, seqT_t, seqT_l, forS_a, List.map_cons, List.map_nil, List.length_cons, List.length_nil, Nat.reduceAdd, Nat.reduceSub, Nat.zero_add, Nat.add_zero, List.replicate, List.cons_append, List.nil_append, List.append_nil, List.getElem?_cons_zero, List.getElem?_cons_succ, List.set_cons_zero, List.set_cons_succ, List.getElem?_nil, Option.map_some, Option.map_none, Option.bind_some, if_true, if_false, ite_true, ite_false, eq_self_iff_true, and_self, and_true, true_and, decide_true, decide_false, Bool.false_eq_true, Bool.not_true, Bool.not_false, sizeLine, Nat.reducePow, Nat.reduceLeDiff, Nat.zero_le, pow_7, pow_18, pow_40, isiT_lt (f := getV 1) (e := [some (.d (.bool i)), some (.d (.bool i)), none, none]) (M := M) (M1 := M) (x := (.bool i)) rfl rfl, isSq, isiT_sb (f := getV 1) (e := [some (.d (.bool i)), some (.d (.bool i)), none, none]) (M := M) (M1 := M) (x := (.bool i)) rfl rfl, isSb, isi_i (x := (.bool i)) rfl, isi_b (x := (.bool i)) rfl, eq_ii, eq_bb, eq_ss, is_n, beq_self_eq_true]
      rw [take_all (by simp)]
    | str i =>
      simp only [defM, startE, seqS_a, setS_a, bindS_ok, bindS_er, then_nx, then_rt, then_er, ifS_a, ifK_t, ifK_f, retS_a, dropS_a, asgS_a, asK_a, goG_ok, subT_a, nopS_a, getV_0, getV_s, cst_a, op2_a, o2a_ok, o2b_ok, opT_a, oTa_ok, oTb_ok, consA_a, cAa_ok, cAb_ok, nilA_a, callF_a, cFa_ok, callE_a, cEa_ok, newE_a, nwa_ok, datE_a, dta_ok, dispE_a, tupE_a, tpa_ok, asDs_a, datas, bind_ok, pur_ok, bool_b, leave_d, leave_nx, leave_er, ifE_a, ifa_t, ifa_f, notT_a, nta_ok, andT_a, ana_t, ana_f, orT_a, ora_t, ora_f, tstE_a, tsa_b, andE_a, aEa_t, aEa_f, orE_a, oEa_t, oEa_f, notE_a, nEa_ok, add_ii, sub_ii, gt_ii, lt_ii, ge_ii, le_ii, setT_a, consT_a, cTa_ok, nilT_a, tupT_a, seqT_t, seqT_l, forS_a, List.map_cons, List.map_nil, List.length_cons, List.length_nil, Nat.reduceAdd, Nat.reduceSub, Nat.zero_add, Nat.add_zero, List.replicate, List.cons_append, List.nil_append, List.append_nil, List.getElem?_cons_zero, List.getElem?_cons_succ, List.set_cons_zero, List.set_cons_succ, List.getElem?_nil, Option.map_some, Option.map_none, Option.bind_some, if_true, if_false, ite_true, ite_false, eq_self_iff_true, and_self, and_true, true_and, decide_true, decide_false, Bool.false_eq_true, Bool.not_true, Bool.not_false, sizeLine, Nat.reducePow, Nat.reduceLeDiff, Nat.zero_le, pow_7, pow_18, pow_40, isiT_lt (f := getV 1) (e := [some (.d (.str i)), some (.d (.str i)), none, none]) (M := M) (M1 := M) (x := (.str i)) rfl rfl, isSq, isiT_sb (f := getV 1) (e := [some (.d (.str i)), some (.d (.str i)), none, none]) (M := M) (M1 := M) (x := (.str i)) rfl rfl, isSb, isi_i (x := (.str i)) rfl, isi_b (x := (.str i)) rfl, eq_ii, eq_bb, eq_ss, is_n, beq_self_eq_true]
      rw [take_all (by simp)]
    | none =>
      simp only [defM, startE, seqS_a, setS_a, bindS_ok, bindS_er, then_nx, then_rt, then_er, ifS_a, ifK_t, ifK_f, retS_a, dropS_a, asgS_a, asK_a, goG_ok, subT_a, nopS_a, getV_0, getV_s, cst_a, op2_a, o2a_ok, o2b_ok, opT_a, oTa_ok, oTb_ok, consA_a, cAa_ok, cAb_ok, nilA_a, callF_a, cFa_ok, callE_a, cEa_ok, newE_a, nwa_ok, datE_a, dta_ok, dispE_a, tupE_a, tpa_ok, asDs_a, datas, bind_ok, pur_ok, bool_b, leave_d, leave_nx, leave_er, ifE_a, ifa_t, ifa_f, notT_a, nta_ok, andT_a, ana_t, ana_f, orT_a, ora_t, ora_f, tstE_a, tsa_b, andE_a, aEa_t, aEa_f, orE_a, oEa_t, oEa_f, notE_a, nEa_ok, add_ii, sub_ii, gt_ii, lt_ii, ge_ii, le_ii, setT_a, consT_a, cTa_ok, nilT_a, tupT_a, seqT_t, seqT_l, forS_a, List.map_cons, List.map_nil, List.length_cons, List.length_nil, Nat.reduceAdd, Nat.reduceSub, Nat.zero_add, Nat.add_zero, List.replicate, List.cons_append, List.nil_append, List.append_nil, List.getElem?_cons_zero, List.getElem?_cons_succ, List.set_cons_zero, List.set_cons_succ, List.getElem?_nil, Option.map_some, Option.map_none, Option.bind_some, if_true, if_false, ite_true, ite_false, eq_self_iff_true, and_self, and_true, true_and, decide_true, decide_false, Bool.false_eq_true, Bool.not_true, Bool.not_false, sizeLine, Nat.reducePow, Nat.reduceLeDiff, Nat.zero_le, pow_7, pow_18, pow_40, isiT_lt (f := getV 1) (e := [some (.d .none), some (.d .none), none, none]) (M := M) (M1 := M) (x := .none) rfl rfl, isSq, isiT_sb (f := getV 1) (e := [some (.d .none), some (.d .none), none, none]) (M := M) (M1 := M) (x := .none) rfl rfl, isSb, isi_i (x := .none) rfl, isi_b (x := .none) rfl, eq_ii, eq_bb, eq_ss, eq_nn, is_n, beq_self_eq_true]
      rw [take_all (by simp)]
    | _ => cases hx
  intro f
  induction f with
  | zero => exact fun x M h => leaf _ x M h
  | succ f ih =>
    rintro x M (h | ⟨xs, hx, hl, hz⟩)
    · exact leaf _ x M h
    · have hw : zipOf (.d x) (.d x) = some (xs, xs) := by rcases hx with rfl | rfl <;> rfl
      have hs : isSq x = true := by rcases hx with rfl | rfl <;> rfl
      have hd : isDic x = false := by rcases hx with rfl | rfl <;> rfl
      have hlen : lenV [.d x] M = .ok (.d (.int (xs.length : Nat))) M := by rcases hx with rfl | rfl <;> rfl
      have hlc : lcE [2, 3] (zipI (getV 0) (getV 1)) (tupT 2 (consT (setT 2) (consT (setT 3) nilT))) (fun _ M => .ok true M) (callF 2 (m_same (f + 1)) (consA (getV 2) (consA (getV 3) nilA))) [some (.d x), some (.d x), none, none] M = .ok ((zipD xs xs).map fun _ => .bool true) M := by
        rw [lcE_at (zipI_a (x := .d x) (y := .d x) (M1 := M) (M2 := M) (by simp only [defM, startE, seqS_a, setS_a, bindS_ok, bindS_er, then_nx, then_rt, then_er, ifS_a, ifK_t, ifK_f, retS_a, dropS_a, asgS_a, asK_a, goG_ok, subT_a, nopS_a, getV_0, getV_s, cst_a, op2_a, o2a_ok, o2b_ok, opT_a, oTa_ok, oTb_ok, consA_a, cAa_ok, cAb_ok, nilA_a, callF_a, cFa_ok, callE_a, cEa_ok, newE_a, nwa_ok, datE_a, dta_ok, dispE_a, tupE_a, tpa_ok, asDs_a, datas, bind_ok, pur_ok, bool_b, leave_d, leave_nx, leave_er, ifE_a, ifa_t, ifa_f, notT_a, nta_ok, andT_a, ana_t, ana_f, orT_a, ora_t, ora_f, tstE_a, tsa_b, andE_a, aEa_t, aEa_f, orE_a, oEa_t, oEa_f, notE_a, nEa_ok, add_ii, sub_ii, gt_ii, lt_ii, ge_ii, le_ii, setT_a, consT_a, cTa_ok, nilT_a, tupT_a, seqT_t, seqT_l, forS_a, List.map_cons, List.map_nil, List.length_cons, List.length_nil, Nat.reduceAdd, Nat.reduceSub, Nat.zero_add, Nat.add_zero, List.replicate, List.cons_append, List.nil_append, List.append_nil, List.getElem?_cons_zero, List.getElem?_cons_succ, List.set_cons_zero, List.set_cons_succ, List.getElem?_nil, Option.map_some, Option.map_none, Option.bind_some, if_true, if_false, ite_true, ite_false, eq_self_iff_true, and_self, and_true, true_and, decide_true, decide_false, Bool.false_eq_true, Bool.not_true, Bool.not_false, sizeLine, Nat.reducePow, Nat.reduceLeDiff, Nat.zero_le, pow_7, pow_18, pow_40]) (by simp only [defM, startE, seqS_a, setS_a, bindS_ok, bindS_er, then_nx, then_rt, then_er, ifS_a, ifK_t, ifK_f, retS_a, dropS_a, asgS_a, asK_a, goG_ok, subT_a, nopS_a, getV_0, getV_s, cst_a, op2_a, o2a_ok, o2b_ok, opT_a, oTa_ok, oTb_ok, consA_a, cAa_ok, cAb_ok, nilA_a, callF_a, cFa_ok, callE_a, cEa_ok, newE_a, nwa_ok, datE_a, dta_ok, dispE_a, tupE_a, tpa_ok, asDs_a, datas, bind_ok, pur_ok, bool_b, leave_d, leave_nx, leave_er, ifE_a, ifa_t, ifa_f, notT_a, nta_ok, andT_a, ana_t, ana_f, orT_a, ora_t, ora_f, tstE_a, tsa_b, andE_a, aEa_t, aEa_f, orE_a, oEa_t, oEa_f, notE_a, nEa_ok, add_ii, sub_ii, gt_ii, lt_ii, ge_ii, le_ii, setT_a, consT_a, cTa_ok, nilT_a, tupT_a, seqT_t, seqT_l, forS_a, List.map_cons, List.map_nil, List.length_cons, List.length_nil, Nat.reduceAdd, Nat.reduceSub, Nat.zero_add, Nat.add_zero, List.replicate, List.cons_append, List.nil_append, List.append_nil, List.getElem?_cons_zero, List.getElem?_cons_succ, List.set_cons_zero, List.set_cons_succ, List.getElem?_nil, Option.map_some, Option.map_none, Option.bind_some, if_true, if_false, ite_true, ite_false, eq_self_iff_true, and_self, and_true, true_and, decide_true, decide_false, Bool.false_eq_true, Bool.not_true, Bool.not_false, sizeLine, Nat.reducePow, Nat.reduceLeDiff, Nat.zero_le, pow_7, pow_18, pow_40]) hw)]
        have := lcL_map (γ := tupT 2 (consT (setT 2) (consT (setT 3) nilT))) (t := fun _ M => .ok true M) (h := callF 2 (m_same (f + 1)) (consA (getV 2) (consA (getV 3) nilA))) (ew := ewipe [some (.d x), some (.d x), none, none] [2, 3]) (M := M) (fun _ => .bool true) (zipD xs xs) [] (by have : sizeLine = 2 ^ 24 := rfl; rw [zipD_len]; simp; omega) (fun z hz' => by
          obtain ⟨y, hy, rfl⟩ := zipD_self hz'
          refine ⟨[some (.d x), some (.d x), some (.d y), some (.d y)], ?_, rfl, ?_⟩
          · show tupT 2 _ _ [some (.d x), some (.d x), none, none] M = _
            simp only [defM, startE, seqS_a, setS_a, bindS_ok, bindS_er, then_nx, then_rt, then_er, ifS_a, ifK_t, ifK_f, retS_a, dropS_a, asgS_a, asK_a, goG_ok, subT_a, nopS_a, getV_0, getV_s, cst_a, op2_a, o2a_ok, o2b_ok, opT_a, oTa_ok, oTb_ok, consA_a, cAa_ok, cAb_ok, nilA_a, callF_a, cFa_ok, callE_a, cEa_ok, newE_a, nwa_ok, datE_a, dta_ok, dispE_a, tupE_a, tpa_ok, asDs_a, datas, bind_ok, pur_ok, bool_b, leave_d, leave_nx, leave_er, ifE_a, ifa_t, ifa_f, notT_a, nta_ok, andT_a, ana_t, ana_f, orT_a, ora_t, ora_f, tstE_a, tsa_b, andE_a, aEa_t, aEa_f, orE_a, oEa_t, oEa_f, notE_a, nEa_ok, add_ii, sub_ii, gt_ii, lt_ii, ge_ii, le_ii, setT_a, consT_a, cTa_ok, nilT_a, tupT_a, seqT_t, seqT_l, forS_a, List.map_cons, List.map_nil, List.length_cons, List.length_nil, Nat.reduceAdd, Nat.reduceSub, Nat.zero_add, Nat.add_zero, List.replicate, List.cons_append, List.nil_append, List.append_nil, List.getElem?_cons_zero, List.getElem?_cons_succ, List.set_cons_zero, List.set_cons_succ, List.getElem?_nil, Option.map_some, Option.map_none, Option.bind_some, if_true, if_false, ite_true, ite_false, eq_self_iff_true, and_self, and_true, true_and, decide_true, decide_false, Bool.false_eq_true, Bool.not_true, Bool.not_false, sizeLine, Nat.reducePow, Nat.reduceLeDiff, Nat.zero_le, pow_7, pow_18, pow_40]
          · simp only [defM, startE, seqS_a, setS_a, bindS_ok, bindS_er, then_nx, then_rt, then_er, ifS_a, ifK_t, ifK_f, retS_a, dropS_a, asgS_a, asK_a, goG_ok, subT_a, nopS_a, getV_0, getV_s, cst_a, op2_a, o2a_ok, o2b_ok, opT_a, oTa_ok, oTb_ok, consA_a, cAa_ok, cAb_ok, nilA_a, callF_a, cFa_ok, callE_a, cEa_ok, newE_a, nwa_ok, datE_a, dta_ok, dispE_a, tupE_a, tpa_ok, asDs_a, datas, bind_ok, pur_ok, bool_b, leave_d, leave_nx, leave_er, ifE_a, ifa_t, ifa_f, notT_a, nta_ok, andT_a, ana_t, ana_f, orT_a, ora_t, ora_f, tstE_a, tsa_b, andE_a, aEa_t, aEa_f, orE_a, oEa_t, oEa_f, notE_a, nEa_ok, add_ii, sub_ii, gt_ii, lt_ii, ge_ii, le_ii, setT_a, consT_a, cTa_ok, nilT_a, tupT_a, seqT_t, seqT_l, forS_a, List.map_cons, List.map_nil, List.length_cons, List.length_nil, Nat.reduceAdd, Nat.reduceSub, Nat.zero_add, Nat.add_zero, List.replicate, List.cons_append, List.nil_append, List.append_nil, List.getElem?_cons_zero, List.getElem?_cons_succ, List.set_cons_zero, List.set_cons_succ, List.getElem?_nil, Option.map_some, Option.map_none, Option.bind_some, if_true, if_false, ite_true, ite_false, eq_self_iff_true, and_self, and_true, true_and, decide_true, decide_false, Bool.false_eq_true, Bool.not_true, Bool.not_false, sizeLine, Nat.reducePow, Nat.reduceLeDiff, Nat.zero_le, pow_7, pow_18, pow_40, ih y M (hz y hy)])
        exact this
      unfold m_same g_same
      simp only [defM, startE, seqS_a, setS_a, bindS_ok, bindS_er, then_nx, then_rt, then_er, ifS_a, ifK_t, ifK_f, retS_a, dropS_a, asgS_a, asK_a, goG_ok, subT_a, nopS_a, getV_0, getV_s, cst_a, op2_a, o2a_ok, o2b_ok, opT_a, oTa_ok, oTb_ok, consA_a, cAa_ok, cAb_ok, nilA_a, callF_a, cFa_ok, callE_a, cEa_ok, newE_a, nwa_ok, datE_a, dta_ok, dispE_a, tupE_a, tpa_ok, asDs_a, datas, bind_ok, pur_ok, bool_b, leave_d, leave_nx, leave_er, ifE_a, ifa_t, ifa_f, notT_a, nta_ok, andT_a, ana_t, ana_f, orT_a, ora_t, ora_f, tstE_a, tsa_b, andE_a, aEa_t, aEa_f, orE_a, oEa_t, oEa_f, notE_a, nEa_ok, add_ii, sub_ii, gt_ii, lt_ii, ge_ii, le_ii, setT_a, consT_a, cTa_ok, nilT_a, tupT_a, seqT_t, seqT_l, forS_a, List.map_cons, List.map_nil, List.length_cons, List.length_nil, Nat.reduceAdd, Nat.reduceSub, Nat.zero_add, Nat.add_zero, List.replicate, List.cons_append, List.nil_append, List.append_nil, List.getElem?_cons_zero, List.getElem?_cons_succ, List.set_cons_zero, List.set_cons_succ, List.getElem?_nil, Option.map_some, Option.map_none, Option.bind_some, if_true, if_false, ite_true, ite_false, eq_self_iff_true, and_self, and_true, true_and, decide_true, decide_false, Bool.false_eq_true, Bool.not_true, Bool.not_false, sizeLine, Nat.reducePow, Nat.reduceLeDiff, Nat.zero_le, pow_7, pow_18, pow_40, isiT_lt (f := getV 1) (e := [some (.d x), some (.d x), none, none]) (M := M) (M1 := M) (x := x) rfl hd, hs, isi_l (x := x) hd, isi_t (x := x) hd, ne_bb, beq_self_eq_true, hlen, eq_ii, hlc, all_true]
      rw [take_all (by simp)]
end C
end DL
namespace DL
open PySem PySem.Spec L2
theorem tup_l {xs : List PyData} {M : Mem} : tupleV [.d (.list xs)] M = .ok (.d (.tuple xs)) M := Eq.trans rfl rfl
def intD : PyData → Int
  | .int i => i
  | _ => 0
abbrev nD (n : Nat) : PyData := .int (n : Int)
theorem perm_nats {ys : List PyData} {n : Nat} (h : ys.Perm ((List.range n).map nD)) : ∃ ss : List Nat, ss.Perm (List.range n) ∧ ys = ss.map nD := by
  refine ⟨ys.map fun y => (intD y).toNat, ?_, ?_⟩
  · have := h.map fun y => (intD y).toNat
    rw [List.map_map] at this
    have e : ((fun y => (intD y).toNat) ∘ nD) = id := by funext k; simp [intD]
    rw [e, List.map_id] at this
    exact this
  · rw [List.map_map]
    have : ∀ y ∈ ys, (nD ∘ fun y => (intD y).toNat) y = y := fun y hy => by
      obtain ⟨k, _, rfl⟩ := List.mem_map.mp (h.mem_iff.mp hy)
      simp [intD]
    rw [List.map_congr_left this, List.map_id']
theorem ints_of {ys : List PyData} {Q : Int → Prop} (h : ∀ y ∈ ys, ∃ i, y = .int i ∧ Q i) : ∃ ps : List Int, ys = ps.map PyData.int ∧ ∀ p ∈ ps, Q p := by
  refine ⟨ys.map intD, ?_, fun p hp => ?_⟩
  · rw [List.map_map]
    have : ∀ y ∈ ys, (PyData.int ∘ intD) y = y := fun y hy => by
      obtain ⟨i, rfl, _⟩ := h y hy
      rfl
    rw [List.map_congr_left this, List.map_id']
  · obtain ⟨y, hy, rfl⟩ := List.mem_map.mp hp
    obtain ⟨i, rfl, q⟩ := h y hy
    exact q
/-- a state: who sits where, and the purses -/
abbrev stD (ss : List Nat) (ps : List Int) : PyData := .tuple [.tuple (ss.map nD), .tuple (ps.map PyData.int)]
structure StOk (n : Nat) (top : Int) (ss : List Nat) (ps : List Int) : Prop where
  perm : ss.Perm (List.range n)
  len : ps.length = n
  top : ∀ p ∈ ps, 0 ≤ p ∧ p ≤ top
namespace C
end C
end DL
namespace DL
open PySem PySem.Spec L2
def cKa (n k : Nat) (q : List Nat) (m : Fn) (g : Evs) (e : Env) (r : Res (List Vl)) : Res Vl := r.bind fun xs M1 => (g e M1).bind fun ys M2 => if xs.length = n ∧ ys.length = k ∧ (permL q (xs ++ ys)).length = q.length then m (permL q (xs ++ ys)) M2 else .st
def cKb (n k : Nat) (q : List Nat) (m : Fn) (xs : List Vl) (r : Res (List Vl)) : Res Vl := r.bind fun ys M2 => if xs.length = n ∧ ys.length = k ∧ (permL q (xs ++ ys)).length = q.length then m (permL q (xs ++ ys)) M2 else .st
theorem callK_a {n k : Nat} {q : List Nat} {m : Fn} {f g : Evs} {e : Env} {M : Mem} : callK n k q m f g e M = cKa n k q m g e (f e M) := Eq.trans rfl rfl
theorem cKa_ok {n k : Nat} {q : List Nat} {m : Fn} {g : Evs} {e : Env} {M1 : Mem} {xs : List Vl} : cKa n k q m g e (.ok xs M1) = cKb n k q m xs (g e M1) := Eq.trans rfl rfl
theorem cKb_10 {m : Fn} {M2 : Mem} {x y : Vl} : cKb 0 2 [1, 0] m [] (.ok [x, y] M2) = m [y, x] M2 := by
  show (if ([] : List Vl).length = 0 ∧ [x, y].length = 2 ∧ (permL [1, 0] ([] ++ [x, y])).length = [1, 0].length then m (permL [1, 0] ([] ++ [x, y])) M2 else .st) = _
  rw [if_pos ⟨rfl, rfl, rfl⟩]
  rfl
/-- ls tells where each of ss is -/
structure Inv2 (ss ls : List Nat) : Prop where
  len : ls.length = ss.length
  at_ : ∀ (k x : Nat), ss[k]? = some x → ls[x]? = some k
/-- places: each below the number, no two alike -/
structure PN (ss : List Nat) : Prop where
  lt : ∀ (k x : Nat), ss[k]? = some x → x < ss.length
  inj : ∀ (j k x : Nat), ss[j]? = some x → ss[k]? = some x → j = k
theorem PN.of_perm {ss : List Nat} {n : Nat} (h : ss.Perm (List.range n)) : PN ss := by
  have hl : ss.length = n := by rw [h.length_eq, List.length_range]
  refine ⟨fun k x e => ?_, fun j k x e1 e2 => ?_⟩
  · have := List.mem_range.mp (h.mem_iff.mp (List.mem_of_getElem? e))
    omega
  · have nd : ss.Nodup := h.nodup_iff.mpr List.nodup_range
    have h1 := lt_of_getL e1
    have h2 := lt_of_getL e2
    exact (List.getElem?_inj h1 nd).mp (e1.trans e2.symm)
theorem onto_of_perm {ss : List Nat} {n : Nat} (h : ss.Perm (List.range n))  : ∀ x : Nat, x < ss.length → ∃ k : Nat, ss[k]? = some x := fun x hx => by
  have hl : ss.length = n := by rw [h.length_eq, List.length_range]
  exact List.getElem?_of_mem (h.mem_iff.mpr (List.mem_range.mpr (by omega)))
theorem Inv2.back {ss ls : List Nat} (hs : ∀ x : Nat, x < ss.length → ∃ k : Nat, ss[k]? = some x) (h : Inv2 ss ls) : Inv2 ls ss := by
  refine ⟨h.len.symm, fun x k e => ?_⟩
  have hx := lt_of_getL e
  rw [h.len] at hx
  obtain ⟨j, hj⟩ := hs x hx
  have := h.at_ j x hj
  rw [e] at this
  cases this
  exact hj
theorem Inv2.onto {ss ls : List Nat} (hp : PN ss) (h : Inv2 ss ls) : ∀ x : Nat, x < ls.length → ∃ k : Nat, ls[k]? = some x := fun x hx => by
  rw [h.len] at hx
  exact ⟨ss[x], h.at_ x _ (List.getElem?_eq_getElem hx)⟩
/-- the list while it is being written -/
structure Part (ss ls : List Nat) (j : Nat) : Prop where
  len : ls.length = ss.length
  at_ : ∀ (k x : Nat), k < j → ss[k]? = some x → ls[x]? = some k
theorem Part.step {ss ls : List Nat} {j x : Nat} (hp : PN ss) (h : Part ss ls j) (hx : ss[j]? = some x) : Part ss (ls.set x j) (j + 1) := by
  refine ⟨by rw [List.length_set]; exact h.len, fun k y hk hy => ?_⟩
  by_cases hkj : k = j
  · subst hkj
    rw [hx] at hy
    cases hy
    have : x < ls.length := by rw [h.len]; exact hp.lt _ _ hx
    simp [this]
  · have hne : x ≠ y := fun e => hkj (hp.inj k j y hy (e ▸ hx))
    rw [List.getElem?_set_ne hne]
    exact h.at_ k y (by omega) hy
theorem Part.done {ss ls : List Nat} (h : Part ss ls ss.length) : Inv2 ss ls := ⟨h.len, fun k x e => h.at_ k x (lt_of_getL e) e⟩
theorem sum_len {B : Nat} : ∀ ts : List Str, (∀ t ∈ ts, t.length ≤ B) → (ts.map (·.length)).sum ≤ B * ts.length
  | [], _ => by simp
  | t :: ts, h => by
    have h1 := h t List.mem_cons_self
    have h2 := sum_len ts fun u hu => h u (List.mem_cons_of_mem _ hu)
    rw [List.map_cons, List.sum_cons, List.length_cons, Nat.mul_succ]
    omega
theorem shownAll_map : ∀ xs : List PyData, PyData.shownAll xs = xs.map PyData.shown
  | [] => rfl
  | x :: xs => by rw [PyData.shownAll, shownAll_map xs]; rfl
theorem shown_tup {xs : List PyData} {B : Nat} (h : ∀ x ∈ xs, x.shown.length ≤ B) : (PyData.tuple xs).shown.length ≤ (B + 2) * xs.length + 3 := by
  rw [PyData.shown, shownAll_map]
  have h1 := tupleText_len_le (xs.map PyData.shown)
  have h2 := sum_len (B := B) (xs.map PyData.shown) (fun t ht => by
    obtain ⟨x, hx, rfl⟩ := List.mem_map.mp ht
    exact h x hx)
  rw [List.length_map] at h1 h2
  rw [Nat.add_mul]
  omega
theorem shown_int {i : Int} (h : i.natAbs < 10 ^ 70) : (PyData.int i).shown.length ≤ 71 := by
  have e := int_text_length_le10 (k := 70) (by decide) h
  rw [PyData.shown]
  exact Nat.le_trans (Nat.le_of_eq (PySem.ofString_length _)) e
theorem depth_leaves : ∀ xs : List PyData, (∀ x ∈ xs, x.depth = 0) → PyData.depthAll xs = 0
  | [], _ => rfl
  | x :: xs, h => by
    rw [PyData.depthAll, h x List.mem_cons_self, depth_leaves xs fun y hy => h y (List.mem_cons_of_mem _ hy)]
    rfl
theorem showableAll_of : ∀ xs : List PyData, (∀ x ∈ xs, x.showable = true) → PyData.showableAll xs = true
  | [], _ => rfl
  | x :: xs, h => by
    rw [PyData.showableAll, h x List.mem_cons_self, showableAll_of xs fun y hy => h y (List.mem_cons_of_mem _ hy)]
    rfl
theorem int_showable {i : Int} (h : i.natAbs < 10 ^ 70) : (PyData.int i).showable = true := by
  rw [PyData.showable, decide_eq_true_eq]
  by_cases h0 : i.natAbs = 0
  · rw [h0]; decide
  · refine Nat.lt_trans ((Nat.log2_lt h0).mpr (Nat.lt_trans h (show 10 ^ 70 < 2 ^ 250 by decide))) (by decide)
/-- the text of a state is short -/
theorem shown_st {ss : List Nat} {ps : List Int} (h1 : ss.length ≤ 1000) (h2 : ps.length ≤ 1000) (h3 : ∀ s ∈ ss, s < 1000) (h4 : ∀ p ∈ ps, p.natAbs < 10 ^ 70) :
    (stD ss ps).showable = true ∧ (stD ss ps).shown.length ≤ sizeLine ∧ (stD ss ps).depth ≤ 60 := by
  have hs : ∀ x ∈ ss.map nD, ∃ i : Int, x = .int i ∧ i.natAbs < 10 ^ 70 := fun x hx => by
    obtain ⟨s, h, rfl⟩ := List.mem_map.mp hx
    have := h3 s h
    exact ⟨s, rfl, by omega⟩
  have hp : ∀ x ∈ ps.map PyData.int, ∃ i : Int, x = .int i ∧ i.natAbs < 10 ^ 70 := fun x hx => by
    obtain ⟨s, h, rfl⟩ := List.mem_map.mp hx
    exact ⟨s, rfl, h4 s h⟩
  have k1 : ∀ xs : List PyData, (∀ x ∈ xs, ∃ i : Int, x = .int i ∧ i.natAbs < 10 ^ 70) → xs.length ≤ 1000 → (PyData.tuple xs).showable = true ∧ (PyData.tuple xs).shown.length ≤ 73003 ∧ (PyData.tuple xs).depth = 1 := fun xs h hl => by
    refine ⟨?_, ?_, ?_⟩
    · rw [PyData.showable]
      exact showableAll_of xs fun x hx => by obtain ⟨i, rfl, hi⟩ := h x hx; exact int_showable hi
    · have := shown_tup (B := 71) (xs := xs) fun x hx => by obtain ⟨i, rfl, hi⟩ := h x hx; exact shown_int hi
      have e : (71 + 2) * xs.length ≤ (71 + 2) * 1000 := Nat.mul_le_mul_left _ hl
      omega
    · rw [PyData.depth, depth_leaves xs fun x hx => by obtain ⟨i, rfl, hi⟩ := h x hx; rfl]
  obtain ⟨a1, a2, a3⟩ := k1 _ hs (by rw [List.length_map]; exact h1)
  obtain ⟨b1, b2, b3⟩ := k1 _ hp (by rw [List.length_map]; exact h2)
  refine ⟨?_, ?_, ?_⟩
  · rw [stD, PyData.showable]
    exact showableAll_of _ fun x hx => by
      rcases List.mem_cons.mp hx with rfl | hx
      · exact a1
      · rcases List.mem_cons.mp hx with rfl | hx
        · exact b1
        · cases hx
  · have := shown_tup (B := 73003) (xs := [PyData.tuple (ss.map nD), .tuple (ps.map PyData.int)]) fun x hx => by
      rcases List.mem_cons.mp hx with rfl | hx
      · exact a2
      · rcases List.mem_cons.mp hx with rfl | hx
        · exact b2
        · cases hx
    have e : sizeLine = 2 ^ 24 := rfl
    simp only [List.length_cons, List.length_nil] at this
    show (PyData.tuple [PyData.tuple (ss.map nD), .tuple (ps.map PyData.int)]).shown.length ≤ sizeLine
    omega
  · rw [stD, PyData.depth, PyData.depthAll, PyData.depthAll, PyData.depthAll, a3, b3]
    decide
end DL
namespace DL
open PySem PySem.Spec L2
theorem repr_st {ss : List Nat} {ps : List Int} {M : Mem} (h1 : ss.length ≤ 1000) (h2 : ps.length ≤ 1000) (h3 : ∀ s ∈ ss, s < 1000) (h4 : ∀ p ∈ ps, p.natAbs < 10 ^ 70) :
    reprV [.d (stD ss ps)] M = .ok (.d (.str (stD ss ps).shown)) M := by
  have h := shown_st h1 h2 h3 h4
  exact if_pos h
/-- the state as lists -/
abbrev softD (ss : List Nat) (ps : List Int) : PyData := .list [.list (ss.map nD), .list (ps.map PyData.int)]
theorem Tr.int {k : Nat} {i : Int} : Tr k (.int i) (.int i) := by
  cases k with
  | zero => exact ⟨i, rfl, rfl⟩
  | succ k => exact .inl ⟨i, rfl, rfl⟩
/-- the soft form of a tree -/
def softF : PyData → PyData
  | .tuple xs => .list xs
  | x => x
theorem tr_ints {k : Nat} {xs : List PyData} (hl : xs.length ≤ 2 ^ 20) (h : ∀ x ∈ xs, ∃ i, x = .int i) : Tr (k + 1) (.tuple xs) (.list xs) :=
  .inr ⟨xs, id, .inr rfl, by rw [List.map_id], hl, fun z hz => by obtain ⟨i, rfl⟩ := h z hz; exact Tr.int⟩
theorem soft_tr {k : Nat} {ss : List Nat} {ps : List Int} (h1 : ss.length ≤ 1000) (h2 : ps.length ≤ 1000) : Tr (k + 2) (stD ss ps) (softD ss ps) := by
  refine .inr ⟨_, softF, .inr rfl, rfl, by simp, fun z hz => ?_⟩
  rcases List.mem_cons.mp hz with rfl | hz
  · exact tr_ints (by simp; omega) fun x hx => by obtain ⟨a, _, rfl⟩ := List.mem_map.mp hx; exact ⟨_, rfl⟩
  · rcases List.mem_cons.mp hz with rfl | hz
    · exact tr_ints (by simp; omega) fun x hx => by obtain ⟨a, _, rfl⟩ := List.mem_map.mp hx; exact ⟨_, rfl⟩
    · cases hz
theorem it_seq {k : Nat} {x : PyData} {xs : List PyData} (hx : x = .list xs ∨ x = .tuple xs) (hl : xs.length ≤ 2 ^ 20) (h : ∀ y ∈ xs, It k y) : It (k + 1) x := .inr ⟨xs, hx, hl, h⟩
theorem all_true' {ys : List PyData} {M : Mem} (h : ∀ y ∈ ys, y = .bool true) : allV [.d (.list ys)] M = .ok (.d (.bool true)) M := by
  have : ys = ys.map fun _ => PyData.bool true := by
    have e : ys.map (fun _ => PyData.bool true) = ys.map id := List.map_congr_left fun y hy => (h y hy).symm
    rw [e, List.map_id]
  rw [this]
  exact all_true
end DL
namespace DL
open PySem PySem.Spec L2
end DL
namespace DL
open PySem PySem.Spec L2
/-- the first place -/
def firstAt (ns : List Int) (z : Int) : Option Nat := ns.findIdx? (· == z)
end DL
namespace DL
open PySem PySem.Spec L2
section
variable {X : Cx} {W : WX}
/-- a statement of which nothing is promised -/
theorem ds_no {st : Stmt} : DS X W st (fun _ _ => .st) := ⟨fun pins s σ H D I ⟨w, e, M, r, re, p⟩ => p.elim⟩
end
end DL
namespace DL
open PySem PySem.Spec L2
structure Stt (n : Nat) (ss : List Nat) (ps : List Int) : Prop where
  perm : ss.Perm (List.range n)
  len : ps.length = n
  nn : ∀ p ∈ ps, 0 ≤ p
theorem Stt.slen {n : Nat} {ss : List Nat} {ps : List Int} (h : Stt n ss ps) : ss.length = n := by rw [h.perm.length_eq, List.length_range]
theorem StOk.stt {n : Nat} {top : Int} {ss : List Nat} {ps : List Int} (h : StOk n top ss ps) : Stt n ss ps := ⟨h.perm, h.len, fun p hp => (h.top p hp).1⟩
theorem Stt.lt {n : Nat} {ss : List Nat} {ps : List Int} (h : Stt n ss ps) {j c : Nat} (e : ss[j]? = some c) : c < n := List.mem_range.mp (h.perm.mem_iff.mp (List.mem_of_getElem? e))
theorem Stt.inj {n : Nat} {ss : List Nat} {ps : List Int} (h : Stt n ss ps) {j k c : Nat} (e : ss[j]? = some c) (e2 : ss[k]? = some c) : j = k := (PN.of_perm h.perm).inj j k c e e2
theorem Stt.onto {n : Nat} {ss : List Nat} {ps : List Int} (h : Stt n ss ps) {c : Nat} (hc : c < n) : ∃ j : Nat, ss[j]? = some c := onto_of_perm h.perm c (by rw [h.slen]; exact hc)
theorem Stt.purse {n : Nat} {ss : List Nat} {ps : List Int} (h : Stt n ss ps) {j c : Nat} (e : ss[j]? = some c) : ∃ p, ps[j]? = some p ∧ 0 ≤ p := by
  have hj := lt_of_getL e
  rw [h.slen, ← h.len] at hj
  exact ⟨ps[j], List.getElem?_eq_getElem hj, h.nn _ (List.getElem_mem hj)⟩
theorem sum_set : ∀ (l : List Int) (i : Nat) (v x : Int), l[i]? = some x → (l.set i v).sum = l.sum - x + v
  | [], i, v, x, h => by simp at h
  | a :: l, 0, v, x, h => by
    simp at h
    subst h
    rw [List.set_cons_zero, List.sum_cons, List.sum_cons]
    omega
  | a :: l, i + 1, v, x, h => by
    rw [List.set_cons_succ, List.sum_cons, List.sum_cons, sum_set l i v x (by simpa using h)]
    omega
/-- everybody's residue -/
def resI (ss : List Nat) (ps : List Int) : List Int := List.zipWith (fun (s : Nat) (p : Int) => ((s : Int) + p) % (ss.length : Nat)) ss ps
theorem resI_get {ss : List Nat} {ps : List Int} {k s : Nat} {p : Int} (h1 : ss[k]? = some s) (h2 : ps[k]? = some p) : (resI ss ps)[k]? = some (((s : Int) + p) % (ss.length : Nat)) := by
  unfold resI
  rw [List.getElem?_zipWith, h1, h2]
theorem resI_len {ss : List Nat} {ps : List Int} : (resI ss ps).length = min ss.length ps.length := by unfold resI; simp
/-- one lot: alike residues, alike totals -/
structure Lot (ss : List Nat) (ps : List Int) (ss' : List Nat) (ps' : List Int) : Prop where
  res : resI ss ps = resI ss' ps'
  sum : ps.sum = ps'.sum
theorem Lot.rfl' {ss : List Nat} {ps : List Int} : Lot ss ps ss ps := ⟨rfl, rfl⟩
theorem Lot.trans {a c e : List Nat} {b d f : List Int} (h : Lot a b c d) (k : Lot c d e f) : Lot a b e f := ⟨h.res.trans k.res, h.sum.trans k.sum⟩
theorem Lot.symm {a c : List Nat} {b d : List Int} (h : Lot a b c d) : Lot c d a b := ⟨h.res.symm, h.sum.symm⟩
/-- an exchange at seat c -/
structure Ex (n : Nat) (ss : List Nat) (ps : List Int) (c : Nat) (ss' : List Nat) (ps' : List Int) : Prop where
  ex : ∃ (j k : Nat) (p q : Int), ss[j]? = some c ∧ ss[k]? = some ((c + 1) % n) ∧ ps[j]? = some p ∧ 0 < p ∧ ps[k]? = some q ∧
    ss' = (ss.set j ((c + 1) % n)).set k c ∧ ps' = (ps.set j (p - 1)).set k (q + 1)
theorem next_ne {n c : Nat} (h2 : 2 ≤ n) (hc : c < n) : (c + 1) % n ≠ c ∧ (c + 1) % n < n := by
  refine ⟨fun e => ?_, Nat.mod_lt _ (by omega)⟩
  by_cases h : c + 1 < n
  · rw [Nat.mod_eq_of_lt h] at e; omega
  · have : c + 1 = n := by omega
    rw [this, Nat.mod_self] at e
    omega
theorem ext_of {α : Type} {l l' : List α} (h : ∀ k : Nat, l[k]? = l'[k]?) : l = l' := List.ext_getElem? h
theorem Ex.ok {n c : Nat} {ss ss' : List Nat} {ps ps' : List Int} (h : Stt n ss ps) (h2 : 2 ≤ n) (x : Ex n ss ps c ss' ps') : Stt n ss' ps' ∧ Lot ss ps ss' ps' := by
  obtain ⟨j, k, p, q, hj, hk, hp, hp0, hq, rfl, rfl⟩ := x.ex
  have hc := h.lt hj
  obtain ⟨hne, hlt⟩ := next_ne h2 hc
  have hjk : j ≠ k := fun e => hne (by rw [e, hk] at hj; exact Option.some.inj hj)
  have lj := lt_of_getL hj
  have lk := lt_of_getL hk
  have lpj := lt_of_getL hp
  have lpk := lt_of_getL hq
  have ej : ss[j] = c := by rw [List.getElem?_eq_getElem lj] at hj; exact Option.some.inj hj
  have ek : ss[k] = (c + 1) % n := by rw [List.getElem?_eq_getElem lk] at hk; exact Option.some.inj hk
  have hperm : ((ss.set j ((c + 1) % n)).set k c).Perm ss := by
    have := List.set_set_perm (as := ss) lj lk
    rw [ej, ek] at this
    exact this
  have hl : ss.length = n := h.slen
  have hq0 : 0 ≤ q := h.nn q (List.mem_of_getElem? hq)
  refine ⟨⟨hperm.trans h.perm, by simp [h.len], fun y hy => ?_⟩, ?_, ?_⟩
  · rcases List.mem_or_eq_of_mem_set hy with hy | rfl
    · rcases List.mem_or_eq_of_mem_set hy with hy | rfl
      · exact h.nn y hy
      · omega
    · omega
  · apply ext_of
    intro m
    have hmod : (((c + 1) % n : Nat) : Int) = ((c : Int) + 1) % (n : Nat) := by simp
    by_cases hmj : m = j
    · subst hmj
      have e1 : ((ss.set m ((c + 1) % n)).set k c)[m]? = some ((c + 1) % n) := by
        rw [List.getElem?_set_ne (Ne.symm hjk), List.getElem?_set_self lj]
      have e2 : ((ps.set m (p - 1)).set k (q + 1))[m]? = some (p - 1) := by
        rw [List.getElem?_set_ne (Ne.symm hjk), List.getElem?_set_self lpj]
      rw [resI_get hj hp, resI_get e1 e2]
      simp only [List.length_set, hl]
      rw [hmod, Int.emod_add_emod]
      congr 2
      omega
    · by_cases hmk : m = k
      · subst hmk
        have e1 : ((ss.set j ((c + 1) % n)).set m c)[m]? = some c := by rw [List.getElem?_set_self (by simpa using lk)]
        have e2 : ((ps.set j (p - 1)).set m (q + 1))[m]? = some (q + 1) := by rw [List.getElem?_set_self (by simpa using lpk)]
        rw [resI_get hk hq, resI_get e1 e2]
        simp only [List.length_set, hl]
        rw [hmod, Int.emod_add_emod]
        congr 2
        omega
      · unfold resI
        rw [List.getElem?_zipWith, List.getElem?_zipWith]
        simp only [List.length_set]
        rw [List.getElem?_set_ne (Ne.symm hmk), List.getElem?_set_ne (Ne.symm hmj), List.getElem?_set_ne (Ne.symm hmk), List.getElem?_set_ne (Ne.symm hmj)]
  · have e2 : (ps.set j (p - 1))[k]? = some q := by rw [List.getElem?_set_ne hjk]; exact hq
    rw [sum_set _ k _ q e2, sum_set _ j _ p hp]
    omega
/-- a row of exchanges -/
inductive Run (n : Nat) (ss : List Nat) (ps : List Int) : List Nat → List Nat → List Int → Prop
  | nil : Run n ss ps [] ss ps
  | snoc {cs : List Nat} {c : Nat} {s1 s2 : List Nat} {p1 p2 : List Int} : Run n ss ps cs s1 p1 → Ex n s1 p1 c s2 p2 → Run n ss ps (cs ++ [c]) s2 p2
theorem Run.ok {n : Nat} {cs ss ss' : List Nat} {ps ps' : List Int} (h : Stt n ss ps) (h2 : 2 ≤ n) (x : Run n ss ps cs ss' ps') : Stt n ss' ps' ∧ Lot ss ps ss' ps' := by
  induction x with
  | nil => exact ⟨h, .rfl'⟩
  | snoc _ e ih => exact ⟨(e.ok ih.1 h2).1, ih.2.trans (e.ok ih.1 h2).2⟩
theorem ga_get {M : Mem} {i : Nat} {o : MO} {J : Mem} (hi : i < M.length) : (M.set i o ++ J)[i]? = some o := by
  rw [List.getElem?_append_left (by simpa using hi), List.getElem?_set_self hi]
theorem ga_set {M : Mem} {i : Nat} {o o' : MO} {J : Mem} (hi : i < M.length) : (M.set i o ++ J).set i o' = M.set i o' ++ J := by
  rw [List.set_append_left _ _ (by simpa using hi), List.set_set]
theorem firstAt_of {ss : List Nat} {c j : Nat} (h : ss[j]? = some c) (hinj : ∀ k, ss[k]? = some c → k = j) : firstAt (ss.map fun s : Nat => (s : Int)) (c : Int) = some j := by
  unfold firstAt
  rw [List.findIdx?_eq_some_iff_getElem]
  have hj := lt_of_getL h
  refine ⟨by simpa using hj, ?_, fun m hm => ?_⟩
  · rw [List.getElem?_eq_getElem hj] at h
    simp [Option.some.inj h]
  · have hml : m < ss.length := by omega
    simp only [List.getElem_map, beq_iff_eq, Bool.not_eq_true]
    intro e
    have e2 : ((ss[m] : Nat) : Int) = (c : Int) := by simpa using e
    have := hinj m (by rw [List.getElem?_eq_getElem hml, Int.ofNat.inj e2])
    omega
end DL
namespace DL
open PySem PySem.Spec L2
namespace C
end C
end DL
namespace DL
open PySem PySem.Spec L2
/-- the same with lists: seats and purses may be lists, and the pair too -/
def SeqV (x : Vl) (xs : List PyData) : Prop := x = .d (.list xs) ∨ x = .d (.tuple xs)
theorem SeqV.len {x : Vl} {xs : List PyData} {M : Mem} (h : SeqV x xs) : lenV [x] M = .ok (.d (.int (xs.length : Nat))) M := by rcases h with rfl | rfl <;> exact len_at rfl
abbrev intsD (xs : List Int) : List PyData := xs.map PyData.int
/-- what a pair comes to -/
def onPair (f : Int → Int → Int) : PyData → PyData
  | .tuple [.int a, .int b] => .int (f a b)
  | _ => .none
theorem zip_map (f : Int → Int → Int) : ∀ (xs ys : List Int), (zipD (intsD xs) (intsD ys)).map (onPair f) = intsD (List.zipWith f xs ys)
  | [], _ => rfl
  | _ :: _, [] => rfl
  | x :: xs, y :: ys => by
    have := zip_map f xs ys
    unfold zipD at this ⊢
    simp only [List.map_cons, List.zip_cons_cons, List.zipWith_cons_cons]
    exact congrArg (List.cons _) this
theorem nats_ints (ss : List Nat) : ss.map nD = intsD (ss.map fun s : Nat => (s : Int)) := by simp
namespace C
def noneB : PyData → Bool
  | .none => true
  | _ => false
end C
end DL
namespace DL
open PySem PySem.Spec L2
theorem atI_some {α : Type} {xs : List α} {k : Nat} {x : α} (h : xs[k]? = some x) : atI xs (k : Int) = some x := by
  have hk := lt_of_getL h
  rw [atI_nat hk]
  rw [List.getElem?_eq_getElem hk] at h
  exact h
section
variable {M J : Mem} {L k j : Nat} {A : List PyData} {x y : PyData} {e : Env}
theorem j_get (hL : L = M.length + k) (hJ : J[k]? = some (.lst A)) : (M ++ J)[L]? = some (.lst A) := by
  subst hL
  rw [List.getElem?_append_right (by omega)]
  simpa using hJ
theorem j_set {o : MO} (hL : L = M.length + k) : (M ++ J).set L o = M ++ J.set k o := by
  subst hL
  rw [List.set_append_right _ _ (by omega)]
  simp
theorem jfz {i : Nat} (he : e[i]? = some (some (.h L))) (hL : L = M.length + k) (hJ : J[k]? = some (.lst A)) : freeze i e (M ++ J) = .go .nx (e.set i (some (.d (.list A)))) (M ++ J.set k .gone) := by
  rw [freeze_at he (j_get hL hJ), j_set hL]
end
theorem Stt.first {n : Nat} {ss : List Nat} {ps : List Int} (h : Stt n ss ps) {j c : Nat} (e : ss[j]? = some c) : firstAt (ss.map fun s : Nat => (s : Int)) (c : Int) = some j :=
  firstAt_of e fun k hk => h.inj hk e
theorem getN {ss : List Nat} {j c : Nat} (h : ss[j]? = some c) : (ss.map nD)[j]? = some (nD c) := by rw [List.getElem?_map, h]; rfl
theorem getI {ss : List Int} {j : Nat} {c : Int} (h : ss[j]? = some c) : (intsD ss)[j]? = some (.int c) := by rw [List.getElem?_map, h]; rfl
namespace C
end C
end DL
namespace DL
open PySem PySem.Spec L2
end DL
namespace DL
open PySem PySem.Spec L2
def mulTV : Vl → Vl → Mem → Res Vl
  | .d (.tuple xs), .d (.int k), M => if xs ≠ [] ∧ 2 ≤ k ∧ k ≤ 1000 ∧ xs.length ≤ 1000 then .ok (.d (.tuple (List.replicate k.toNat xs).flatten)) M else .st
  | _, _, _ => .st
section
variable {X : Cx} {W : WX}
theorem opd_mulT : OpD X (binaryOp .Mult) mulTV := by
  rintro pins s σ H x y v u Q I rx ry ⟨w, M, a, b, r, ra, rb, p⟩
  unfold mulTV at p
  split at p
  · split at p
    · rename_i hz
      cases rb
      obtain ⟨p1, vs, rfl, s1, d1⟩ := tup_at r ra (show tupOf _ = some _ from rfl)
      refine op_mulX pins s σ H _ _ v u Q I rx ry ⟨p1, _, vs, ⟨rfl, s1⟩, rfl, ⟨fun z => hz.1 ?_, hz.2.1, hz.2.2.1, by rw [d1.len]; exact hz.2.2.2⟩, newT_of r (DpAll.rep d1 _) p⟩
      subst z
      have l1 := d1.len
      exact List.eq_nil_of_length_eq_zero (by simpa using l1.symm)
    · exact p.elim
  · exact p.elim
end
end DL
namespace DL
open PySem PySem.Spec L2
theorem isnt_n {x : PyData} {M : Mem} : isntV (.d x) (.d .none) M = .ok (.d (.bool (!C.noneB x))) M := by cases x <;> rfl
namespace C
end C
end DL
namespace DL
open PySem PySem.Spec L2
theorem zw_sum_add : ∀ (xs ys : List Int), xs.length = ys.length → (List.zipWith (fun a b => a + b) xs ys).sum = xs.sum + ys.sum
  | [], [], _ => rfl
  | x :: xs, y :: ys, h => by
    rw [List.zipWith_cons_cons, List.sum_cons, List.sum_cons, List.sum_cons, zw_sum_add xs ys (by simpa using h)]
    omega
theorem zw_sum_sub : ∀ (xs ys : List Int), xs.length = ys.length → (List.zipWith (fun a b => a - b) xs ys).sum = xs.sum - ys.sum
  | [], [], _ => rfl
  | x :: xs, y :: ys, h => by
    rw [List.zipWith_cons_cons, List.sum_cons, List.sum_cons, List.sum_cons, zw_sum_sub xs ys (by simpa using h)]
    omega
theorem mod_sum (n : Int) : ∀ l : List Int, ∃ q, l.sum = (l.map (· % n)).sum + n * q
  | [] => ⟨0, by simp⟩
  | x :: l => by
    obtain ⟨q, h⟩ := mod_sum n l
    refine ⟨x / n + q, ?_⟩
    rw [List.map_cons, List.sum_cons, List.sum_cons, h, Int.mul_add]
    have := Int.emod_add_mul_ediv x n
    omega
theorem perm_sum {l l' : List Int} (h : l.Perm l') : l.sum = l'.sum := by
  induction h with
  | nil => rfl
  | cons x _ ih => rw [List.sum_cons, List.sum_cons, ih]
  | swap x y l => rw [List.sum_cons, List.sum_cons, List.sum_cons, List.sum_cons]; omega
  | trans _ _ h1 h2 => exact h1.trans h2
theorem get_some {α : Type} {l : List α} {k : Nat} (h : k < l.length) : ∃ x, l[k]? = some x := ⟨l[k], List.getElem?_eq_getElem h⟩
abbrev castI (ss : List Nat) : List Int := ss.map fun s : Nat => (s : Int)
/-- the least purses of other seats, with these residues -/
def leastI (n : Nat) (rs : List Int) (tt : List Nat) : List Int := List.zipWith (fun r t => (r - t) % (n : Int)) rs (castI tt)
theorem resI_add {ss : List Nat} {ps : List Int} : resI ss ps = (List.zipWith (fun a b => a + b) (castI ss) ps).map (· % (ss.length : Int)) := by
  unfold resI castI
  rw [List.zipWith_map_left, List.map_zipWith]
theorem least_sum {n : Nat} {ss tt : List Nat} {ps : List Int} (h : Stt n ss ps) (ht : tt.Perm (List.range n)) : ∃ q, ps.sum = (leastI n (resI ss ps) tt).sum + n * q := by
  have hl := h.slen
  have htl : tt.length = n := by rw [ht.length_eq, List.length_range]
  have e1 := zw_sum_add (castI ss) ps (by simp [hl, h.len])
  obtain ⟨q1, h1⟩ := mod_sum (n : Int) (List.zipWith (fun a b => a + b) (castI ss) ps)
  have hr : resI ss ps = (List.zipWith (fun a b => a + b) (castI ss) ps).map (· % (n : Int)) := by rw [resI_add, hl]
  rw [← hr] at h1
  have hrl : (resI ss ps).length = n := by rw [resI_len, hl, h.len]; simp
  have e2 := zw_sum_sub (resI ss ps) (castI tt) (by simp [hrl, htl])
  obtain ⟨q2, h2⟩ := mod_sum (n : Int) (List.zipWith (fun a b => a - b) (resI ss ps) (castI tt))
  have hle : leastI n (resI ss ps) tt = (List.zipWith (fun a b => a - b) (resI ss ps) (castI tt)).map (· % (n : Int)) := by
    unfold leastI
    rw [List.map_zipWith]
  rw [← hle] at h2
  have e3 : (castI ss).sum = (castI tt).sum := perm_sum ((h.perm.trans ht.symm).map _)
  refine ⟨q1 + q2, ?_⟩
  rw [Int.mul_add]
  omega
theorem resI_lt {n : Nat} {ss : List Nat} {ps : List Int} (hl : ss.length = n) (h0 : 0 < n) {k : Nat} {r : Int} (h : (resI ss ps)[k]? = some r) : 0 ≤ r ∧ r < n ∧ r % n = r := by
  unfold resI at h
  rw [List.getElem?_zipWith] at h
  split at h
  · rename_i a b _ _
    cases h
    rw [hl]
    have h1 := Int.emod_nonneg ((a : Int) + b) (show (n : Int) ≠ 0 by omega)
    have h2 := Int.emod_lt_of_pos ((a : Int) + b) (show (0 : Int) < n by omega)
    exact ⟨h1, h2, Int.emod_emod ..⟩
  · cases h
/-- purses while the rest is being given out -/
structure LkI (n : Nat) (tt : List Nat) (rs : List Int) (S : Int) (b : List Int) (r : Int) : Prop where
  len : b.length = n
  nn : ∀ p ∈ b, 0 ≤ p
  res : resI tt b = rs
  sum : b.sum + n * r = S
  r0 : 0 ≤ r
theorem LkI.start {n : Nat} {ss tt : List Nat} {ps : List Int} (h : Stt n ss ps) (h0 : 0 < n) (ht : tt.Perm (List.range n)) (hr : 0 ≤ (ps.sum - (leastI n (resI ss ps) tt).sum) / n) :
    LkI n tt (resI ss ps) ps.sum (leastI n (resI ss ps) tt) ((ps.sum - (leastI n (resI ss ps) tt).sum) / n) := by
  have hl := h.slen
  have htl : tt.length = n := by rw [ht.length_eq, List.length_range]
  have hrl : (resI ss ps).length = n := by rw [resI_len, hl, h.len]; simp
  obtain ⟨q, hq⟩ := least_sum h ht
  have e : (ps.sum - (leastI n (resI ss ps) tt).sum) / n = q := by
    rw [hq, show (leastI n (resI ss ps) tt).sum + n * q - (leastI n (resI ss ps) tt).sum = n * q by omega]
    exact Int.mul_ediv_cancel_left _ (by omega)
  have hg : ∀ k : Nat, (leastI n (resI ss ps) tt)[k]? = match (resI ss ps)[k]?, tt[k]? with
      | some r, some t => some ((r - (t : Int)) % n)
      | _, _ => none := fun k => by
    unfold leastI castI
    rw [List.getElem?_zipWith, List.getElem?_map]
    cases (resI ss ps)[k]? <;> cases tt[k]? <;> rfl
  refine ⟨by unfold leastI; simp [hrl, htl], fun p hp => ?_, ?_, by rw [e]; omega, hr⟩
  · obtain ⟨k, hk⟩ := List.getElem?_of_mem hp
    rw [hg] at hk
    split at hk
    · cases hk
      exact Int.emod_nonneg _ (by omega)
    · cases hk
  · apply ext_of
    intro k
    by_cases hk : k < n
    · have h1 : (resI ss ps)[k]? = some (resI ss ps)[k] := List.getElem?_eq_getElem (by omega)
      have h2 : tt[k]? = some tt[k] := List.getElem?_eq_getElem (by omega)
      generalize (resI ss ps)[k] = r at h1
      generalize tt[k] = t at h2
      have h3 : (leastI n (resI ss ps) tt)[k]? = some ((r - (t : Int)) % n) := by rw [hg, h1, h2]
      rw [resI_get h2 h3, h1, htl, Int.add_emod_emod, show (t : Int) + (r - t) = r by omega, (resI_lt hl h0 h1).2.2]
    · rw [List.getElem?_eq_none (by rw [resI_len, htl]; omega), List.getElem?_eq_none (by omega)]
theorem LkI.step {n : Nat} {tt : List Nat} {rs : List Int} {S r x m : Int} {b : List Int} {w : Nat} (h : LkI n tt rs S b r) (htl : tt.length = n) (hx : b[w]? = some x) (h0 : 0 ≤ m) (hm : m ≤ r) : LkI n tt rs S (b.set w (x + n * m)) (r - m) := by
  have hw := lt_of_getL hx
  refine ⟨by simp [h.len], fun p hp => ?_, ?_, ?_, by omega⟩
  · rcases List.mem_or_eq_of_mem_set hp with hp | rfl
    · exact h.nn p hp
    · have := h.nn x (List.mem_of_getElem? hx)
      have := Int.mul_nonneg (show (0 : Int) ≤ n by omega) h0
      omega
  · rw [← h.res]
    apply ext_of
    intro k
    by_cases hk : k = w
    · subst hk
      have hk2 : k < tt.length := by rw [htl, ← h.len]; exact hw
      have h2 : tt[k]? = some tt[k] := List.getElem?_eq_getElem hk2
      have h3 : (b.set k (x + n * m))[k]? = some (x + n * m) := by rw [List.getElem?_set_self hw]
      rw [resI_get h2 h3, resI_get h2 hx, htl, ← Int.add_assoc, Int.add_mul_emod_self_left]
    · unfold resI
      rw [List.getElem?_zipWith, List.getElem?_zipWith, List.getElem?_set_ne (Ne.symm hk)]
  · rw [sum_set _ _ _ _ hx, Int.mul_sub]
    have := h.sum
    omega
namespace C
end C
end DL
namespace DL
open PySem PySem.Spec L2
/-- no deeper than so, numbers up to B -/
def gd (B : Nat) : Nat → PyData → Bool
  | _, .int i => decide (i.natAbs ≤ B)
  | _, .bool _ => true
  | _, .none => true
  | _, .str s => PySem.PyData.strOk s
  | 0, .list _ => false
  | 0, .tuple _ => false
  | k + 1, .list xs => xs.all (gd B k)
  | k + 1, .tuple xs => xs.all (gd B k)
  | _, .dict _ => false
theorem gd_list {B k : Nat} {xs : List PyData} (h : gd B k (.list xs) = true) : ∃ j, k = j + 1 ∧ ∀ x ∈ xs, gd B j x = true := by
  cases k with
  | zero => simp [gd] at h
  | succ j => exact ⟨j, rfl, by simpa [gd] using h⟩
theorem gd_tuple {B k : Nat} {xs : List PyData} (h : gd B k (.tuple xs) = true) : ∃ j, k = j + 1 ∧ ∀ x ∈ xs, gd B j x = true := by
  cases k with
  | zero => simp [gd] at h
  | succ j => exact ⟨j, rfl, by simpa [gd] using h⟩
theorem gd_mkl {B k : Nat} {xs : List PyData} (h : ∀ x ∈ xs, gd B k x = true) : gd B (k + 1) (.list xs) = true := by
  simpa [gd] using h
theorem gd_dic {B k : Nat} {x : PyData} (h : gd B k x = true) : isDic x = false := by
  cases x with
  | dict _ => cases k <;> simp [gd] at h
  | _ => rfl
theorem depthAll_le {n : Nat} : ∀ xs : List PyData, (∀ x ∈ xs, x.depth ≤ n) → PyData.depthAll xs ≤ n
  | [], _ => Nat.zero_le _
  | x :: xs, h => by
    rw [PyData.depthAll]
    exact Nat.max_le.mpr ⟨h x List.mem_cons_self, depthAll_le xs fun y hy => h y (List.mem_cons_of_mem _ hy)⟩
theorem shortAll_of {B : Nat} : ∀ xs : List PyData, (∀ x ∈ xs, x.leavesShort B = true) → PyData.leavesShortAll B xs = true
  | [], _ => rfl
  | x :: xs, h => by
    rw [PyData.leavesShortAll, h x List.mem_cons_self, shortAll_of xs fun y hy => h y (List.mem_cons_of_mem _ hy)]
    rfl
/-- what such a tree is good for -/
theorem gd_all {B : Nat} (hB : B < 10 ^ 70) : ∀ {k : Nat} {x : PyData}, gd B k x = true → x.canLay0 = true ∧ x.leavesShort 80 = true ∧ x.showable = true ∧ x.depth ≤ k := by
  have leaf : ∀ {k : Nat} {x : PyData}, gd B k x = true → isSq x = false → x.canLay0 = true ∧ x.leavesShort 80 = true ∧ x.showable = true ∧ x.depth ≤ k := by
    intro k x h hs
    cases x with
    | int i =>
      have hi : i.natAbs ≤ B := by simpa [gd] using h
      exact ⟨rfl, by rw [PyData.leavesShort, decide_eq_true_eq]; exact Nat.le_trans (shown_int (by omega)) (by decide), int_showable (by omega), Nat.zero_le _⟩
    | bool b => exact ⟨rfl, rfl, rfl, Nat.zero_le _⟩
    | none => exact ⟨rfl, rfl, rfl, Nat.zero_le _⟩
    | str s =>
      have hk : PySem.PyData.strOk s = true := by simpa [gd] using h
      refine ⟨by rw [PyData.canLay0]; exact hk, ?_, rfl, Nat.zero_le _⟩
      rw [PyData.leavesShort, List.all_eq_true]
      intro c hc
      have : s.cps.all (· < 0x110000) = true := hk
      rw [← Array.all_toList, List.all_eq_true] at this
      have := this c hc
      simp at this ⊢
      omega
    | list _ => cases hs
    | tuple _ => cases hs
    | dict _ => exact absurd (gd_dic h) (by simp [isDic])
  intro k
  induction k with
  | zero =>
    intro x h
    cases x with
    | list xs => simp [gd] at h
    | tuple xs => simp [gd] at h
    | dict _ => exact absurd (gd_dic h) (by simp [isDic])
    | _ => exact leaf h rfl
  | succ k ih =>
    intro x h
    cases x with
    | list xs =>
      obtain ⟨_, e, h⟩ := gd_list h
      cases e
      refine ⟨?_, ?_, ?_, ?_⟩
      · rw [PyData.canLay0]; exact (canLayAll_iff _).mpr fun y hy => (ih (h y hy)).1
      · rw [PyData.leavesShort]; exact shortAll_of _ fun y hy => (ih (h y hy)).2.1
      · rw [PyData.showable]; exact showableAll_of _ fun y hy => (ih (h y hy)).2.2.1
      · rw [PyData.depth]; exact Nat.succ_le_succ (depthAll_le _ fun y hy => (ih (h y hy)).2.2.2)
    | tuple xs =>
      obtain ⟨_, e, h⟩ := gd_tuple h
      cases e
      refine ⟨?_, ?_, ?_, ?_⟩
      · rw [PyData.canLay0]; exact (canLayAll_iff _).mpr fun y hy => (ih (h y hy)).1
      · rw [PyData.leavesShort]; exact shortAll_of _ fun y hy => (ih (h y hy)).2.1
      · rw [PyData.showable]; exact showableAll_of _ fun y hy => (ih (h y hy)).2.2.1
      · rw [PyData.depth]; exact Nat.succ_le_succ (depthAll_le _ fun y hy => (ih (h y hy)).2.2.2)
    | dict _ => exact absurd (gd_dic h) (by simp [isDic])
    | _ => exact leaf h rfl
end DL
namespace DL
open PySem PySem.Spec L2
theorem rep_l {f g : Ev} {e : Env} {M M1 M2 : Mem} {xs : List PyData} {n : Nat} (h1 : f e M = .ok (.d (.list xs)) M1) (h : g e M1 = .ok (.d (.int (n : Nat))) M2) (hl : xs.length ≤ 1000) (hn : n ≤ 1000) : repE f g e M = .ok (List.replicate n xs).flatten M2 := by
  unfold repE
  rw [h1, bind_ok, h, bind_ok]
  have hs : sizeLine = 2 ^ 24 := rfl
  have hm : xs.length * n ≤ 1000 * 1000 := Nat.mul_le_mul hl hn
  refine (if_pos ⟨by omega, by omega, by rw [hs]; simp; omega⟩).trans ?_
  simp
namespace C
/-- the law's own loop: so many cells, so many turns each -/
def lawG (k t : Int) (right : Fn) : Sv := (seqS (setS 1 (callF 2 C.m_cells (consA (getV 0) (consA (cst (.d (.int k))) nilA)))) (seqS (forS (rngI1 (callE lenV (consA (getV 1) nilA))) (setT 2) (seqS (setS 3 (callF 2 C.m_box (consA (getV 1) (consA (getV 2) nilA)))) (ifS (notT (tstE (callE allV (consA (datE (lcE [4] (rngI1 (cst (.d (.int t)))) (setT 4) (fun _ M => .ok true M) (callF 1 right (consA (getV 3) nilA)))) nilA)))) (retS (cst (.d (.bool false)))) nopS))) (retS (cst (.d (.bool true))))))
theorem law_gen {right : Fn} {k t : Nat} (hk : 0 < k) (hk2 : k ≤ 63) (ht : t ≤ 10) (hright : ∀ (n i : Nat) (M : Mem) (o : MO), M[i]? = some o → Bx n o → n + 10 ^ 12 ≤ 2 ^ 44 → ∃ o', right [.h i] M = .ok (.d (.bool true)) (M.set i o') ∧ Bx (n + 10 ^ 12) o')
    (ns : List Int) (hn : ns.length ≤ 63) : ∃ M, defM 5 0 (lawG k t right) [.s (ns.map PyData.int)] [] = .ok (.d (.bool true)) M := by
  have hsz : sizeLine = 2 ^ 24 := rfl
  obtain ⟨cs, e1, hc, hl⟩ := cells_ok (k := k) (by omega) (by omega) hn (M := [])
  have hrl : (rangeD 0 (t : Int)).length = t := by rw [rangeD_nat]; simp
  have r4 : ∀ (e : Env) (N : Mem), rngI1 (cst (.d (.int (t : Nat)))) e N = .ok (rangeD 0 (t : Int)) N := fun e N => rngI1_a (by simp only [defM, startE, seqS_a, setS_a, bindS_ok, bindS_er, then_nx, then_rt, then_er, ifS_a, ifK_t, ifK_f, retS_a, dropS_a, asgS_a, asK_a, goG_ok, subT_a, nopS_a, getV_0, getV_s, cst_a, op2_a, o2a_ok, o2b_ok, opT_a, oTa_ok, oTb_ok, consA_a, cAa_ok, cAb_ok, nilA_a, callF_a, cFa_ok, callE_a, cEa_ok, newE_a, nwa_ok, datE_a, dta_ok, dispE_a, tupE_a, tpa_ok, asDs_a, datas, bind_ok, pur_ok, bool_b, leave_d, leave_nx, leave_er, ifE_a, ifa_t, ifa_f, notT_a, nta_ok, andT_a, ana_t, ana_f, orT_a, ora_t, ora_f, tstE_a, tsa_b, andE_a, aEa_t, aEa_f, orE_a, oEa_t, oEa_f, notE_a, nEa_ok, add_ii, sub_ii, gt_ii, lt_ii, ge_ii, le_ii, setT_a, consT_a, cTa_ok, nilT_a, tupT_a, seqT_t, seqT_l, forS_a, List.map_cons, List.map_nil, List.length_cons, List.length_nil, Nat.reduceAdd, Nat.reduceSub, Nat.zero_add, Nat.add_zero, List.replicate, List.cons_append, List.nil_append, List.append_nil, List.getElem?_cons_zero, List.getElem?_cons_succ, List.set_cons_zero, List.set_cons_succ, List.getElem?_nil, Option.map_some, Option.map_none, Option.bind_some, if_true, if_false, ite_true, ite_false, eq_self_iff_true, and_self, and_true, true_and, decide_true, decide_false, Bool.false_eq_true, Bool.not_true, Bool.not_false, sizeLine, Nat.reducePow, Nat.reduceLeDiff, Nat.zero_le, pow_7, pow_18, pow_40]) (by constructor <;> omega)
  obtain ⟨e', M', el, v2, v3, v4, rfl⟩ := forL_all (γ := setT 2) (g := seqS (setS 3 (callF 2 C.m_box (consA (getV 1) (consA (getV 2) nilA)))) (ifS (notT (tstE (callE allV (consA (datE (lcE [4] (rngI1 (cst (.d (.int (t : Nat))))) (setT 4) (fun _ M => .ok true M) (callF 1 right (consA (getV 3) nilA)))) nilA)))) (retS (cst (.d (.bool false)))) nopS))
    (fun j e M2 => ∃ (v2 v3 v4 : Option Vl), e = [some (.s (ns.map PyData.int)), some (.d (.list (cs.map PyData.int))), v2, v3, v4])
    (xs := rangeD 0 (cs.length : Nat)) (e := [some (.s (ns.map PyData.int)), some (.d (.list (cs.map PyData.int))), none, none, none]) (M := [])
    (by
      rintro j z e M2 hz ⟨v2, v3, v4, rfl⟩
      rw [rangeD_nat, List.getElem?_map] at hz
      obtain ⟨p, hp1, rfl⟩ := Option.map_eq_some_iff.mp hz
      have hpj : p < cs.length := List.mem_range.mp (List.mem_of_getElem? hp1)
      obtain ⟨o, e2, B⟩ := box_ok (M := M2) hpj (by omega)
      obtain ⟨ys, M3, e3, ⟨o3, rfl, _⟩, hyl, hy⟩ := lcL_all (γ := setT 4) (t := fun _ M => .ok true M) (h := callF 1 right (consA (getV 3) nilA)) (ew := [some (.s (ns.map PyData.int)), some (.d (.list (cs.map PyData.int))), some (.d (.int (p : Nat))), some (.h M2.length), none])
        (fun k N => ∃ o', N = M2 ++ [o'] ∧ Bx (10 ^ 12 * k) o') (fun _ _ y => y = .bool true) (rangeD 0 (t : Int)) 0 [] (M2 ++ [o]) (Nat.zero_le _) (by rw [hsz, hrl]; simp; omega)
        (by
          rintro k x N hx ⟨o', rfl, B'⟩
          have hk : k < t := by rw [← hrl]; exact lt_of_getL hx
          obtain ⟨o4, e4, B4⟩ := hright (10 ^ 12 * k) M2.length (M2 ++ [o']) o' (m1_a rfl) B' (by omega)
          rw [m1_sa rfl] at e4
          refine ⟨[some (.s (ns.map PyData.int)), some (.d (.list (cs.map PyData.int))), some (.d (.int (p : Nat))), some (.h M2.length), some (.d x)], M2 ++ [o'], M2 ++ [o'], .bool true, M2 ++ [o4], rfl, rfl, ?_, ⟨o4, rfl, B4.mono (by omega)⟩, rfl⟩
          simp only [defM, startE, seqS_a, setS_a, bindS_ok, bindS_er, then_nx, then_rt, then_er, ifS_a, ifK_t, ifK_f, retS_a, dropS_a, asgS_a, asK_a, goG_ok, subT_a, nopS_a, getV_0, getV_s, cst_a, op2_a, o2a_ok, o2b_ok, opT_a, oTa_ok, oTb_ok, consA_a, cAa_ok, cAb_ok, nilA_a, callF_a, cFa_ok, callE_a, cEa_ok, newE_a, nwa_ok, datE_a, dta_ok, dispE_a, tupE_a, tpa_ok, asDs_a, datas, bind_ok, pur_ok, bool_b, leave_d, leave_nx, leave_er, ifE_a, ifa_t, ifa_f, notT_a, nta_ok, andT_a, ana_t, ana_f, orT_a, ora_t, ora_f, tstE_a, tsa_b, andE_a, aEa_t, aEa_f, orE_a, oEa_t, oEa_f, notE_a, nEa_ok, add_ii, sub_ii, gt_ii, lt_ii, ge_ii, le_ii, setT_a, consT_a, cTa_ok, nilT_a, tupT_a, seqT_t, seqT_l, forS_a, List.map_cons, List.map_nil, List.length_cons, List.length_nil, Nat.reduceAdd, Nat.reduceSub, Nat.zero_add, Nat.add_zero, List.replicate, List.cons_append, List.nil_append, List.append_nil, List.getElem?_cons_zero, List.getElem?_cons_succ, List.set_cons_zero, List.set_cons_succ, List.getElem?_nil, Option.map_some, Option.map_none, Option.bind_some, if_true, if_false, ite_true, ite_false, eq_self_iff_true, and_self, and_true, true_and, decide_true, decide_false, Bool.false_eq_true, Bool.not_true, Bool.not_false, sizeLine, Nat.reducePow, Nat.reduceLeDiff, Nat.zero_le, pow_7, pow_18, pow_40, e4])
        ⟨o, rfl, B.mono (by omega)⟩
      rw [List.drop_zero, List.nil_append] at e3
      have hys : ∀ y ∈ ys, y = .bool true := fun y hy' => by
        obtain ⟨k, hk⟩ := List.getElem?_of_mem hy'
        have hkl := lt_of_getL hk
        have hkr : k < (rangeD 0 (t : Int)).length := by omega
        exact hy k _ y (by rw [Nat.zero_add]; exact List.getElem?_eq_getElem hkr) hk
      have hlc : lcE [4] (rngI1 (cst (.d (.int (t : Nat))))) (setT 4) (fun _ M => .ok true M) (callF 1 right (consA (getV 3) nilA)) [some (.s (ns.map PyData.int)), some (.d (.list (cs.map PyData.int))), some (.d (.int (p : Nat))), some (.h M2.length), v4] (M2 ++ [o]) = .ok ys (M2 ++ [o3]) := by
        rw [lcE_at (r4 _ _)]
        exact e3
      refine ⟨[some (.s (ns.map PyData.int)), some (.d (.list (cs.map PyData.int))), some (.d (.int (p : Nat))), v3, v4], M2, [some (.s (ns.map PyData.int)), some (.d (.list (cs.map PyData.int))), some (.d (.int (p : Nat))), some (.h M2.length), v4], M2 ++ [o3], ?_, ?_, _, _, _, rfl⟩
      · simp only [defM, startE, seqS_a, setS_a, bindS_ok, bindS_er, then_nx, then_rt, then_er, ifS_a, ifK_t, ifK_f, retS_a, dropS_a, asgS_a, asK_a, goG_ok, subT_a, nopS_a, getV_0, getV_s, cst_a, op2_a, o2a_ok, o2b_ok, opT_a, oTa_ok, oTb_ok, consA_a, cAa_ok, cAb_ok, nilA_a, callF_a, cFa_ok, callE_a, cEa_ok, newE_a, nwa_ok, datE_a, dta_ok, dispE_a, tupE_a, tpa_ok, asDs_a, datas, bind_ok, pur_ok, bool_b, leave_d, leave_nx, leave_er, ifE_a, ifa_t, ifa_f, notT_a, nta_ok, andT_a, ana_t, ana_f, orT_a, ora_t, ora_f, tstE_a, tsa_b, andE_a, aEa_t, aEa_f, orE_a, oEa_t, oEa_f, notE_a, nEa_ok, add_ii, sub_ii, gt_ii, lt_ii, ge_ii, le_ii, setT_a, consT_a, cTa_ok, nilT_a, tupT_a, seqT_t, seqT_l, forS_a, List.map_cons, List.map_nil, List.length_cons, List.length_nil, Nat.reduceAdd, Nat.reduceSub, Nat.zero_add, Nat.add_zero, List.replicate, List.cons_append, List.nil_append, List.append_nil, List.getElem?_cons_zero, List.getElem?_cons_succ, List.set_cons_zero, List.set_cons_succ, List.getElem?_nil, Option.map_some, Option.map_none, Option.bind_some, if_true, if_false, ite_true, ite_false, eq_self_iff_true, and_self, and_true, true_and, decide_true, decide_false, Bool.false_eq_true, Bool.not_true, Bool.not_false, sizeLine, Nat.reducePow, Nat.reduceLeDiff, Nat.zero_le, pow_7, pow_18, pow_40]
      · simp only [defM, startE, seqS_a, setS_a, bindS_ok, bindS_er, then_nx, then_rt, then_er, ifS_a, ifK_t, ifK_f, retS_a, dropS_a, asgS_a, asK_a, goG_ok, subT_a, nopS_a, getV_0, getV_s, cst_a, op2_a, o2a_ok, o2b_ok, opT_a, oTa_ok, oTb_ok, consA_a, cAa_ok, cAb_ok, nilA_a, callF_a, cFa_ok, callE_a, cEa_ok, newE_a, nwa_ok, datE_a, dta_ok, dispE_a, tupE_a, tpa_ok, asDs_a, datas, bind_ok, pur_ok, bool_b, leave_d, leave_nx, leave_er, ifE_a, ifa_t, ifa_f, notT_a, nta_ok, andT_a, ana_t, ana_f, orT_a, ora_t, ora_f, tstE_a, tsa_b, andE_a, aEa_t, aEa_f, orE_a, oEa_t, oEa_f, notE_a, nEa_ok, add_ii, sub_ii, gt_ii, lt_ii, ge_ii, le_ii, setT_a, consT_a, cTa_ok, nilT_a, tupT_a, seqT_t, seqT_l, forS_a, List.map_cons, List.map_nil, List.length_cons, List.length_nil, Nat.reduceAdd, Nat.reduceSub, Nat.zero_add, Nat.add_zero, List.replicate, List.cons_append, List.nil_append, List.append_nil, List.getElem?_cons_zero, List.getElem?_cons_succ, List.set_cons_zero, List.set_cons_succ, List.getElem?_nil, Option.map_some, Option.map_none, Option.bind_some, if_true, if_false, ite_true, ite_false, eq_self_iff_true, and_self, and_true, true_and, decide_true, decide_false, Bool.false_eq_true, Bool.not_true, Bool.not_false, sizeLine, Nat.reducePow, Nat.reduceLeDiff, Nat.zero_le, pow_7, pow_18, pow_40, e2, hlc, all_true' hys])
    ⟨none, none, none, rfl⟩
  have hr : rngI1 (callE lenV (consA (getV 1) nilA)) [some (.s (ns.map PyData.int)), some (.d (.list (cs.map PyData.int))), none, none, none] [] = .ok (rangeD 0 (cs.length : Nat)) [] := rngI1_a (by simp only [defM, startE, seqS_a, setS_a, bindS_ok, bindS_er, then_nx, then_rt, then_er, ifS_a, ifK_t, ifK_f, retS_a, dropS_a, asgS_a, asK_a, goG_ok, subT_a, nopS_a, getV_0, getV_s, cst_a, op2_a, o2a_ok, o2b_ok, opT_a, oTa_ok, oTb_ok, consA_a, cAa_ok, cAb_ok, nilA_a, callF_a, cFa_ok, callE_a, cEa_ok, newE_a, nwa_ok, datE_a, dta_ok, dispE_a, tupE_a, tpa_ok, asDs_a, datas, bind_ok, pur_ok, bool_b, leave_d, leave_nx, leave_er, ifE_a, ifa_t, ifa_f, notT_a, nta_ok, andT_a, ana_t, ana_f, orT_a, ora_t, ora_f, tstE_a, tsa_b, andE_a, aEa_t, aEa_f, orE_a, oEa_t, oEa_f, notE_a, nEa_ok, add_ii, sub_ii, gt_ii, lt_ii, ge_ii, le_ii, setT_a, consT_a, cTa_ok, nilT_a, tupT_a, seqT_t, seqT_l, forS_a, List.map_cons, List.map_nil, List.length_cons, List.length_nil, Nat.reduceAdd, Nat.reduceSub, Nat.zero_add, Nat.add_zero, List.replicate, List.cons_append, List.nil_append, List.append_nil, List.getElem?_cons_zero, List.getElem?_cons_succ, List.set_cons_zero, List.set_cons_succ, List.getElem?_nil, Option.map_some, Option.map_none, Option.bind_some, if_true, if_false, ite_true, ite_false, eq_self_iff_true, and_self, and_true, true_and, decide_true, decide_false, Bool.false_eq_true, Bool.not_true, Bool.not_false, sizeLine, Nat.reducePow, Nat.reduceLeDiff, Nat.zero_le, pow_7, pow_18, pow_40, len_l, List.length_map]) (by omega)
  refine ⟨M'.take 0, ?_⟩
  unfold lawG
  simp only [defM, startE, seqS_a, setS_a, bindS_ok, bindS_er, then_nx, then_rt, then_er, ifS_a, ifK_t, ifK_f, retS_a, dropS_a, asgS_a, asK_a, goG_ok, subT_a, nopS_a, getV_0, getV_s, cst_a, op2_a, o2a_ok, o2b_ok, opT_a, oTa_ok, oTb_ok, consA_a, cAa_ok, cAb_ok, nilA_a, callF_a, cFa_ok, callE_a, cEa_ok, newE_a, nwa_ok, datE_a, dta_ok, dispE_a, tupE_a, tpa_ok, asDs_a, datas, bind_ok, pur_ok, bool_b, leave_d, leave_nx, leave_er, ifE_a, ifa_t, ifa_f, notT_a, nta_ok, andT_a, ana_t, ana_f, orT_a, ora_t, ora_f, tstE_a, tsa_b, andE_a, aEa_t, aEa_f, orE_a, oEa_t, oEa_f, notE_a, nEa_ok, add_ii, sub_ii, gt_ii, lt_ii, ge_ii, le_ii, setT_a, consT_a, cTa_ok, nilT_a, tupT_a, seqT_t, seqT_l, forS_a, List.map_cons, List.map_nil, List.length_cons, List.length_nil, Nat.reduceAdd, Nat.reduceSub, Nat.zero_add, Nat.add_zero, List.replicate, List.cons_append, List.nil_append, List.append_nil, List.getElem?_cons_zero, List.getElem?_cons_succ, List.set_cons_zero, List.set_cons_succ, List.getElem?_nil, Option.map_some, Option.map_none, Option.bind_some, if_true, if_false, ite_true, ite_false, eq_self_iff_true, and_self, and_true, true_and, decide_true, decide_false, Bool.false_eq_true, Bool.not_true, Bool.not_false, sizeLine, Nat.reducePow, Nat.reduceLeDiff, Nat.zero_le, pow_7, pow_18, pow_40, e1, hr, el]
end C
end DL
namespace DL
open PySem PySem.Spec L2
/-- pairs x, y below n, x below y -/
def pairs (n : Nat) : List (Nat × Nat) := (List.range n).flatMap fun x => (List.range' (x + 1) (n - (x + 1))).map fun y => (x, y)
theorem mem_pairs {n : Nat} {z : Nat × Nat} : z ∈ pairs n ↔ z.1 < z.2 ∧ z.2 < n := by
  unfold pairs
  rw [List.mem_flatMap]
  constructor
  · rintro ⟨x, hx, h⟩
    obtain ⟨y, hy, rfl⟩ := List.mem_map.mp h
    rw [List.mem_range'_1] at hy
    have := List.mem_range.mp hx
    show x < y ∧ y < n
    omega
  · rintro ⟨h1, h2⟩
    refine ⟨z.1, List.mem_range.mpr (by omega), List.mem_map.mpr ⟨z.2, ?_, rfl⟩⟩
    rw [List.mem_range'_1]
    omega
theorem nodup_pairs (n : Nat) : (pairs n).Nodup := by
  unfold pairs
  rw [List.nodup_iff_pairwise_ne, List.pairwise_flatMap]
  refine ⟨fun x _ => ?_, ?_⟩
  · rw [List.pairwise_map]
    exact (List.nodup_range' (step := 1)).imp fun {a b} h e => h (congrArg Prod.snd e)
  · refine List.nodup_range.imp fun {a b} h => ?_
    intro z hz w hw e
    obtain ⟨_, _, rfl⟩ := List.mem_map.mp hz
    obtain ⟨_, _, rfl⟩ := List.mem_map.mp hw
    exact h (congrArg Prod.fst e)
abbrev absI (i : Int) : Int := if i < 0 then -i else i
theorem absI_nn (i : Int) : 0 ≤ absI i := by unfold absI; split <;> omega
theorem sum_map_le {α : Type} (f g : α → Int) : ∀ l : List α, (∀ z ∈ l, f z ≤ g z) → (l.map f).sum ≤ (l.map g).sum
  | [], _ => Int.le_refl _
  | x :: l, h => by
    have h1 := h x List.mem_cons_self
    have h2 := sum_map_le f g l fun z hz => h z (List.mem_cons_of_mem _ hz)
    rw [List.map_cons, List.map_cons, List.sum_cons, List.sum_cons]
    omega
theorem sum_map_congr {α : Type} {f g : α → Int} {l : List α} (h : ∀ z ∈ l, f z = g z) : (l.map f).sum = (l.map g).sum := by
  rw [List.map_congr_left h]
theorem sum_map_zero {α : Type} (f : α → Int) : ∀ l : List α, (∀ z ∈ l, 0 ≤ f z) → (l.map f).sum = 0 → ∀ z ∈ l, f z = 0
  | [], _, _, z, hz => by cases hz
  | x :: l, h, h0, z, hz => by
    have h1 := h x List.mem_cons_self
    have hn : ∀ z ∈ l, 0 ≤ f z := fun z hz => h z (List.mem_cons_of_mem _ hz)
    have h2 := sum_map_le (fun _ => 0) f l hn
    have h3 : (l.map fun _ => (0 : Int)).sum = 0 := by
      clear h h0 hz h1 hn h2
      induction l with
      | nil => rfl
      | cons _ _ ih => rw [List.map_cons, List.sum_cons, ih]; rfl
    rw [List.map_cons, List.sum_cons] at h0
    rcases List.mem_cons.mp hz with rfl | hz
    · omega
    · exact sum_map_zero f l hn (by omega) z hz
theorem sum_map_one {α : Type} (f g : α → Int) {z0 : α} : ∀ l : List α, l.Nodup → z0 ∈ l → (∀ z ∈ l, z ≠ z0 → f z = g z) → (l.map f).sum = (l.map g).sum + (f z0 - g z0)
  | [], _, h, _ => by cases h
  | x :: l, hd, hm, h => by
    rw [List.map_cons, List.map_cons, List.sum_cons, List.sum_cons]
    obtain ⟨hx, hl⟩ := List.nodup_cons.mp hd
    rcases List.mem_cons.mp hm with rfl | hm
    · rw [sum_map_congr (f := f) (g := g) (l := l) fun z hz => h z (List.mem_cons_of_mem _ hz) fun e => hx (e ▸ hz)]
      omega
    · have hne : x ≠ z0 := fun e => hx (e ▸ hm)
      rw [sum_map_one f g l hl hm fun z hz => h z (List.mem_cons_of_mem _ hz), h x List.mem_cons_self hne]
      omega
/-- everybody's place on the line; seats are places modulo n -/
structure Pl (n : Nat) (s q : Nat → Int) : Prop where
  pos : 0 < n
  lt : ∀ x, x < n → 0 ≤ s x ∧ s x < n
  inj : ∀ x y, x < n → y < n → s x = s y → x = y
  onto : ∀ c : Nat, c < n → ∃ x, x < n ∧ s x = c
  mod : ∀ x, x < n → q x % n = s x
/-- how often y is ahead of x, in rounds -/
def Wn (n : Nat) (q : Nat → Int) (x y : Nat) : Int := (q y - q x) / n
def distW (n : Nat) (q q' : Nat → Int) : Int := ((pairs n).map fun z => absI (Wn n q' z.1 z.2 - Wn n q z.1 z.2)).sum
theorem distW_nn (n : Nat) (q q' : Nat → Int) : 0 ≤ distW n q q' := by
  unfold distW
  have := sum_map_le (fun _ => 0) (fun z : Nat × Nat => absI (Wn n q' z.1 z.2 - Wn n q z.1 z.2)) (pairs n) fun z _ => absI_nn _
  have h3 : ((pairs n).map fun _ => (0 : Int)).sum = 0 := by
    induction pairs n with
    | nil => rfl
    | cons _ _ ih => rw [List.map_cons, List.sum_cons, ih]; rfl
  omega
theorem distW_symm (n : Nat) (q q' : Nat → Int) : distW n q q' = distW n q' q := by
  unfold distW
  exact sum_map_congr fun z _ => by unfold absI; split <;> split <;> omega
theorem distW_self (n : Nat) (q : Nat → Int) : distW n q q = 0 := by
  unfold distW
  have : ∀ z : Nat × Nat, absI (Wn n q z.1 z.2 - Wn n q z.1 z.2) = 0 := fun z => by unfold absI; split <;> omega
  rw [sum_map_congr (g := fun _ => 0) fun z _ => this z]
  induction pairs n with
  | nil => rfl
  | cons _ _ ih => rw [List.map_cons, List.sum_cons, ih]; rfl
theorem Pl.ne {n : Nat} {s q : Nat → Int} (h : Pl n s q) {x y : Nat} (hx : x < n) (hy : y < n) (hxy : x ≠ y) : (q y - q x) % n ≠ 0 := fun e => by
  have := Int.emod_eq_emod_iff_emod_sub_eq_zero.mpr e
  rw [h.mod y hy, h.mod x hx] at this
  exact hxy (h.inj y x hy hx this).symm
/-- the order on the line, told by W -/
theorem Wn_le {n : Nat} {q : Nat → Int} (h0 : 0 < n) {x y : Nat} {t : Int} : t ≤ Wn n q x y ↔ n * t + q x ≤ q y := by
  unfold Wn
  rw [Int.le_ediv_iff_mul_le (by omega), Int.mul_comm]
  omega
theorem Wn_swap {n : Nat} {s q : Nat → Int} (h : Pl n s q) {x y : Nat} (hx : x < n) (hy : y < n) (hxy : x ≠ y) : Wn n q y x = - Wn n q x y - 1 := by
  have h0 := h.pos
  have hne := h.ne hx hy hxy
  unfold Wn
  have e : q x - q y = -(q y - q x) := by omega
  rw [e]
  generalize q y - q x = z at *
  have h1 := Int.emod_add_mul_ediv z n
  have h2 := Int.emod_nonneg z (show (n : Int) ≠ 0 by omega)
  have h3 := Int.emod_lt_of_pos z (show (0 : Int) < n by omega)
  have : -z = (n - z % n) + n * (-(z / n) - 1) := by rw [Int.mul_sub, Int.mul_neg]; omega
  rw [this, Int.add_mul_ediv_left _ _ (by omega), Int.ediv_eq_zero_of_lt (by omega) (by omega)]
  omega
/-- who sits behind x on the line, one place ahead -/
theorem Pl.next {n : Nat} {s q : Nat → Int} (h : Pl n s q) {x : Nat} (hx : x < n) : ∃ y t, y < n ∧ q y + n * t = q x + 1 := by
  have h0 := h.pos
  have hs := h.lt x hx
  have hm := h.mod x hx
  have h2 := Int.emod_nonneg (q x + 1) (show (n : Int) ≠ 0 by omega)
  have h3 := Int.emod_lt_of_pos (q x + 1) (show (0 : Int) < n by omega)
  obtain ⟨c, hc⟩ := Int.eq_ofNat_of_zero_le h2
  obtain ⟨y, hy, hys⟩ := h.onto c (by omega)
  have hmy := h.mod y hy
  refine ⟨y, (q x + 1) / n - q y / n, hy, ?_⟩
  have e1 := Int.emod_add_mul_ediv (q y) n
  have e2 := Int.emod_add_mul_ediv (q x + 1) n
  rw [Int.mul_sub]
  omega
/-- nobody has passed anybody: all have gone equally far -/
theorem same_steps {n : Nat} {s q s' q' : Nat → Int} (h : Pl n s q) (h' : Pl n s' q') (hW : ∀ x y, x < n → y < n → x ≠ y → Wn n q' x y = Wn n q x y) {x : Nat} (hx : x < n) (hmax : ∀ z, z < n → q' z - q z ≤ q' x - q x) : ∀ z, z < n → q' z - q z = q' x - q x := by
  have h0 := h.pos
  -- the seat c places ahead
  have key : ∀ c : Nat, ∃ y t, y < n ∧ q y + n * t = q x + c ∧ q' y - q y = q' x - q x := by
    intro c
    induction c with
    | zero => exact ⟨x, 0, hx, by simp, rfl⟩
    | succ c ih =>
      obtain ⟨y, t, hy, e, hd⟩ := ih
      obtain ⟨z, t', hz, e'⟩ := h.next hy
      refine ⟨z, t + t', hz, by rw [Int.mul_add]; push_cast; omega, ?_⟩
      have h1 := hmax z hz
      by_cases hzy : z = y
      · rw [hzy]; exact hd
      · have hw := hW y z hy hz (Ne.symm hzy)
        have a1 : (-t') ≤ Wn n q y z := (Wn_le h0).mpr (by rw [Int.mul_neg]; omega)
        rw [← hw] at a1
        have a2 := (Wn_le h0).mp a1
        rw [Int.mul_neg] at a2
        have hne := h'.ne hy hz (Ne.symm hzy)
        have : q' z - q' y ≠ n * (-t') := fun e => hne (by rw [e]; exact Int.mul_emod_right ..)
        rw [Int.mul_neg] at this
        omega
  intro z hz
  have hm := h.lt z hz
  have hmx := h.lt x hx
  -- z sits (s z - s x) mod n places ahead of x
  have h2 := Int.emod_nonneg (q z - q x) (show (n : Int) ≠ 0 by omega)
  obtain ⟨c, hc⟩ := Int.eq_ofNat_of_zero_le h2
  obtain ⟨y, t, hy, e, hd⟩ := key c
  have : y = z := by
    by_cases hyz : y = z
    · exact hyz
    · refine absurd ?_ (h.ne hy hz hyz)
      have e1 := Int.emod_add_mul_ediv (q z - q x) n
      have : q z - q y = n * ((q z - q x) / n + t) := by rw [Int.mul_add]; omega
      rw [this]
      exact Int.mul_emod_right ..
  rw [← this]
  exact hd
theorem max_at (f : Nat → Int) : ∀ n : Nat, 0 < n → ∃ x, x < n ∧ ∀ z, z < n → f z ≤ f x
  | 0, h => absurd h (by omega)
  | 1, _ => ⟨0, by omega, fun z hz => by have : z = 0 := by omega
                                         rw [this]; exact Int.le_refl _⟩
  | n + 2, _ => by
    obtain ⟨x, hx, h⟩ := max_at f (n + 1) (by omega)
    by_cases hm : f x ≤ f (n + 1)
    · refine ⟨n + 1, by omega, fun z hz => ?_⟩
      by_cases hz2 : z = n + 1
      · rw [hz2]; exact Int.le_refl _
      · exact Int.le_trans (h z (by omega)) hm
    · refine ⟨x, by omega, fun z hz => ?_⟩
      by_cases hz2 : z = n + 1
      · rw [hz2]; omega
      · exact h z (by omega)
theorem sum_const_range {f : Nat → Int} {n : Nat} {c : Int} (h : ∀ x, x < n → f x = c) : ((List.range n).map f).sum = n * c := by
  rw [sum_map_congr (g := fun _ => c) fun z hz => h z (List.mem_range.mp hz)]
  clear h
  induction n with
  | zero => simp
  | succ n ih =>
    rw [List.range_succ, List.map_append, List.sum_append, ih]
    push_cast
    rw [Int.add_mul]
    simp
/-- at distance 0 everybody is where they were -/
theorem dist_zero {n : Nat} {s q s' q' : Nat → Int} (h : Pl n s q) (h' : Pl n s' q') (hsum : ((List.range n).map fun x => q' x - q x).sum = 0) (hd : distW n q q' = 0) : ∀ x, x < n → q' x = q x := by
  have hz := sum_map_zero (fun z : Nat × Nat => absI (Wn n q' z.1 z.2 - Wn n q z.1 z.2)) (pairs n) (fun z _ => absI_nn _) hd
  have hW1 : ∀ x y, x < y → y < n → Wn n q' x y = Wn n q x y := fun x y hxy hy => by
    have := hz (x, y) (mem_pairs.mpr ⟨hxy, hy⟩)
    simp only [absI] at this
    split at this <;> omega
  have hW : ∀ x y, x < n → y < n → x ≠ y → Wn n q' x y = Wn n q x y := fun x y hx hy hxy => by
    by_cases hlt : x < y
    · exact hW1 x y hlt hy
    · rw [Wn_swap h' hy hx (Ne.symm hxy), Wn_swap h hy hx (Ne.symm hxy), hW1 y x (by omega) hx]
  obtain ⟨x, hx, hmax⟩ := max_at (fun z => q' z - q z) n h.pos
  have hs := same_steps h h' hW hx hmax
  have := sum_const_range (f := fun z => q' z - q z) hs
  rw [hsum] at this
  have h0 := h.pos
  have hc : q' x - q x = 0 := by
    rcases Int.mul_eq_zero.mp this.symm with e | e
    · omega
    · exact e
  intro z hz
  have := hs z hz
  omega
/-- one exchange: j goes one place on, k one back, k one place ahead of j -/
structure ExQ (n : Nat) (q q' : Nat → Int) (j k : Nat) (t : Int) : Prop where
  jn : j < n
  kn : k < n
  ne : j ≠ k
  near : q k + n * t = q j + 1
  qj : q' j = q j + 1
  qk : q' k = q k - 1
  oth : ∀ x, x < n → x ≠ j → x ≠ k → q' x = q x
theorem ExQ.W_oth {n : Nat} {s q q' : Nat → Int} {j k : Nat} {t : Int} (h : Pl n s q) (x : ExQ n q q' j k t) {a b : Nat} (ha : a < n) (hb : b < n) (hab : a ≠ b) (h1 : ¬ (a = j ∧ b = k)) (h2 : ¬ (a = k ∧ b = j)) : Wn n q' a b = Wn n q a b := by
  have h0 := h.pos
  -- floors do not change where the difference does not reach a multiple of n
  have up : ∀ z : Int, (z + 1) % n ≠ 0 → (z + 1) / n = z / n := fun z hz => by
    have e := Int.emod_add_mul_ediv z n
    have e1 := Int.emod_nonneg z (show (n : Int) ≠ 0 by omega)
    have e2 := Int.emod_lt_of_pos z (show (0 : Int) < n by omega)
    have hlt : z % n + 1 < n := by
      by_cases hq : z % n + 1 = n
      · refine absurd ?_ hz
        have : z + 1 = n * (z / n + 1) := by rw [Int.mul_add]; omega
        rw [this]; exact Int.mul_emod_right ..
      · omega
    have : z + 1 = (z % n + 1) + n * (z / n) := by omega
    rw [this, Int.add_mul_ediv_left _ _ (by omega), Int.ediv_eq_zero_of_lt (by omega) hlt]
    omega
  have dn : ∀ z : Int, z % n ≠ 0 → (z - 1) / n = z / n := fun z hz => by
    have := up (z - 1) (by rw [show z - 1 + 1 = z by omega]; exact hz)
    rw [show z - 1 + 1 = z by omega] at this
    exact this.symm
  have nj : ∀ c, c < n → c ≠ k → (q c - q j - 1) % n ≠ 0 := fun c hc hck e => by
    refine h.ne x.kn hc (Ne.symm hck) ?_
    have : q c - q k = (q c - q j - 1) + n * t := by have := x.near; omega
    rw [this, Int.add_mul_emod_self_left]
    exact e
  unfold Wn
  by_cases haj : a = j
  · subst haj
    have hbk : b ≠ k := fun e => h1 ⟨rfl, e⟩
    rw [x.qj, x.oth b hb (Ne.symm hab) hbk]
    have e : q b - (q a + 1) = (q b - q a) - 1 := by omega
    rw [e]
    exact dn _ (h.ne ha hb hab)
  · by_cases hak : a = k
    · subst hak
      have hbj : b ≠ j := fun e => h2 ⟨rfl, e⟩
      rw [x.qk, x.oth b hb hbj (Ne.symm hab)]
      have e : q b - (q a - 1) = (q b - q a) + 1 := by omega
      rw [e]
      refine up _ fun z => ?_
      -- q b ≡ q k - 1 ≡ q j
      refine h.ne x.jn hb (Ne.symm hbj) ?_
      have : q b - q j = (q b - q a + 1) + n * (-t) := by have := x.near; rw [Int.mul_neg]; omega
      rw [this, Int.add_mul_emod_self_left]
      exact z
    · rw [x.oth a ha haj hak]
      by_cases hbj : b = j
      · subst hbj
        rw [x.qj]
        have e : q b + 1 - q a = (q b - q a) + 1 := by omega
        rw [e]
        refine up _ fun z => ?_
        refine nj a ha hak ?_
        have : q a - q b - 1 = -(q b - q a + 1) := by omega
        rw [this]
        exact Int.emod_eq_zero_of_dvd (Int.dvd_neg.mpr (Int.dvd_of_emod_eq_zero z))
      · by_cases hbk : b = k
        · subst hbk
          rw [x.qk]
          have e : q b - 1 - q a = (q b - q a) - 1 := by omega
          rw [e]
          exact dn _ (h.ne ha hb hab)
        · rw [x.oth b hb hbj hbk]
theorem ExQ.W_jk {n : Nat} {s q q' : Nat → Int} {j k : Nat} {t : Int} (h : Pl n s q) (h2 : 2 ≤ n) (x : ExQ n q q' j k t) : Wn n q j k = -t ∧ Wn n q' j k = -t - 1 := by
  have h0 := h.pos
  have hn := x.near
  unfold Wn
  rw [x.qj, x.qk]
  have e1 : q k - q j = 1 + n * (-t) := by rw [Int.mul_neg]; omega
  have e2 : q k - 1 - (q j + 1) = (n - 1) + n * (-t - 1) := by rw [Int.mul_sub, Int.mul_neg]; omega
  rw [e1, e2, Int.add_mul_ediv_left _ _ (by omega), Int.add_mul_ediv_left _ _ (by omega), Int.ediv_eq_zero_of_lt (by omega) (by omega), Int.ediv_eq_zero_of_lt (by omega) (by omega)]
  omega
theorem ExQ.pl {n : Nat} {s s' q q' : Nat → Int} (h' : Pl n s' q') : Pl n s' q' := h'
/-- an exchange changes each distance by one; it comes nearer where the other one has them in the other order -/
theorem ExQ.dist {n : Nat} {s s' q q' : Nat → Int} {j k : Nat} {t : Int} (h : Pl n s q) (h' : Pl n s' q') (h2 : 2 ≤ n) (x : ExQ n q q' j k t) {sb b : Nat → Int} (hb : Pl n sb b) :
    (distW n q' b = distW n q b + 1 ∨ distW n q' b = distW n q b - 1) ∧ (distW n q' b = distW n q b - 1 ↔ Wn n b j k < Wn n q j k) := by
  obtain ⟨w1, w2⟩ := x.W_jk h h2
  have hs1 := Wn_swap h x.jn x.kn x.ne
  have hs2 := Wn_swap h' x.jn x.kn x.ne
  have hs3 := Wn_swap hb x.jn x.kn x.ne
  unfold distW
  by_cases hjk : j < k
  · rw [sum_map_one (fun z : Nat × Nat => absI (Wn n b z.1 z.2 - Wn n q' z.1 z.2)) (fun z : Nat × Nat => absI (Wn n b z.1 z.2 - Wn n q z.1 z.2)) (z0 := (j, k)) (pairs n) (nodup_pairs n) (mem_pairs.mpr ⟨hjk, x.kn⟩) (fun z hz hne => by
      have hm := mem_pairs.mp hz
      rw [x.W_oth (a := z.1) (b := z.2) h (by omega) hm.2 (by omega) (fun e => hne (Prod.ext e.1 e.2)) (fun e => by omega)])]
    simp only [w1, w2, absI]
    split <;> split <;> omega
  · have hkj : k < j := by have := x.ne; omega
    rw [sum_map_one (fun z : Nat × Nat => absI (Wn n b z.1 z.2 - Wn n q' z.1 z.2)) (fun z : Nat × Nat => absI (Wn n b z.1 z.2 - Wn n q z.1 z.2)) (z0 := (k, j)) (pairs n) (nodup_pairs n) (mem_pairs.mpr ⟨hkj, x.jn⟩) (fun z hz hne => by
      have hm := mem_pairs.mp hz
      rw [x.W_oth (a := z.1) (b := z.2) h (by omega) hm.2 (by omega) (fun e => by omega) (fun e => hne (Prod.ext e.1 e.2))])]
    simp only [hs1, hs2, w1, w2, absI]
    split <;> split <;> omega
end DL
namespace DL
open PySem PySem.Spec L2
def sF (ss : List Nat) (x : Nat) : Int := ((ss.getD x 0 : Nat) : Int)
def pF (ps : List Int) (x : Nat) : Int := ps.getD x 0
/-- the place on the line -/
def qF (ss : List Nat) (ps : List Int) (x : Nat) : Int := pF (resI ss ps) x - pF ps x
theorem sF_at {ss : List Nat} {x c : Nat} (h : ss[x]? = some c) : sF ss x = c := by
  unfold sF
  rw [List.getD_eq_getElem?_getD, h]
  rfl
theorem pF_at {ps : List Int} {x : Nat} {c : Int} (h : ps[x]? = some c) : pF ps x = c := by
  unfold pF
  rw [List.getD_eq_getElem?_getD, h]
  rfl
theorem Stt.pl {n : Nat} {ss : List Nat} {ps : List Int} (h : Stt n ss ps) (h0 : 0 < n) : Pl n (sF ss) (qF ss ps) := by
  have hl := h.slen
  have at_ : ∀ x, x < n → ∃ c p, ss[x]? = some c ∧ ps[x]? = some p ∧ c < n := fun x hx => by
    obtain ⟨c, hc⟩ := get_some (show x < ss.length by omega)
    obtain ⟨p, hp⟩ := get_some (show x < ps.length by rw [h.len]; exact hx)
    exact ⟨c, p, hc, hp, h.lt hc⟩
  refine ⟨h0, fun x hx => ?_, fun x y hx hy e => ?_, fun c hc => ?_, fun x hx => ?_⟩
  · obtain ⟨c, p, hc, _, hl⟩ := at_ x hx
    rw [sF_at hc]
    omega
  · obtain ⟨c, p, hc, _, _⟩ := at_ x hx
    obtain ⟨d, p', hd, _, _⟩ := at_ y hy
    rw [sF_at hc, sF_at hd] at e
    have : c = d := by omega
    subst this
    exact h.inj hc hd
  · obtain ⟨j, hj⟩ := h.onto hc
    exact ⟨j, by have := lt_of_getL hj; omega, sF_at hj⟩
  · obtain ⟨c, p, hc, hp, hcn⟩ := at_ x hx
    unfold qF
    rw [pF_at (resI_get hc hp), pF_at hp, sF_at hc, hl, Int.emod_sub_emod, show (c : Int) + p - p = c by omega]
    exact Int.emod_eq_of_lt (by omega) (by omega)
/-- the number that the program computes for x and y -/
def crossI (n : Nat) (ss : List Nat) (ps qs : List Int) (x y : Nat) : Int := absI (((sF ss y + (pF ps y - pF qs y)) - (sF ss x + (pF ps x - pF qs x))) / n - (sF ss y - sF ss x) / n)
theorem crossI_W {n : Nat} {ss tt : List Nat} {ps qs : List Int} (h : Stt n ss ps) (h0 : 0 < n) (L : Lot ss ps tt qs) {x y : Nat} (hx : x < n) (hy : y < n) : crossI n ss ps qs x y = absI (Wn n (qF tt qs) x y - Wn n (qF ss ps) x y) := by
  have P := h.pl h0
  have m1 := P.mod x hx
  have m2 := P.mod y hy
  unfold crossI Wn
  have hq : ∀ z, qF tt qs z = pF (resI ss ps) z - pF qs z := fun z => by unfold qF; rw [L.res]
  rw [hq, hq]
  have e1 := Int.emod_add_mul_ediv (qF ss ps x) n
  have e2 := Int.emod_add_mul_ediv (qF ss ps y) n
  have hq1 : ∀ z, qF ss ps z = pF (resI ss ps) z - pF ps z := fun z => rfl
  have a1 : (sF ss y + (pF ps y - pF qs y)) - (sF ss x + (pF ps x - pF qs x)) = (pF (resI ss ps) y - pF qs y - (pF (resI ss ps) x - pF qs x)) + n * (qF ss ps x / n - qF ss ps y / n) := by
    rw [Int.mul_sub]
    have := hq1 x
    have := hq1 y
    omega
  have a2 : sF ss y - sF ss x = (qF ss ps y - qF ss ps x) + n * (qF ss ps x / n - qF ss ps y / n) := by
    rw [Int.mul_sub]
    omega
  rw [a1, a2, Int.add_mul_ediv_left _ _ (by omega), Int.add_mul_ediv_left _ _ (by omega)]
  congr 1
  omega
def distI (n : Nat) (ss : List Nat) (ps qs : List Int) : Int := ((pairs n).map fun z => crossI n ss ps qs z.1 z.2).sum
theorem distI_W {n : Nat} {ss tt : List Nat} {ps qs : List Int} (h : Stt n ss ps) (h0 : 0 < n) (L : Lot ss ps tt qs) : distI n ss ps qs = distW n (qF ss ps) (qF tt qs) := by
  unfold distI distW
  refine sum_map_congr fun z hz => ?_
  have := mem_pairs.mp hz
  exact crossI_W h h0 L (by omega) this.2
namespace C
/-- the people on the seats -/
def backL (ss : List Nat) : List Nat := (List.range ss.length).map fun c => ss.idxOf c
theorem back_at {n : Nat} {ss : List Nat} {ps : List Int} (h : Stt n ss ps) {j c : Nat} (hj : ss[j]? = some c) : (backL ss)[c]? = some j := by
  have hl := h.slen
  have hc := h.lt hj
  unfold backL
  rw [List.getElem?_map, hl, List.getElem?_range hc]
  have hm : c ∈ ss := List.mem_of_getElem? hj
  have hlt : ss.idxOf c < ss.length := List.idxOf_lt_length_iff.mpr hm
  have hg : ss[ss.idxOf c]? = some c := by rw [List.getElem?_eq_getElem hlt, List.getElem_idxOf hlt]
  rw [h.inj hj hg]
  rfl
theorem backL_len {ss : List Nat} : (backL ss).length = ss.length := by unfold backL; simp
end C
end DL
namespace DL
open PySem PySem.Spec L2
namespace C
end C
/-- an exchange, on the line -/
theorem Ex.q {n c : Nat} {ss ss' : List Nat} {ps ps' : List Int} (h : Stt n ss ps) (h2 : 2 ≤ n) (x : Ex n ss ps c ss' ps') : ∃ j k t, ss[j]? = some c ∧ ss[k]? = some ((c + 1) % n) ∧ ExQ n (qF ss ps) (qF ss' ps') j k t := by
  obtain ⟨h', L⟩ := x.ok h h2
  obtain ⟨j, k, p, q, hj, hk, hp, hp0, hq, rfl, rfl⟩ := x.ex
  have hc := h.lt hj
  have hl := h.slen
  obtain ⟨hne, hlt⟩ := next_ne h2 hc
  have hjk : j ≠ k := fun e => hne (by rw [e, hk] at hj; exact Option.some.inj hj)
  have P := h.pl (by omega)
  have jn : j < n := by have := lt_of_getL hj; omega
  have kn : k < n := by have := lt_of_getL hk; omega
  have lpj := lt_of_getL hp
  have lpk := lt_of_getL hq
  have mj := P.mod j jn
  have mk := P.mod k kn
  rw [sF_at hj] at mj
  rw [sF_at hk] at mk
  have e1 := Int.emod_add_mul_ediv (qF ss ps j) n
  have e2 := Int.emod_add_mul_ediv (qF ss ps k) n
  have hd : ∃ u : Int, (((c + 1) % n : Nat) : Int) + n * u = (c : Int) + 1 := by
    refine ⟨((c + 1) / n : Nat), ?_⟩
    have := Nat.mod_add_div (c + 1) n
    exact_mod_cast this
  obtain ⟨u, hu⟩ := hd
  refine ⟨j, k, qF ss ps j / n - qF ss ps k / n + u, hj, hk, jn, kn, hjk, ?_, ?_, ?_, ?_⟩
  · rw [Int.mul_add, Int.mul_sub]
    omega
  · show pF (resI _ _) j - pF _ j = pF (resI ss ps) j - pF ps j + 1
    rw [← L.res, pF_at hp, pF_at (show ((ps.set j (p - 1)).set k (q + 1))[j]? = some (p - 1) by rw [List.getElem?_set_ne (Ne.symm hjk), List.getElem?_set_self lpj])]
    omega
  · show pF (resI _ _) k - pF _ k = pF (resI ss ps) k - pF ps k - 1
    rw [← L.res, pF_at hq, pF_at (show ((ps.set j (p - 1)).set k (q + 1))[k]? = some (q + 1) by rw [List.getElem?_set_self (by simpa using lpk)])]
    omega
  · intro y hy hyj hyk
    show pF (resI _ _) y - pF _ y = pF (resI ss ps) y - pF ps y
    rw [← L.res]
    unfold pF
    rw [List.getD_eq_getElem?_getD (l := (ps.set j (p - 1)).set k (q + 1)), List.getElem?_set_ne (Ne.symm hyk), List.getElem?_set_ne (Ne.symm hyj), ← List.getD_eq_getElem?_getD]
end DL
namespace DL
open PySem PySem.Spec L2
theorem castI_inj {ss tt : List Nat} : castI ss = castI tt ↔ ss = tt := by
  constructor
  · intro h
    have := congrArg (List.map Int.toNat) h
    unfold castI at this
    rw [List.map_map, List.map_map] at this
    have e : (Int.toNat ∘ fun s : Nat => (s : Int)) = id := by funext s; simp
    rw [e, List.map_id, List.map_id] at this
    exact this
  · rintro rfl; rfl
theorem pF_range {n : Nat} {ps : List Int} (h : ps.length = n) : (List.range n).map (pF ps) = ps := by
  apply ext_of
  intro k
  by_cases hk : k < n
  · obtain ⟨p, hp⟩ := get_some (show k < ps.length by omega)
    rw [List.getElem?_map, List.getElem?_range hk, hp]
    show some (pF ps k) = _
    rw [pF_at hp]
  · rw [List.getElem?_eq_none (by simp; omega), List.getElem?_eq_none (by omega)]
theorem sum_pF {n : Nat} {ps : List Int} (h : ps.length = n) : ((List.range n).map (pF ps)).sum = ps.sum := by rw [pF_range h]
theorem sum_map_sub {α : Type} (f g : α → Int) : ∀ l : List α, (l.map fun z => f z - g z).sum = (l.map f).sum - (l.map g).sum
  | [] => rfl
  | x :: l => by
    rw [List.map_cons, List.map_cons, List.map_cons, List.sum_cons, List.sum_cons, List.sum_cons, sum_map_sub f g l]
    omega
theorem ext_pF {n : Nat} {ps qs : List Int} (h : ps.length = n) (k : qs.length = n) (e : ∀ x, x < n → pF ps x = pF qs x) : ps = qs := by
  rw [← pF_range h, ← pF_range k]
  exact List.map_congr_left fun x hx => e x (List.mem_range.mp hx)
/-- of one lot: the same place on the line, the same state -/
theorem lot_eq {n : Nat} {ss tt : List Nat} {ps qs : List Int} (h : Stt n ss ps) (k : Stt n tt qs) (h0 : 0 < n) (L : Lot ss ps tt qs) (e : ∀ x, x < n → qF tt qs x = qF ss ps x) : ss = tt ∧ ps = qs := by
  have hp : ps = qs := ext_pF h.len k.len fun x hx => by
    have := e x hx
    unfold qF at this
    rw [L.res] at this
    omega
  refine ⟨castI_inj.mp ?_, hp⟩
  have P := h.pl h0
  have Q := k.pl h0
  have hs : ∀ x, x < n → sF ss x = sF tt x := fun x hx => by rw [← P.mod x hx, ← Q.mod x hx, e x hx]
  apply ext_of
  intro x
  have hl := h.slen
  have kl := k.slen
  by_cases hx : x < n
  · obtain ⟨c, hc⟩ := get_some (show x < ss.length by omega)
    obtain ⟨d, hd⟩ := get_some (show x < tt.length by omega)
    have := hs x hx
    rw [sF_at hc, sF_at hd] at this
    unfold castI
    rw [List.getElem?_map, List.getElem?_map, hc, hd]
    simpa using this
  · rw [List.getElem?_eq_none (by simp; omega), List.getElem?_eq_none (by simp; omega)]
theorem dist_zero_iff {n : Nat} {ss tt : List Nat} {ps qs : List Int} (h : Stt n ss ps) (k : Stt n tt qs) (h0 : 0 < n) (L : Lot ss ps tt qs) : distI n ss ps qs = 0 ↔ (ss = tt ∧ ps = qs) := by
  rw [distI_W h h0 L]
  constructor
  · intro hd
    refine lot_eq h k h0 L (dist_zero (h.pl h0) (k.pl h0) ?_ hd)
    have : (fun x => qF tt qs x - qF ss ps x) = fun x => pF ps x - pF qs x := by
      funext x
      unfold qF
      rw [L.res]
      omega
    rw [this, sum_map_sub, sum_pF h.len, sum_pF k.len, L.sum]
    omega
  · rintro ⟨rfl, rfl⟩
    exact distW_self _ _
theorem distI_symm {n : Nat} {ss tt : List Nat} {ps qs : List Int} (h : Stt n ss ps) (k : Stt n tt qs) (h0 : 0 < n) (L : Lot ss ps tt qs) : distI n tt qs ps = distI n ss ps qs := by
  rw [distI_W h h0 L, distI_W k h0 L.symm, distW_symm]
theorem distI_nn {n : Nat} {ss tt : List Nat} {ps qs : List Int} (h : Stt n ss ps) (h0 : 0 < n) (L : Lot ss ps tt qs) : 0 ≤ distI n ss ps qs := by
  rw [distI_W h h0 L]
  exact distW_nn _ _ _
theorem Ex.dist {n c : Nat} {ss ss' tt : List Nat} {ps ps' qs : List Int} (h : Stt n ss ps) (h2 : 2 ≤ n) (x : Ex n ss ps c ss' ps') (k : Stt n tt qs) (L : Lot ss ps tt qs) : distI n ss' ps' qs = distI n ss ps qs + 1 ∨ distI n ss' ps' qs = distI n ss ps qs - 1 := by
  obtain ⟨h', L'⟩ := x.ok h h2
  obtain ⟨j, kk, t, _, _, E⟩ := x.q h h2
  rw [distI_W h (by omega) L, distI_W h' (by omega) (L'.symm.trans L)]
  exact (E.dist (h.pl (by omega)) (h'.pl (by omega)) h2 (k.pl (by omega))).1
theorem Ex.one {n c : Nat} {ss ss' : List Nat} {ps ps' : List Int} (h : Stt n ss ps) (h2 : 2 ≤ n) (x : Ex n ss ps c ss' ps') : distI n ss ps ps' = 1 := by
  obtain ⟨h', L'⟩ := x.ok h h2
  have h0 : 0 < n := by omega
  have e := x.dist h h2 h .rfl'
  have z := (dist_zero_iff h h h0 .rfl').mpr ⟨rfl, rfl⟩
  have nn := distI_nn h' h0 L'.symm
  have s := distI_symm h h' h0 L'
  omega
end DL
namespace DL
open PySem PySem.Spec L2
namespace C
end C
namespace C
end C
end DL
namespace DL
open PySem PySem.Spec L2
def pushL (n b : Nat) (ss : List Nat) : List Nat := ss.map fun c => (c + b) % n
theorem pushL_succ {n b : Nat} {ss : List Nat} : pushL n (b + 1) ss = pushL n 1 (pushL n b ss) := by
  unfold pushL
  rw [List.map_map]
  refine List.map_congr_left fun c _ => ?_
  show (c + (b + 1)) % n = ((c + b) % n + 1) % n
  rw [Nat.mod_add_mod]
  rfl
theorem pushL_zero {n : Nat} {ss : List Nat} {ps : List Int} (h : Stt n ss ps) : pushL n 0 ss = ss := by
  unfold pushL
  have : ∀ c ∈ ss, (c + 0) % n = c := fun c hc => Nat.mod_eq_of_lt (List.mem_range.mp (h.perm.mem_iff.mp hc))
  rw [List.map_congr_left this, List.map_id']
theorem push_range (n : Nat) : ((List.range n).map fun c => (c + 1) % n).Perm (List.range n) := by
  cases n with
  | zero => exact List.Perm.refl _
  | succ m =>
    have e : (List.range (m + 1)).map (fun c => (c + 1) % (m + 1)) = (List.range m).map Nat.succ ++ [0] := by
      rw [List.range_succ, List.map_append]
      congr 1
      · refine List.map_congr_left fun c hc => ?_
        have := List.mem_range.mp hc
        exact Nat.mod_eq_of_lt (by omega)
      · show [(m + 1) % (m + 1)] = [0]
        rw [Nat.mod_self]
    rw [e, List.range_succ_eq_map]
    exact List.perm_append_comm
theorem Stt.push1 {n : Nat} {ss : List Nat} {ps : List Int} (h : Stt n ss ps) : Stt n (pushL n 1 ss) ps := ⟨(h.perm.map _).trans (push_range n), h.len, h.nn⟩
theorem Stt.push {n b : Nat} {ss : List Nat} {ps : List Int} (h : Stt n ss ps) : Stt n (pushL n b ss) ps := by
  induction b with
  | zero => rw [pushL_zero h]; exact h
  | succ b ih => rw [pushL_succ]; exact ih.push1
theorem res_push {n b : Nat} {ss : List Nat} {ps : List Int} (h : Stt n ss ps) : resI (pushL n b ss) ps = (resI ss ps).map fun r => (r + b) % (n : Int) := by
  have hl := h.slen
  unfold resI pushL
  rw [List.length_map, hl, List.zipWith_map_left, List.map_zipWith]
  refine congrArg (fun f => List.zipWith f ss ps) ?_
  funext c p
  have : (((c + b) % n : Nat) : Int) = ((c : Int) + b) % n := by simp
  rw [this, Int.emod_add_emod, Int.emod_add_emod]
  congr 1
  omega
theorem Lot.push {n b : Nat} {ss tt : List Nat} {ps qs : List Int} (h : Stt n ss ps) (k : Stt n tt qs) (L : Lot ss ps tt qs) : Lot (pushL n b ss) ps (pushL n b tt) qs := ⟨by rw [res_push h, res_push k, L.res], L.sum⟩
/-- names changed: who is w becomes t[w] -/
structure Named {α : Type} (t : List Nat) (xs ys : List α) : Prop where
  len : ys.length = xs.length
  at_ : ∀ (w x : Nat), t[w]? = some x → ys[x]? = xs[w]?
theorem Named.perm {α : Type} {t : List Nat} {xs ys : List α} {n : Nat} (h : Named t xs ys) (ht : t.Perm (List.range n)) (hl : xs.length = n) : ys.Perm xs := by
  have htl : t.length = n := by rw [ht.length_eq, List.length_range]
  cases n with
  | zero =>
    have : xs = [] := List.eq_nil_of_length_eq_zero hl
    have h2 : ys = [] := List.eq_nil_of_length_eq_zero (by rw [h.len, hl])
    rw [this, h2]
  | succ m =>
    obtain ⟨d, hd⟩ := get_some (show 0 < ys.length by rw [h.len, hl]; omega)
    have e1 : t.map (fun x => ys.getD x d) = xs := by
      apply ext_of
      intro w
      by_cases hw : w < m + 1
      · obtain ⟨x, hx⟩ := get_some (show w < t.length by omega)
        have hy := h.at_ w x hx
        obtain ⟨a, ha⟩ := get_some (show w < xs.length by omega)
        rw [List.getElem?_map, hx, ha]
        show some (ys.getD x d) = _
        rw [List.getD_eq_getElem?_getD, hy, ha]
        rfl
      · rw [List.getElem?_eq_none (by simp; omega), List.getElem?_eq_none (by omega)]
    have e2 : (List.range (m + 1)).map (fun x => ys.getD x d) = ys := by
      apply ext_of
      intro x
      by_cases hx : x < m + 1
      · obtain ⟨a, ha⟩ := get_some (show x < ys.length by rw [h.len, hl]; omega)
        rw [List.getElem?_map, List.getElem?_range hx, ha]
        show some (ys.getD x d) = _
        rw [List.getD_eq_getElem?_getD, ha]
        rfl
      · rw [List.getElem?_eq_none (by simp; omega), List.getElem?_eq_none (by rw [h.len]; omega)]
    rw [← e1]
    conv => lhs; rw [← e2]
    exact (ht.map _).symm
theorem Named.stt {n : Nat} {t ss ss' : List Nat} {ps ps' : List Int} (a : Named t ss ss') (b : Named t ps ps') (ht : t.Perm (List.range n)) (h : Stt n ss ps) : Stt n ss' ps' :=
  ⟨(a.perm ht h.slen).trans h.perm, by rw [b.len]; exact h.len, fun p hp => h.nn p ((b.perm ht h.len).mem_iff.mp hp)⟩
theorem Named.res {n : Nat} {t ss ss' : List Nat} {ps ps' : List Int} (a : Named t ss ss') (b : Named t ps ps') (ht : t.Perm (List.range n)) (h : Stt n ss ps) : Named t (resI ss ps) (resI ss' ps') := by
  have h' := a.stt b ht h
  have htl : t.length = n := by rw [ht.length_eq, List.length_range]
  refine ⟨by rw [resI_len, resI_len, a.len, b.len], fun w x hx => ?_⟩
  have hw := lt_of_getL hx
  obtain ⟨c, hc⟩ := get_some (show w < ss.length by rw [h.slen]; omega)
  obtain ⟨p, hp⟩ := get_some (show w < ps.length by rw [h.len]; omega)
  rw [resI_get hc hp, resI_get ((a.at_ w x hx).trans hc) ((b.at_ w x hx).trans hp), a.len]
theorem Ex.push {n b c : Nat} {ss ss' : List Nat} {ps ps' : List Int} (x : Ex n ss ps c ss' ps') : Ex n (pushL n b ss) ps ((c + b) % n) (pushL n b ss') ps' := by
  obtain ⟨j, k, p, q, hj, hk, hp, hp0, hq, rfl, rfl⟩ := x.ex
  have e : ((c + 1) % n + b) % n = ((c + b) % n + 1) % n := by
    rw [Nat.mod_add_mod, Nat.mod_add_mod]
    congr 1
    omega
  refine ⟨j, k, p, q, ?_, ?_, hp, hp0, hq, ?_, rfl⟩
  · unfold pushL; rw [List.getElem?_map, hj]; rfl
  · unfold pushL; rw [List.getElem?_map, hk, ← e]; rfl
  · unfold pushL
    rw [List.map_set, List.map_set, e]
end DL
namespace DL
open PySem PySem.Spec L2 PyProof.Rows PySem.W
end DL
namespace DL
open PySem PySem.Spec L2
namespace C
end C
theorem Run.last {n : Nat} {ss ss' l : List Nat} {ps ps' : List Int} {c : Nat} (R : Run n ss ps (l ++ [c]) ss' ps') : ∃ s1 p1, Run n ss ps l s1 p1 ∧ Ex n s1 p1 c ss' ps' := by
  generalize h : l ++ [c] = m at R
  cases R with
  | nil => simp at h
  | snoc r x =>
    obtain ⟨h1, h2⟩ := List.append_inj' h rfl
    cases h2
    subst h1
    exact ⟨_, _, r, x⟩
theorem Ex.det {n c : Nat} {ss s1 s2 : List Nat} {ps p1 p2 : List Int} (h : Stt n ss ps) (x : Ex n ss ps c s1 p1) (y : Ex n ss ps c s2 p2) : s1 = s2 ∧ p1 = p2 := by
  obtain ⟨j, k, p, q, a1, a2, a3, a4, a5, rfl, rfl⟩ := x.ex
  obtain ⟨j', k', p', q', b1, b2, b3, b4, b5, rfl, rfl⟩ := y.ex
  have hj := h.inj a1 b1
  have hk := h.inj a2 b2
  subst hj hk
  rw [a3] at b3; cases b3
  rw [a5] at b5; cases b5
  exact ⟨rfl, rfl⟩
theorem Run.det {n : Nat} {ss s1 cs : List Nat} {ps p1 : List Int} (h : Stt n ss ps) (h2 : 2 ≤ n) (R : Run n ss ps cs s1 p1) : ∀ {s2 : List Nat} {p2 : List Int}, Run n ss ps cs s2 p2 → s1 = s2 ∧ p1 = p2 := by
  induction R with
  | nil =>
    intro s2 p2 R'
    generalize hm : ([] : List Nat) = m at R'
    cases R' with
    | nil => exact ⟨rfl, rfl⟩
    | snoc _ _ => simp at hm
  | snoc r x ih =>
    intro s2 p2 R'
    obtain ⟨s3, p3, r', x'⟩ := R'.last
    obtain ⟨e1, e2⟩ := ih r'
    subst e1 e2
    exact x.det (r.ok h h2).1 x'
theorem Run.upto {n : Nat} {ss ss' cs : List Nat} {ps ps' : List Int} (R : Run n ss ps cs ss' ps') (j : Nat) : ∃ s p, Run n ss ps (cs.take j) s p := by
  induction R with
  | nil => exact ⟨ss, ps, by rw [List.take_nil]; exact .nil⟩
  | @snoc cs c s1 s2 p1 p2 r x ih =>
    by_cases hj : j ≤ cs.length
    · rw [List.take_append_of_le_length hj]
      exact ih
    · rw [List.take_of_length_le (by simp; omega)]
      exact ⟨_, _, r.snoc x⟩
namespace C
end C
end DL
namespace DL
open PySem PySem.Spec L2
namespace C
end C
end DL
namespace DL
open PySem PySem.Spec L2 PyProof.Rows
theorem tup_once (p : Addr) (xs : Array Value) (e : Nat) (od : Option Addr) (ss : Array (Option Value)) (u : Tok) :
    Meets (Builtin.«tuple.__mul__» ⟨[.ref p, .int 1 u], []⟩) (fun _ R s => s.heap.get? p = some ⟨.type "tuple", od, .seq xs e, ss⟩ ∧ R (.ok (.ret (.ref p))) s) :=
  .of_wp fun P w A R s ⟨ho, hr⟩ => by
    obtain ⟨hp, g, d, tk, os⟩ := s
    have fi := AutoSeq1.idx_int
    wp_walk using wpAny_loadPart' ho
    repeat (first
      | (refine wpAny_ite_false (by decide) ?_; wp_walk using wpAny_loadPart' ho)
      | (refine wpAny_ite_true (by simp) ?_; wp_walk using wpAny_loadPart' ho))
    exact ⟨_, rfl, hr⟩
/-- a tuple times a number from 1 on -/
def mulT2V : Vl → Vl → Mem → Res Vl
  | .d (.tuple xs), .d (.int k), M => if k = 1 then (if xs ≠ [] then .ok (.d (.tuple xs)) M else .st) else mulTV (.d (.tuple xs)) (.d (.int k)) M
  | _, _, _ => .st
section
variable {X : Cx}
theorem opd_mulT2 : OpD X (binaryOp .Mult) mulT2V := by
  rintro pins s σ H x y v u Q I rx ry ⟨w, M, a, b, r, ra, rb, p⟩
  unfold mulT2V at p
  split at p
  · rename_i ds k
    by_cases h1 : k = 1
    · rw [if_pos h1] at p
      subst h1
      split at p
      · rename_i hne
        cases rb
        obtain ⟨l, vs, rfl, hT, hd⟩ := tup_at r ra (show tupOf _ = some _ from rfl)
        cases rx
        obtain ⟨t, rfl⟩ := ry
        obtain ⟨its, rt, ⟨⟨c0, od, dat, ss⟩, ho, hcl, e, hdat⟩, _⟩ := I.tuple hT
        simp only at hcl hdat
        subst hcl hdat
        refine wpAny_binaryOp_repeat_ref (U := "int") (T := "tuple") (by decide) ⟨_, ho, rfl⟩
          (fun s2 => typeIs_int s2 1 t) noFill_tuple_mul F.fills_int_mul
          F.slot_int_rmul repeat_tuple F.slot_int_index.lookup ?_
        refine call_meets F.slot_int_rmul (typeIs_int s 1 t) F.entry_int_rmul
          (F.args_int_rmul_2 _ _) (int_rmul_tuple 1 t l its.toArray e od ss) ⟨ho, rfl, ⟨_, ho, rfl⟩, ?_⟩
        exact call_meets F.slot_tuple_mul ⟨_, ho, rfl⟩ F.entry_tuple_mul
          (F.args_tuple_mul_2 _ _) (tup_once l its.toArray e od ss t) ⟨ho, .ref l, H, I, rfl, p.at r ra⟩
      · exact p.elim
    · rw [if_neg h1] at p
      exact opd_mulT pins s σ H x y v u Q I rx ry ⟨w, M, _, _, r, ra, rb, p⟩
  · exact p.elim
end
end DL
namespace DL
open PySem PySem.Spec L2
def okT : PyData → Bool
  | .tuple [.int a, .int b, .int c] => decide ((0 ≤ a ∧ a < 10000000000000000000000000000000000000000) ∧ (0 ≤ b ∧ b < 10000000000000000000000000000000000000000) ∧ 0 ≤ c ∧ c < 10000000000000000000000000000000000000000)
  | _ => false
theorem DpAll.perm {K : Frag} {F : Hp} {ys vs : List V} (p : ys.Perm vs) : ∀ {ds : List PyData}, DpAll K F vs ds → ∃ es, DpAll K F ys es ∧ es.Perm ds := by
  induction p with
  | nil => exact fun h => ⟨_, h, .refl _⟩
  | cons x p ih =>
    intro ds h
    cases h with
    | cons h1 h2 =>
      obtain ⟨es, k1, k2⟩ := ih h2
      exact ⟨_, .cons h1 k1, k2.cons _⟩
  | swap x y l =>
    intro ds h
    cases h with
    | cons h1 h2 => cases h2 with
      | cons h3 h4 => exact ⟨_, .cons h3 (.cons h1 h4), .swap ..⟩
  | trans p q ih1 ih2 =>
    intro ds h
    obtain ⟨es, k1, k2⟩ := ih2 h
    obtain ⟨fs, k3, k4⟩ := ih1 k1
    exact ⟨fs, k3, k4.trans k2⟩
end DL
namespace DL
open PySem PySem.Spec L2
end DL
namespace DL
open PySem PySem.Spec L2
end DL
namespace DL
open PySem PySem.Spec L2
section
variable {X : Cx} {W : WX} {f : Ev} {g : Evs} {h : Sv}
theorem RVs.atI {K : Frag} {w : Wd} {xs : List Vl} {vs : List V} {k : Int} {x : Vl} (h : RVs K w xs vs) (e : L2.atI xs k = some x) : ∃ v, L2.atI vs k = some v ∧ RV K w x v := by
  unfold L2.atI at e ⊢
  rw [← h.len]
  cases q : ixN xs.length k with
  | none => rw [q] at e; cases e
  | some j =>
    rw [q] at e
    exact h.get e
open Classical in
noncomputable def Wd.free (w : Wd) (S : Addr → Prop) : Wd := ⟨w.as, fun a => if S a then none else w.F a, w.P⟩
/-- the addresses of what is set fast -/
def Fst (w : Wd) (M M' : Mem) (a : Addr) : Prop := ∃ i : Nat, w.as[i]? = some a ∧ M'[i]? ≠ M[i]? ∧ M'[i]? = some MO.gone
noncomputable local instance {w : Wd} {M M' : Mem} {a : Addr} : Decidable (Fst w M M' a) := Classical.propDecidable _
end
end DL
namespace DL
open PySem PySem.Spec L2
namespace C
theorem SeqV.at {x : Vl} {xs : List PyData} (h : SeqV x xs) {k : Nat} {d : PyData} {N : Mem} (e : xs[k]? = some d) : ixV x (.d (nD k)) N = .ok (.d d) N := by
  rcases h with rfl | rfl
  · exact ixV_l (atI_some e)
  · exact ixV_t (atI_some e)
theorem SeqV.zip {x y : Vl} {xs ys : List PyData} (h : SeqV x xs) (k : SeqV y ys) : zipOf x y = some (xs, ys) := by
  rcases h with rfl | rfl <;> rcases k with rfl | rfl <;> rfl
end C
end DL
namespace DL
namespace C
open PySem PySem.Spec L2
end C
end DL
namespace DL
open PySem PySem.Spec L2
end DL
namespace DL
open PySem PySem.Spec L2
inductive PickL (X : Cx) (j n : Nat) : List Expr → List Addr → List Fn → Prop
  | nil : PickL X j n [] [] []
  | cons {x : Str} {p : Pos} {es : List Expr} {f : Addr} {fs : List Addr} {m : Fn} {ms : List Fn} {fd : FuncData} {ps : List Str} : Gl X x → X.mg x = some (.ref f) → (x == ("__debug__" : Str)) = false → PySem.W.keepIn X.K (.ref f) = true →
      FnD X.prog X.w X.K X.mg X.base j f fd ps m → ps.length = n → Binds X.K fd ps [] → PickL X j n es fs ms → PickL X j n (.Name x p :: es) (f :: fs) (m :: ms)
section
variable {X : Cx} {W : WX}
theorem PickL.names {j n : Nat} : ∀ {es : List Expr} {fs : List Addr} {ms : List Fn}, PickL X j n es fs ms → ∀ e ∈ es, ∃ x p, e = .Name x p
  | _, _, _, .nil => fun _ h => (List.not_mem_nil h).elim
  | .Name x p :: es, f :: fs, _, .cons _ _ _ _ _ _ _ t => fun e h => by
    rcases List.mem_cons.mp h with q | q
    · exact ⟨x, p, q⟩
    · exact t.names e q
theorem PickL.len {j n : Nat} : ∀ {es : List Expr} {fs : List Addr} {ms : List Fn}, PickL X j n es fs ms → fs.length = ms.length
  | _, _, _, .nil => rfl
  | _, _, _, .cons _ _ _ _ _ _ _ t => by simp [t.len]
theorem PickL.get {j n : Nat} : ∀ {es : List Expr} {fs : List Addr} {ms : List Fn} {i : Nat} {m : Fn}, PickL X j n es fs ms → ms[i]? = some m →
    ∃ f fd ps, fs[i]? = some f ∧ PySem.W.keepIn X.K (.ref f) = true ∧ FnD X.prog X.w X.K X.mg X.base j f fd ps m ∧ ps.length = n ∧ Binds X.K fd ps []
  | _, _, _, _, _, .nil, e => by simp at e
  | _, _, _, 0, _, .cons _ _ _ kp F en b _, e => by simp at e; subst e; exact ⟨_, _, _, rfl, kp, F, en, b⟩
  | _, _, _, i + 1, m, .cons _ _ _ _ _ _ _ t, e => by
    obtain ⟨f, fd, ps, h1, h2⟩ := PickL.get (i := i) (m := m) t (by simpa using e)
    exact ⟨f, fd, ps, by simpa using h1, h2⟩
theorem PickL.at {j n : Nat} {es : List Expr} {fs : List Addr} {ms : List Fn} {i : Int} {m : Fn} (h : PickL X j n es fs ms) (e : atI ms i = some m) :
    ∃ f fd ps, atI (fs.map V.ref) i = some (.ref f) ∧ PySem.W.keepIn X.K (.ref f) = true ∧ FnD X.prog X.w X.K X.mg X.base j f fd ps m ∧ ps.length = n ∧ Binds X.K fd ps [] := by
  unfold L2.atI at e ⊢
  rw [List.length_map, h.len]
  cases q : ixN ms.length i with
  | none => rw [q] at e; cases e
  | some k =>
    rw [q] at e
    obtain ⟨f, fd, ps, h1, h2⟩ := h.get e
    refine ⟨f, fd, ps, ?_, h2⟩
    show (fs.map V.ref)[k]? = _
    rw [List.getElem?_map, h1]
    rfl
end
end DL
namespace DL
open PySem PySem.Spec L2
namespace C
end C
end DL
namespace DL
open PySem PySem.Spec L2
end DL
namespace DL
open PySem PySem.Spec L2
def minI (n : Int) (ns : List Int) : Int := ns.foldl (fun a b => if b < a then b else a) n
theorem minI_le : ∀ (ns : List Int) (n : Int), minI n ns ≤ n ∧ ∀ x ∈ ns, minI n ns ≤ x
  | [], n => ⟨Int.le_refl _, fun x hx => by cases hx⟩
  | a :: ns, n => by
    obtain ⟨h1, h2⟩ := minI_le ns (if a < n then a else n)
    have e : minI n (a :: ns) = minI (if a < n then a else n) ns := rfl
    rw [e]
    have h3 : (if a < n then a else n) ≤ n ∧ (if a < n then a else n) ≤ a := by split <;> constructor <;> omega
    refine ⟨by omega, fun x hx => ?_⟩
    rcases List.mem_cons.mp hx with rfl | hx
    · omega
    · exact h2 x hx
theorem minI_mem : ∀ (ns : List Int) (n : Int), minI n ns = n ∨ minI n ns ∈ ns
  | [], n => .inl rfl
  | a :: ns, n => by
    have e : minI n (a :: ns) = minI (if a < n then a else n) ns := rfl
    rw [e]
    rcases minI_mem ns (if a < n then a else n) with h | h
    · rw [h]
      split
      · exact .inr List.mem_cons_self
      · exact .inl rfl
    · exact .inr (List.mem_cons_of_mem _ h)
end DL
namespace DL
open PySem PySem.Spec PySem.Calls PyProof.Rows L2
/-- a built-in class that errors stand under -/
structure Base (B nw ini : String) (bB : List Value) : Prop where
  ex : ExcBaseFacts B nw ini bB
  st : StoreFacts B bB "object.__setattr__" "object"
  ty : typeOf (.type B) = pure (.type "type")
  bo : bootBuiltins B = some (.type B)
/-- what is written of such a class, at C -/
structure ErrC (K : PySem.W.Frag) (C : Addr) (nw : String) (bB : List Value) : Prop where
  cls : ∃ nm q N bs bm sn sub ab col dd k0 k1 k2 k3 k5, K.lookup C = some (excClassObj nm q C N bs bm true sn sub ab col dd k0 k1 k2 k3 k5 nw) ∧ PySem.W.excTail bB bm = true
  sa : PySem.W.findIn K (.ref C) "__setattr__" = some (some (.builtin "object.__setattr__"))
  bE : PySem.W.subIn K (.ref C) (.type "BaseException") = some true
  tC : PySem.W.typeIn K (.ref C) = some (.type "type")
  kC : PySem.W.keepIn K (.ref C) = true
section
open Builtin Builtin.ObjectAttr PySem.HandSPX
variable {prog : Program} {w : World} {A : Around} {R : Result → Shared → Prop} {hp : Heap} {g : Array GenState} {dr : Drawn} {t : Nat} {os : OsState} {B nw ini : String} {bB bm : List Value}
/-- the first field of an error, by object.__setattr__ -/
theorem err_set {K : PySem.W.Frag} {f : Str} {tk : Tok} {v : Value} {e C : Addr} {fs : Array Value} {cd : ClassData} (Bs : Base B nw ini bB) (X : K.In hp) (he : hp.get? e = some { cls := .ref C, data := .fields fs })
    (hcd : PySem.W.clsIn K C = some cd) (hm : cd.mro = .ref C :: bm) (ht : PySem.W.excTail bB bm = true) (hd : cd.hasDict = true) (hno : PySem.W.findIn K (.ref C) f = some none)
    (hq : ∀ h' tk' dx, (∀ b o, b ≠ e → hp.get? b = some o → h'.get? b = some o) → hp.objs.size ≤ dx → dx ≠ e → h'.get? e = some { cls := .ref C, dict := some dx, data := .fields fs } →
      h'.Ns1 dx (fun y => if y = f then some v else none) → R (.ok (.ret .none)) ⟨h', g, dr, tk', os⟩) :
    codeAny (model prog w) A (.call (.builtin "object.__setattr__") ⟨[.ref e, .str f tk, v], []⟩) R ⟨hp, g, dr, t, os⟩ := by
  have IA : PySem.W.InstAt hp e { cls := .ref C, data := .fields fs } C none := ⟨he, rfl, rfl, trivial⟩
  have S0 := PySem.F.store_object
  have ht2 : PySem.W.excTail bB (.ref C :: bm) = true := ht
  have hO : cd.mro.contains (.type "object") = true := by rw [hm, PySem.W.excTail_contains "object" _ ht2]; exact Bs.st.hasOwner
  have hne : cd.mro.isEmpty = false := by rw [hm]; rfl
  have hes : e ≠ hp.objs.size := Nat.ne_of_lt (Heap.lt_size he)
  have is0 : PySem.W.Looks (model prog w) hp (isInstance (.ref e) (.type "object")) true := IA.type.andThen (PySem.W.looks_mroIn X (by unfold PySem.W.mroIn; rw [hcd, Option.bind_some, if_neg (by rw [hne]; decide), hO]))
  refine codeAny_call_builtin S0.slot.plain S0.entry (@PySem.W.check_slot (model prog w) _ _ ⟨hp, g, dr, t, os⟩ "object.__setattr__" "object" "__setattr__" (.ref e) [.str f tk, v] [] _ S0.kind S0.split is0 (S0.args (.ref e) (.str f tk) v) ?_)
  have lm : PySem.W.Looks (model prog w) hp (mroOf (.ref C)) cd.mro := (PySem.W.looks_clsIn X hcd).andThen .now
  have ln : PySem.W.Looks (model prog w) hp (storeTaker? none) none := .now
  have lc : PySem.W.Looks (model prog w) hp (classData C) cd := PySem.W.looks_clsIn X hcd
  rw [PySem.W.osa_eq, refuse_eq]
  refine wpAny_bind (wpAny_bind (IA.type.at (wpAny_bind (lm.at ?_))))
  rw [hm, PySem.W.excTail_pass _ (Bs.st.passes _) _ ht2]
  refine wpAny_pure (wpAny_bind (IA.type.at (wpAny_bind ((PySem.W.looks_findIn X hno).at (wpAny_bind (ln.at ?_))))))
  show wpAny _ _ (storeInOwnDict (.ref e) (.ref C) (.str f tk) f v false) _ _ _
  obtain ⟨nm, bs, mro, ns, qn, hdic, sn, sb, ab, col, del⟩ := cd
  dsimp only at hd
  subst hd
  unfold storeInOwnDict ownDictForStores
  repeat (first | with_reducible refine store_in_new ?_ ?_ | with_reducible refine wpAny_loadPart_at he ?_ | with_reducible refine lc.at ?_ | wp_step)
  · exact ⟨_, #[], _, (Heap.get?_update_ne _ _ _ _ hes.symm).trans (Heap.get?_push_at rfl rfl), rfl, fun z hz => absurd hz (by simp), fun _ => rfl⟩
  · intro h' tk' hn' hs
    have he1 : (hp.push { cls := .type "dict", data := .dict #[] }).get? e = some { cls := .ref C, data := .fields fs } := Heap.get?_push_of_some _ he
    refine hq h' tk' hp.objs.size (fun b o hb ho => (hs.2 b (Nat.ne_of_lt (Heap.lt_size ho))).trans ((Heap.get?_update_ne _ _ _ _ hb).trans (Heap.get?_push_of_some _ ho))) (Nat.le_refl _) hes.symm ((hs.2 e hes).trans (Heap.get?_update_self _ he1 rfl)) hn'
end
section
variable {X : Cx} {pins : List (Addr × Obj)} {σ : L2.St} {H : Hp} {s : Shared} {e C : Addr} {f : Str} {y : V} {u : Value} {A : Around} {B nw ini : String} {bB : List Value}
/-- e.f = y, e an error that is being made -/
theorem err_field {Q : Unit → Shared → Prop} {E : Value → Shared → Prop} (Bs : Base B nw ini bB) (T : ErrC X.K C nw bB) (I : Inv X pins σ H s) (he : H e = some (exo e C none)) (hno : PySem.W.findIn X.K (.ref C) f = some none) (ry : RelV y u)
    (h : ∀ dx s', H dx = none → dx ≠ e → Inv X pins σ (upd (upd H dx (exd dx [(f, y)])) e (exo e C (some dx))) s' → Q () s') : wpAny (model X.prog X.w) A (setAttr (.ref e) f u) Q E s := by
  obtain ⟨nm, q, N, bs, bm, sn, sub, ab, col, dd, k0, k1, k2, k3, k5, hC, hbm⟩ := T.cls
  obtain ⟨cd, hcl, hmro, hdic⟩ : ∃ cd, PySem.W.clsIn X.K C = some cd ∧ cd.mro = .ref C :: bm ∧ cd.hasDict = true := ⟨_, by unfold PySem.W.clsIn; rw [hC] <;> rfl, rfl, rfl⟩
  obtain ⟨t1, ho⟩ := exo_at I.hok he
  obtain ⟨hp, g, d, t, os⟩ := s
  refine PySem.W.set_plain I.kIn (ox := { cls := .ref C, dict := none, data := .fields #[.ref t1, .none, .none, .none, .bool false, .none] }) (od := none) ⟨ho, rfl, rfl, trivial⟩ T.sa (err_set Bs I.kIn ho hcl hmro hbm hdic hno fun h' tk' dx k dn dne hx hn => ?_)
  have hnd : H dx = none := I.hok.fresh dn
  have old : ∀ {b : Addr} {o : Obj}, hp.get? b = some o → b ≠ dx := fun z => Nat.ne_of_lt (Nat.lt_of_lt_of_le (Heap.lt_size z) dn)
  have noe : ∀ {b : Addr}, H b = none → b ≠ e := fun z ez => by rw [ez, he] at z; cases z
  have un : Un X.fs [] H (upd (upd H dx (exd dx [(f, y)])) e (exo e C (some dx))) hp h' := {
    keep := fun b o z n _ _ => k b o (noe n) z
    slot := fun b o z n _ _ => ⟨o.slots, k b o (noe n) z⟩
    free := fun b o z n _ => (upd_ne (noe n)).trans ((upd_ne (old z)).trans n)
    there := fun b o z _ => by
      by_cases hb : b = e
      · subst hb; exact ⟨_, hx⟩
      · exact ⟨o, k b o hb z⟩
    tups := fun b xs z => (upd_ne (at_ne he z exo_tup)).trans ((upd_ne (ne_of_none z hnd)).trans z)
    frzs := fun b o v z => (upd_ne (at_ne he z exo_frz)).trans ((upd_ne (ne_of_none z hnd)).trans z)
    tbls := fun b ps z => ⟨#[], by rw [upd_ne (at_ne he z exo_tbl), upd_ne (ne_of_none z hnd), z]; simp⟩ }
  refine h dx _ hnd dne (I.un (t' := tk') un fun b o z => ?_)
  by_cases hb : b = e
  · subst hb
    rw [upd_same] at z
    cases z
    exact exo_ok hx
  · rw [upd_ne hb] at z
    by_cases hd : b = dx
    · subst hd
      rw [upd_same] at z
      cases z
      exact exd_ok hn (relO_put (fs := []) ry fun _ => True.intro)
    · rw [upd_ne hd] at z
      refine (I.hok b o z).stay (fun c v hc z2 => k c v ?_ z2) (fun c hc => (upd_ne (at_ne he hc exo_own)).trans ((upd_ne (ne_of_none hc hnd)).trans hc)) (fun c xs hc => (upd_ne (at_ne he hc exo_tup)).trans ((upd_ne (ne_of_none hc hnd)).trans hc))
      rcases hc with hc | hc
      · rw [hc]; exact hb
      · exact at_ne he hc exo_own
/-- the base's __init__ -/
theorem err_base {us : List Value} {Q : Value → Shared → Prop} {E : Value → Shared → Prop} (Bs : Base B nw ini bB) (T : ErrC X.K C nw bB) (I : Inv X pins σ H s) (he : H e = some (exo e C none)) (hl : us.length ≤ sizeLine) (h : ∀ s', Inv X pins σ H s' → Q .none s') :
    wpAny (model X.prog X.w) A (call (.builtin ini) (.ref e :: us)) Q E s := by
  obtain ⟨nm, q, N, bs, bm, sn, sub, ab, col, dd, k0, k1, k2, k3, k5, hC, hbm⟩ := T.cls
  obtain ⟨t1, ho⟩ := exo_at I.hok he
  obtain ⟨hp, g, d, t, os⟩ := s
  refine wpAny_call (PySem.HandSPX.init_base Bs.ex (fun Y => PySem.W.excTail_contains Y bm hbm) (I.kIn _ _ hC) ho hl fun h' t2 k hx => ?_)
  have J := I.write (t' := t) (x := e) (e := e) (o := exo e C none) (by rw [he]; trivial) (.inl rfl) k ⟨_, hx⟩ (exo_ok hx)
  rw [show upd H e (exo e C none) = H from funext fun b => by
    by_cases hb : b = e
    · subst hb; exact upd_same.trans he.symm
    · exact upd_ne hb] at J
  exact h _ J
end
/-- B.__init__(self, ..) -/
def tBInit (K : PySem.W.Frag) (nw : String) (bB : List Value) (ta : TA) : TE := fun σ H Q => ta σ H fun vs H1 => ∃ (e C : Addr) (ws : List V), vs = .ref e :: ws ∧ ws.length ≤ 1000 ∧ ErrC K C nw bB ∧ H1 e = some (exo e C none) ∧ Q .non H1
/-- self.f = e, the first field -/
def tFld (K : PySem.W.Frag) (nw : String) (bB : List Value) (f : Str) (to te : TE) : TS := fun D σ H => te σ H fun y H1 => to σ H1 fun x H2 => ∃ a C : Addr, x = .ref a ∧ ErrC K C nw bB ∧ PySem.W.findIn K (.ref C) f = some none ∧
  H2 a = some (exo a C none) ∧ ∀ dx, H2 dx = none → dx ≠ a → D.nx σ (upd (upd H2 dx (exd dx [(f, y)])) a (exo a C (some dx)))
section
variable {X : Cx} {o e : Expr} {es : List Expr} {to te : TE} {ta : TA} {f : Str} {p p' p1 p2 pos : Pos} {B nw ini : String} {bB : List Value}
theorem pe_binit {pl : Sem Bool} (Bs : Base B nw ini bB) (hg : Gl X (Str.ofString B)) (hm : X.mg (Str.ofString B) = none) (hb : bootBuiltins (Str.ofString B) = some (.type B)) (hst : Manifest.isStub B = false) (hin : PySem.W.handedIn (.builtin ini) = true)
    (vV : PySem.W.findCls X.K (.type B) (.type "type") "__init__" = some (.val (.builtin ini))) (hnd : Str.ofString B ≠ "__name__") (hnc : (Str.ofString B == ("__debug__" : Str)) = false) (ha : PA X (e :: es) ta)
    (hc : eval (.Call (.Attribute (.Name (Str.ofString B) p1) "__init__" p2) (e :: es) [] pos) X.env = (do
      let ov ← eval (.Name (Str.ofString B) p1) X.env
      standAt p2.atName
      let (f, first) ← holding [ov] (getMethod ov "__init__" pl)
      callWith pos f first (backTo pos (starEach (e :: es) X.env)) (backToKw pos (keywordEach [] X.env))) := by rfl)
    (he : starEach (e :: es) X.env = (false, eval e X.env) :: starEach es X.env := by rfl) (hpl : (backTo pos (starEach es X.env)).any (·.1) = false := by rfl) :
    PE X (.Call (.Attribute (.Name (Str.ofString B) p1) "__init__" p2) (e :: es) [] pos) (tBInit X.K nw bB ta) := by
  refine ⟨fun pins s σ H Q I h => PySem.W.methodCall_KW (ld_blt I hg hm hb ?_ hnd hnc) hc⟩
  obtain ⟨m, fr⟩ := I.fr
  refine PySem.W.method_type fr I.ok.mod.kin Bs.ty hst vV hin ?_
  show wpAny _ _ (callWith pos (Value.builtin ini) [] (backTo pos (starEach (e :: es) X.env)) []) _ _ _
  refine PyProof.Rows.callWith_method1 (thn (ha.run pos pins _ σ H _ (I.tok _) h) fun us s1 ⟨vs, H1, I1, r1, a, C, ws, ev, hl, T, ea, q⟩ => ?_) he hpl
  subst ev
  cases r1 with
  | @cons _ u0 _ ur ra rw' =>
    obtain rfl : u0 = Value.ref a := ra
    exact err_base Bs T I1 ea (by rw [← Paired.length rw', sizeLine_eq]; omega) fun s' J => ⟨.non, H1, J, rfl, q⟩
theorem ps_fld (Bs : Base B nw ini bB) (ho : PE X o to) (he : PE X e te) (hs : swapsWith e (some (.Attribute o f p')) pos.line X.env = pure false := by rfl) : PS X (.Assign [.Attribute o f p'] e pos) (tFld X.K nw bB f to te) := by
  refine ⟨fun pins s σ H D I h => plainObj_wpAny_Assign_Attribute (thn (he.run pins s σ H _ I h) fun v s1 ⟨y, H1, I1, r1, q1⟩ => thn (ho.run pins s1 σ H1 _ I1 q1) fun u s2 ⟨x, H2, I2, r2, a, C, ex, T, hno, ea, q⟩ => ?_) hs⟩
  subst ex
  obtain rfl : u = Value.ref a := r2
  exact err_field Bs T I2 ea hno r1 fun dx s' n ne J => ⟨σ, _, J, q dx n ne⟩
end
end DL
namespace DL
open PySem PySem.Spec PySem.Calls PyProof.Rows L2
end DL
namespace DL
open PySem PySem.Spec PySem.Calls PyProof.Rows L2
abbrev mroB (B : String) : List Value := [.type B, .type "Exception", .type "BaseException", .type "object"]
theorem base_ValueError : Base "ValueError" "ValueError.__new__" "ValueError.__init__" (mroB "ValueError") := ⟨PySem.F.excBase_ValueError, PySem.F.store_ValueError, by kernel_rfl, PyProof.Rows.Boot.«ValueError»⟩
/-- what such an __init__ keeps -/
def spInit (K : PySem.W.Frag) (nw : String) (bB : List Value) (f : Str) : Sp := fun vs H Q _ => ∃ (a C : Addr) (y : V), vs = [.ref a, y] ∧ ErrC K C nw bB ∧ PySem.W.findIn K (.ref C) f = some none ∧ H a = some (exo a C none) ∧
  ∀ dx, H dx = none → dx ≠ a → Q .non (upd (upd H dx (exd dx [(f, y)])) a (exo a C (some dx)))
theorem spInit_len {K : PySem.W.Frag} {nw : String} {bB : List Value} {f : Str} : ∀ vs H Q E, spInit K nw bB f vs H Q E → vs.length = 2 := by
  rintro vs H Q E ⟨a, C, y, rfl, _⟩
  rfl
/-- the statements of a class's __init__ -/
def initSt (s : Stmt) : Stmt := match s with
  | .ClassDef _ _ _ body .. => (body.find? fun s => match s with | .FunctionDef .. => true | _ => false).getD s
  | s => s
theorem init_fin {K : PySem.W.Frag} {nw : String} {bB : List Value} {f m : Str} {vs : List V} {H : Hp} {Q : VK} {E : XK} (h : spInit K nw bB f vs H Q E) :
    tSeq (tDrop (tBInit K nw bB (tCons (tVar 0) (tCons (tC (.str m)) tNil)))) (tFld K nw bB f (tVar 0) (tVar 1)) { nx := fun _ H' => Q .non H', rt := Q } (L2.start [("self" : Str), f] vs) H := by
  obtain ⟨a, C, y, rfl, T, hno, ha, q⟩ := h
  exact ⟨_, rfl, a, C, [V.str m], rfl, Nat.le_of_ble_eq_true rfl, T, ha, _, rfl, _, rfl, a, C, rfl, T, hno, ha, q⟩
end DL
namespace DL
open PySem PySem.Spec PySem.Calls PyProof.Rows L2
end DL
namespace DL
open PySem PySem.Spec PySem.Calls PyProof.Rows L2
end DL
namespace DL
open PySem PySem.Spec L2
/-- an error class n of the program with the field f -/
structure ErrF (P : Program) (w : World) (K : Frag) (mg : Str → Option Value) (base : Heap) (n f : Str) (B nw ini : String) (bB : List Value) : Prop where
  bs : Base B nw ini bB
  glo : mg n = some (.ref (He.ga K n))
  cls : ErrC K (He.ga K n) nw bB
  fld : PySem.W.findIn K (.ref (He.ga K n)) f = some none
  ini : ∃ fI fd, PySem.W.findIn K (.ref (He.ga K n)) "__init__" = some (some (.ref fI)) ∧ PySem.W.typeIn K (.ref fI) = some (.type "function") ∧ FnOk P w K mg base (L2.CX P w) 1 fI fd ["self", f] (spInit K nw bB f) ∧ Binds K fd ["self", f] []
section
variable {X : Cx} {W : WX}
theorem PostS.any {K : Frag} {W W' : WX} {w : Wd} {f : Fl} {e : Env} {M : Mem} {D : Ends} (p : PostS K W w (.go f e M) D) : PostS K W' w (.go f e M) D := by
  cases f with
  | nx => exact p
  | bk => exact p
  | ct => exact p
  | rt x => exact p
end
end DL
namespace DL
open PySem PySem.Spec L2
def errIn (K : PySem.W.Frag) (C : Addr) (bB : List Value) (nw : String) : Bool := match K.lookup C with
  | some ⟨.type "type", _, .cls cd, sl⟩ => (match cd.mro, sl.toList with
    | .ref D :: bm, [_, _, _, _, some (.builtin n), _] => decide (D = C) && (decide (n = nw) && ((!cd.hasDel) && (cd.hasDict && PySem.W.excTail bB bm)))
    | _, _ => false)
  | _ => false
theorem errIn_ok {K : PySem.W.Frag} {C : Addr} {bB : List Value} {nw : String} (h : errIn K C bB nw = true) : ∃ nm q N bs bm sn sub ab col dd k0 k1 k2 k3 k5, K.lookup C = some (excClassObj nm q C N bs bm true sn sub ab col dd k0 k1 k2 k3 k5 nw) ∧ PySem.W.excTail bB bm = true := by
  unfold errIn at h
  split at h
  · rename_i dd cd sl ho
    split at h
    · rename_i D bm k0 k1 k2 k3 n k5 hm hs
      obtain ⟨h1, h⟩ := He.ba h
      obtain ⟨h2, h⟩ := He.ba h
      obtain ⟨h3, h⟩ := He.ba h
      obtain ⟨h4, h5⟩ := He.ba h
      have h1 := of_decide_eq_true h1
      have h2 := of_decide_eq_true h2
      subst h1 h2
      obtain ⟨nm, bs, mro, ns, qn, hd, sn, sub, ab, col, del⟩ := cd
      dsimp only at hm h3 h4
      subst hm h4
      have h3 : del = false := by simpa using h3
      subst h3
      have hsl : sl = #[k0, k1, k2, k3, some (.builtin n), k5] := by
        obtain ⟨l⟩ := sl
        exact congrArg Array.mk hs
      subst hsl
      exact ⟨nm, qn, ns, bs, bm, sn, sub, ab, col, dd, k0, k1, k2, k3, k5, ho, h5⟩
    · cases h
  · cases h
def clsV (o : Option PySem.W.CFound) (i : String) : Bool := match o with
  | some (.val (.builtin j)) => decide (j = i)
  | _ => false
theorem clsV_ok {o : Option PySem.W.CFound} {i : String} (h : clsV o i = true) : o = some (.val (.builtin i)) := by
  unfold clsV at h
  split at h
  · have := of_decide_eq_true h
    subst this
    rfl
  · cases h
/-- an error class of the program: its name, its field, the built-in class it stands under -/
structure Xf where
  x : Str
  f : Str
  B : String
  nw : String
  ini : String
  bB : List Value
def Xf.ok (K : PySem.W.Frag) (c : Xf) : Bool :=
  He.eqO (PySem.W.nsIn K mainGlobals c.x) (some (some (.ref (He.ga K c.x)))) && (errIn K (He.ga K c.x) c.bB c.nw && (He.eqO (PySem.W.findIn K (.ref (He.ga K c.x)) "__setattr__") (some (some (.builtin "object.__setattr__"))) &&
  (decide (PySem.W.subIn K (.ref (He.ga K c.x)) (.type "BaseException") = some true) && (decide (PySem.W.typeIn K (.ref (He.ga K c.x)) = some (.type "type")) && (PySem.W.keepIn K (.ref (He.ga K c.x)) &&
  (He.eqO (PySem.W.findIn K (.ref (He.ga K c.x)) c.f) (some none) && (He.eqO (PySem.W.findIn K (.ref (He.ga K c.x)) "__init__") (some (some (.ref (He.ma K (He.ga K c.x) "__init__")))) &&
  (decide (PySem.W.typeIn K (.ref (He.ma K (He.ga K c.x) "__init__")) = some (.type "function")) && (He.eqO (PySem.W.nsIn K mainGlobals (Str.ofString c.B)) (some none) && clsV (PySem.W.findCls K (.type c.B) (.type "type") "__init__") c.ini)))))))))
structure XfOk (K : PySem.W.Frag) (c : Xf) : Prop where
  glo : PySem.W.nsIn K mainGlobals c.x = some (some (.ref (He.ga K c.x)))
  cls : ErrC K (He.ga K c.x) c.nw c.bB
  fld : PySem.W.findIn K (.ref (He.ga K c.x)) c.f = some none
  iC : PySem.W.findIn K (.ref (He.ga K c.x)) "__init__" = some (some (.ref (He.ma K (He.ga K c.x) "__init__")))
  tI : PySem.W.typeIn K (.ref (He.ma K (He.ga K c.x) "__init__")) = some (.type "function")
  fr : PySem.W.nsIn K mainGlobals (Str.ofString c.B) = some none
  vV : PySem.W.findCls K (.type c.B) (.type "type") "__init__" = some (.val (.builtin c.ini))
theorem Xf.of {K : PySem.W.Frag} {c : Xf} (h : c.ok K = true) : XfOk K c := by
  unfold Xf.ok at h
  obtain ⟨h1, h⟩ := He.ba h
  obtain ⟨h2, h⟩ := He.ba h
  obtain ⟨h3, h⟩ := He.ba h
  obtain ⟨h4, h⟩ := He.ba h
  obtain ⟨h5, h⟩ := He.ba h
  obtain ⟨h6, h⟩ := He.ba h
  obtain ⟨h7, h⟩ := He.ba h
  obtain ⟨h8, h⟩ := He.ba h
  obtain ⟨h9, h⟩ := He.ba h
  obtain ⟨h10, h11⟩ := He.ba h
  exact ⟨He.eqO_ok h1, ⟨errIn_ok h2, He.eqO_ok h3, of_decide_eq_true h4, of_decide_eq_true h5, h6⟩, He.eqO_ok h7, He.eqO_ok h8, of_decide_eq_true h9, He.eqO_ok h10, clsV_ok h11⟩
abbrev AlX : Type := He.AlD × Bool
def obsX (fa : List He.Fa) (fn : List He.DefD) (xs : List Xf) (K : PySem.W.Frag) : AlX := (He.obsD fa fn K, xs.all fun c => c.ok K)
def valX (fn : List He.DefD) : AlX := (He.valD fn, true)
def SaysX (fa : List He.Fa) (fn : List He.DefD) (xs : List Xf) (K : PySem.W.Frag) : Prop := obsX fa fn xs K = valX fn
def obsXG (n : Nat) (fa : List He.Fa) (fn : List He.DefD) (xs : List Xf) (g : Addr → Option Obj) : AlX := obsX fa fn xs (He.frG g (He.asD g n))
def hookX (n : Nat) (fa : List He.Fa) (fn : List He.DefD) (xs : List Xf) : PySem.W.Hook where
  α := AlX
  obs := fun s => obsXG n fa fn xs s.heap.get?
  val := fun _ => valX fn
  says := fun _ h => ∃ K : PySem.W.Frag, K.In h ∧ SaysX fa fn xs K
  of := fun _ _ e => ⟨_, He.frG_in, e⟩
  keeps := fun _ _ _ ⟨K, hK, c⟩ k => ⟨K, PySem.W.Frag.In.keeps hK k, c⟩
theorem obsXG_eq {n : Nat} {fa : List He.Fa} {fn : List He.DefD} {xs : List Xf} {g : Addr → Option Obj} {s : Shared} (h : ∀ a, g a = s.heap.get? a) : obsXG n fa fn xs g = (hookX n fa fn xs).obs s := by
  have e : g = s.heap.get? := funext h
  subst e
  rfl
theorem SaysX.d {fa : List He.Fa} {fn : List He.DefD} {xs : List Xf} {K : PySem.W.Frag} (c : SaysX fa fn xs K) : He.SaysD fa fn K := congrArg (fun z : AlX => z.1) c
theorem SaysX.err {fa : List He.Fa} {fn : List He.DefD} {xs : List Xf} {K : PySem.W.Frag} (c : SaysX fa fn xs K) (i : Nat) {e : Xf} (h : xs[i]? = some e := by rfl) : XfOk K e :=
  Xf.of (List.all_eq_true.mp (show (xs.all fun c => c.ok K) = true from congrArg (fun z : AlX => z.2) c) e (List.mem_of_getElem? h))
/-- such a class, for raising -/
theorem XfOk.errF {P : Program} {w : World} {K : PySem.W.Frag} {mg : Str → Option Value} {base h : Heap} {c : Xf} {fd : FuncData} (o : XfOk K c) (X : K.In h) (G : h.Ns mainGlobals mg) (bs : Base c.B c.nw c.ini c.bB)
    (F : FnOk P w K mg base (L2.CX P w) 1 (He.ma K (He.ga K c.x) "__init__") fd ["self", c.f] (spInit K c.nw c.bB c.f)) (hb : Binds K fd ["self", c.f] []) : (mg c.x = some (.ref (He.ga K c.x)) ∧ PySem.W.findIn K (.ref (He.ga K c.x)) c.f = some none) ∧ ErrC K (He.ga K c.x) c.nw c.bB ∧
    ∃ fI fd, PySem.W.findIn K (.ref (He.ga K c.x)) "__init__" = some (some (.ref fI)) ∧ PySem.W.typeIn K (.ref fI) = some (.type "function") ∧ FnOk P w K mg base (L2.CX P w) 1 fI fd ["self", c.f] (spInit K c.nw c.bB c.f) ∧ Binds K fd ["self", c.f] [] :=
  ⟨⟨PySem.W.mg_of X G o.glo, o.fld⟩, o.cls, _, fd, o.iC, o.tI, F, hb⟩
end DL
namespace DL
open PySem PySem.Spec L2
theorem all_cons {X : Cx} {n : Str} {ps : Pos} {v : Value} {l : List ((Str × Pos) × Value)} (h : Names X n v) (k : ∀ p ∈ l, Names X p.1.1 p.2) : ∀ p ∈ ((n, ps), v) :: l, Names X p.1.1 p.2 := fun q hq => by
  rcases List.mem_cons.mp hq with rfl | hq
  · exact h
  · exact k q hq
end DL
namespace DL
open PySem PySem.Spec L2
theorem get_set_eq {α : Type} {l : List α} {i : Nat} {x y : α} (h : (l.set i x)[i]? = some y) : y = x := by
  have := lt_of_getL h
  rw [List.length_set] at this
  rw [List.getElem?_set_self this] at h
  exact (Option.some.inj h).symm
theorem get_set_ne {α : Type} {l : List α} {i j : Nat} {x : α} (h : i ≠ j) : (l.set i x)[j]? = l[j]? := List.getElem?_set_ne h
/-- after some exchanges: who began at seat a is where P tells, with so many coins more -/
structure Trk (P : List Nat) (G : List Int) (ss : List Nat) (ps : List Int) (s1 : List Nat) (p1 : List Int) : Prop where
  seat : ∀ (x a c : Nat), ss[x]? = some a → s1[x]? = some c → P[c]? = some a
  coin : ∀ (x a : Nat) (p q g : Int), ss[x]? = some a → ps[x]? = some p → p1[x]? = some q → G[a]? = some g → q = p + g
def Enough (N : List Int) (ss : List Nat) (ps : List Int) : Prop := ∀ (x a : Nat) (p m : Int), ss[x]? = some a → ps[x]? = some p → N[a]? = some m → m ≤ p
structure OneP (n : Nat) (cs : List Nat) (P : List Nat) (G N : List Int) : Prop where
  perm : P.Perm (List.range n)
  gl : G.length = n
  nl : N.length = n
  n0 : ∀ (a : Nat) (m : Int), N[a]? = some m → 0 ≤ m
  go : ∀ (ss : List Nat) (ps : List Int), Stt n ss ps → Enough N ss ps → ∃ s1 p1, Run n ss ps cs s1 p1 ∧ Trk P G ss ps s1 p1
  back : ∀ (ss : List Nat) (ps : List Int) (s1 : List Nat) (p1 : List Int), Stt n ss ps → Run n ss ps cs s1 p1 → Enough N ss ps
theorem OneP.zero {n : Nat} : OneP n [] (List.range n) (List.replicate n 0) (List.replicate n 0) where
  perm := List.Perm.refl _
  gl := by simp
  nl := by simp
  n0 := fun a m h => by
    have := List.eq_of_mem_replicate (List.mem_of_getElem? h)
    omega
  go := fun ss ps h _ => ⟨ss, ps, .nil, ⟨fun x a c h1 h2 => by
    have e : a = c := by rw [h1] at h2; exact Option.some.inj h2
    subst e
    rw [List.getElem?_range (h.lt h1)], fun x a p q g _ h1 h2 h3 => by
    have := List.eq_of_mem_replicate (List.mem_of_getElem? h3)
    rw [h1] at h2
    cases h2
    omega⟩⟩
  back := fun ss ps s1 p1 h _ x a p m _ hp hm => by
    have := List.eq_of_mem_replicate (List.mem_of_getElem? hm)
    have := h.nn p (List.mem_of_getElem? hp)
    omega
theorem OneP.step {n c a t : Nat} {cs P : List Nat} {G N : List Int} {ga gt ma : Int} (O : OneP n cs P G N) (h2 : 2 ≤ n) (hc : c < n) (ha : P[c]? = some a) (ht : P[(c + 1) % n]? = some t) (hga : G[a]? = some ga) (hgt : G[t]? = some gt) (hma : N[a]? = some ma) :
    a ≠ t ∧ OneP n (cs ++ [c]) ((P.set c t).set ((c + 1) % n) a) ((G.set a (ga - 1)).set t (gt + 1)) (N.set a (max ma (1 - ga))) := by
  obtain ⟨hne, hlt⟩ := next_ne h2 hc
  have PP := PN.of_perm O.perm
  have hpl : P.length = n := by rw [O.perm.length_eq, List.length_range]
  have hat : a ≠ t := fun e => hne (PP.inj _ _ _ (e ▸ ht) ha)
  generalize hb : (c + 1) % n = b at *
  have la := lt_of_getL hga
  have lt := lt_of_getL hgt
  have lm := lt_of_getL hma
  have lc : c < P.length := by omega
  have lb : b < P.length := by omega
  have main : ∀ (ss : List Nat) (ps : List Int), Stt n ss ps → ∀ s1 p1, Run n ss ps cs s1 p1 → Trk P G ss ps s1 p1 → ∃ (x y : Nat) (px qy : Int), s1[x]? = some c ∧ s1[y]? = some b ∧ ss[x]? = some a ∧ ss[y]? = some t ∧ ps[x]? = some px ∧ p1[x]? = some (px + ga) ∧ p1[y]? = some qy := by
    intro ss ps h s1 p1 R T
    obtain ⟨h1, _⟩ := R.ok h h2
    obtain ⟨x, hx⟩ := h1.onto hc
    obtain ⟨y, hy⟩ := h1.onto hlt
    obtain ⟨qx, hqx, _⟩ := h1.purse hx
    obtain ⟨qy, hqy, _⟩ := h1.purse hy
    obtain ⟨a0, ha0⟩ := get_some (show x < ss.length by have := lt_of_getL hx; rw [h1.slen] at this; rw [h.slen]; exact this)
    obtain ⟨t0, ht0⟩ := get_some (show y < ss.length by have := lt_of_getL hy; rw [h1.slen] at this; rw [h.slen]; exact this)
    obtain ⟨px, hpx, _⟩ := h.purse ha0
    have e1 : a0 = a := by have := T.seat x a0 c ha0 hx; rw [ha] at this; exact (Option.some.inj this).symm
    have e2 : t0 = t := by have := T.seat y t0 b ht0 hy; rw [ht] at this; exact (Option.some.inj this).symm
    subst e1 e2
    have := T.coin x a0 px qx ga ha0 hpx hqx hga
    subst this
    exact ⟨x, y, px, qy, hx, hy, ha0, ht0, hpx, hqx, hqy⟩
  refine ⟨hat, ?_, by simp [O.gl], by simp [O.nl], fun i m hm => ?_, fun ss ps h E => ?_, fun ss ps s2 p2 h R => ?_⟩
  · have := List.set_set_perm (as := P) lc lb
    have ec : P[c] = a := by rw [List.getElem?_eq_getElem lc] at ha; exact Option.some.inj ha
    have eb : P[b] = t := by rw [List.getElem?_eq_getElem lb] at ht; exact Option.some.inj ht
    rw [ec, eb] at this
    exact this.trans O.perm
  · by_cases hi : a = i
    · subst hi
      have := get_set_eq hm
      have := O.n0 _ _ hma
      omega
    · rw [get_set_ne hi] at hm
      exact O.n0 _ _ hm
  · have E0 : Enough N ss ps := fun x a1 p m hx hp hm => by
      by_cases hi : a = a1
      · subst hi
        rw [hma] at hm
        cases hm
        have := E x a p (max ma (1 - ga)) hx hp (List.getElem?_set_self lm)
        omega
      · exact E x a1 p m hx hp (by rw [get_set_ne hi]; exact hm)
    obtain ⟨s1, p1, R, T⟩ := O.go ss ps h E0
    obtain ⟨h1, _⟩ := R.ok h h2
    obtain ⟨x, y, px, qy, hx, hy, hax, hty, hpx, hqx, hqy⟩ := main ss ps h s1 p1 R T
    have hxy : x ≠ y := fun e => hne (by rw [e, hy] at hx; exact Option.some.inj hx)
    have hp0 : 0 < px + ga := by
      have := E x a px (max ma (1 - ga)) hax hpx (List.getElem?_set_self lm)
      omega
    have X : Ex n s1 p1 c ((s1.set x b).set y c) ((p1.set x (px + ga - 1)).set y (qy + 1)) := ⟨⟨x, y, px + ga, qy, hx, by rw [hb]; exact hy, hqx, hp0, hqy, by rw [hb], rfl⟩⟩
    refine ⟨_, _, R.snoc X, ⟨fun z a1 d hz hd => ?_, fun z a1 p q g hz hp hq hg => ?_⟩⟩
    · by_cases hzy : y = z
      · subst hzy
        obtain rfl := get_set_eq hd
        rw [hty] at hz
        cases hz
        rw [get_set_ne hne, List.getElem?_set_self lc]
      · rw [get_set_ne hzy] at hd
        by_cases hzx : x = z
        · subst hzx
          obtain rfl := get_set_eq hd
          rw [hax] at hz
          cases hz
          exact List.getElem?_set_self (by simpa using lb)
        · rw [get_set_ne hzx] at hd
          have n1 : b ≠ d := fun e => hzy (h1.inj hy (e ▸ hd))
          have n2 : c ≠ d := fun e => hzx (h1.inj hx (e ▸ hd))
          rw [get_set_ne n1, get_set_ne n2]
          exact T.seat z a1 d hz hd
    · by_cases hzy : y = z
      · subst hzy
        rw [hty] at hz
        cases hz
        obtain rfl := get_set_eq hq
        obtain rfl := get_set_eq hg
        have := T.coin y t p qy gt hty hp hqy hgt
        omega
      · rw [get_set_ne hzy] at hq
        by_cases hzx : x = z
        · subst hzx
          rw [hax] at hz
          cases hz
          obtain rfl := get_set_eq hq
          rw [get_set_ne (Ne.symm hat)] at hg
          obtain rfl := get_set_eq hg
          rw [hpx] at hp
          cases hp
          omega
        · rw [get_set_ne hzx] at hq
          have n1 : t ≠ a1 := fun e => hzy (h.inj hty (e ▸ hz))
          have n2 : a ≠ a1 := fun e => hzx (h.inj hax (e ▸ hz))
          rw [get_set_ne n1, get_set_ne n2] at hg
          exact T.coin z a1 p q g hz hp hq hg
  · obtain ⟨s1, p1, R1, X⟩ := R.last
    have E0 := O.back ss ps s1 p1 h R1
    obtain ⟨s1', p1', R1', T⟩ := O.go ss ps h E0
    obtain ⟨e1, e2⟩ := R1.det h h2 R1'
    subst e1 e2
    obtain ⟨h1, _⟩ := R1.ok h h2
    obtain ⟨x, y, px, qy, hx, hy, hax, hty, hpx, hqx, hqy⟩ := main ss ps h s1 p1 R1 T
    obtain ⟨j, k, p, q, a1, _, a3, a4, _⟩ := X.ex
    have := h1.inj a1 hx
    subst this
    rw [hqx] at a3
    cases a3
    intro z b1 p m hz hp hm
    by_cases hi : a = b1
    · subst hi
      have := get_set_eq hm
      have e := h.inj hz hax
      subst e
      rw [hpx] at hp
      cases hp
      have := E0 _ _ _ _ hz hpx hma
      omega
    · rw [get_set_ne hi] at hm
      exact E0 z b1 p m hz hp hm
end DL
namespace DL
open PySem PySem.Spec L2
/-- the seat after k passes, the coins gained in them -/
def fI (E : List Nat) : Nat → Nat → Nat
  | 0, a => a
  | k + 1, a => E.getD (fI E k a) 0
def cI (E : List Nat) (G : List Int) : Nat → Nat → Int
  | 0, _ => 0
  | k + 1, a => cI E G k a + G.getD (fI E k a) 0
def repR (cs : List Nat) : Nat → List Nat
  | 0 => []
  | k + 1 => repR cs k ++ cs
theorem Run.catP {n : Nat} {ss s1 s2 as bs : List Nat} {ps p1 p2 : List Int} (R : Run n ss ps as s1 p1) (R2 : Run n s1 p1 bs s2 p2) : Run n ss ps (as ++ bs) s2 p2 := by
  induction R2 with
  | nil => rw [List.append_nil]; exact R
  | snoc _ x ih => rw [← List.append_assoc]; exact ih.snoc x
theorem Run.splitP {n : Nat} {ss as : List Nat} {ps : List Int} : ∀ {bs : List Nat} {s2 : List Nat} {p2 : List Int}, Run n ss ps (as ++ bs) s2 p2 → ∃ s1 p1, Run n ss ps as s1 p1 ∧ Run n s1 p1 bs s2 p2 := by
  intro bs
  induction hb : bs.length generalizing bs with
  | zero =>
    intro s2 p2 R
    obtain rfl := List.length_eq_zero_iff.mp hb
    rw [List.append_nil] at R
    exact ⟨s2, p2, R, .nil⟩
  | succ m ih =>
    intro s2 p2 R
    obtain ⟨l, c, rfl⟩ : ∃ l c, bs = l ++ [c] := ⟨bs.dropLast, bs.getLast (by intro e; rw [e] at hb; simp at hb), (List.dropLast_concat_getLast _).symm⟩
    rw [← List.append_assoc] at R
    obtain ⟨s1, p1, R1, x⟩ := R.last
    obtain ⟨s0, p0, R0, R0'⟩ := ih (bs := l) (by simpa using hb) R1
    exact ⟨s0, p0, R0, R0'.snoc x⟩
/-- nobody has too little in the first k passes -/
def Paid (E : List Nat) (G N : List Int) (ss : List Nat) (ps : List Int) (k : Nat) : Prop := ∀ (i x a : Nat) (p m : Int), i < k → ss[x]? = some a → ps[x]? = some p → N[fI E i a]? = some m → m ≤ p + cI E G i a
section
variable {n : Nat} {cs P E : List Nat} {G N : List Int}
theorem OneP.seat1 (O : OneP n cs P G N) (V : Inv2 P E) {ss s1 : List Nat} {ps p1 : List Int} (T : Trk P G ss ps s1 p1) (h : Stt n ss ps) (h1 : Stt n s1 p1) {x a : Nat} (hx : ss[x]? = some a) : s1[x]? = some (E.getD a 0) := by
  obtain ⟨c, hc⟩ := get_some (show x < s1.length by have := lt_of_getL hx; rw [h.slen] at this; rw [h1.slen]; exact this)
  have := V.at_ c a (T.seat x a c hx hc)
  rw [hc, List.getD_eq_getElem?_getD, this]
  rfl
theorem OneP.coin1 (O : OneP n cs P G N) {ss s1 : List Nat} {ps p1 : List Int} (T : Trk P G ss ps s1 p1) (h : Stt n ss ps) (h1 : Stt n s1 p1) {x a : Nat} {p : Int} (hx : ss[x]? = some a) (hp : ps[x]? = some p) : p1[x]? = some (p + G.getD a 0) := by
  obtain ⟨q, hq⟩ := get_some (show x < p1.length by have := lt_of_getL hx; rw [h.slen] at this; rw [h1.len]; exact this)
  obtain ⟨g, hg⟩ := get_some (show a < G.length by rw [O.gl]; exact h.lt hx)
  rw [hq, T.coin x a p q g hx hp hq hg, List.getD_eq_getElem?_getD, hg]
  rfl
theorem OneP.many (O : OneP n cs P G N) (V : Inv2 P E) (h2 : 2 ≤ n) {ss : List Nat} {ps : List Int} (h : Stt n ss ps) : ∀ k, Paid E G N ss ps k →
    ∃ s p, Run n ss ps (repR cs k) s p ∧ (∀ x a : Nat, ss[x]? = some a → s[x]? = some (fI E k a)) ∧ ∀ (x a : Nat) (q : Int), ss[x]? = some a → ps[x]? = some q → p[x]? = some (q + cI E G k a)
  | 0, _ => ⟨ss, ps, .nil, fun x a hx => hx, fun x a q _ hq => by rw [hq]; show some q = some (q + 0); rw [Int.add_zero]⟩
  | k + 1, H => by
    obtain ⟨s, p, R, S, C⟩ := OneP.many O V h2 h k fun i x a p m hi => H i x a p m (by omega)
    obtain ⟨h1, _⟩ := R.ok h h2
    have En : Enough N s p := fun x b q m hb hq hm => by
      have hx : x < n := by have := lt_of_getL hb; rwa [h1.slen] at this
      obtain ⟨a, ha⟩ := get_some (show x < ss.length by rw [h.slen]; exact hx)
      obtain ⟨q0, hq0⟩ := get_some (show x < ps.length by rw [h.len]; exact hx)
      have e1 := S x a ha
      rw [hb] at e1
      cases e1
      have e2 := C x a q0 ha hq0
      rw [hq] at e2
      cases e2
      exact H k x a q0 m (Nat.lt_succ_self k) ha hq0 hm
    obtain ⟨s1, p1, R1, T⟩ := O.go s p h1 En
    obtain ⟨h3, _⟩ := R1.ok h1 h2
    refine ⟨s1, p1, R.catP R1, fun x a hx => O.seat1 V T h1 h3 (S x a hx), fun x a q hx hq => ?_⟩
    rw [O.coin1 T h1 h3 (S x a hx) (C x a q hx hq)]
    show some (q + cI E G k a + G.getD (fI E k a) 0) = some (q + (cI E G k a + G.getD (fI E k a) 0))
    rw [Int.add_assoc]
theorem OneP.paid (O : OneP n cs P G N) (V : Inv2 P E) (h2 : 2 ≤ n) {ss : List Nat} {ps : List Int} (h : Stt n ss ps) : ∀ (k : Nat) (s : List Nat) (p : List Int), Run n ss ps (repR cs k) s p → Paid E G N ss ps k
  | 0, _, _, _ => fun i x a p m hi => by omega
  | k + 1, s, p, R => by
    obtain ⟨s1, p1, R1, R2⟩ := Run.splitP R
    have H := OneP.paid O V h2 h k s1 p1 R1
    obtain ⟨s1', p1', R1', S, C⟩ := O.many V h2 h k H
    obtain ⟨e1, e2⟩ := R1.det h h2 R1'
    subst e1 e2
    obtain ⟨h1, _⟩ := R1.ok h h2
    have En := O.back s1 p1 s p h1 R2
    intro i x a q m hi ha hq hm
    by_cases hik : i < k
    · exact H i x a q m hik ha hq hm
    · obtain rfl : i = k := by omega
      exact En x _ _ m (S x a ha) (C x a q ha hq) hm
end
end DL
namespace DL
open PySem PySem.Spec L2
theorem few_nodup : ∀ (n : Nat) (xs : List Nat), xs.Nodup → (∀ x ∈ xs, x < n) → xs.length ≤ n := by
  intro n
  induction n with
  | zero =>
    intro xs _ h
    cases xs with
    | nil => exact Nat.le_refl _
    | cons x _ => exact absurd (h x List.mem_cons_self) (Nat.not_lt_zero _)
  | succ n ih =>
    intro xs hd h
    by_cases hm : n ∈ xs
    · have h1 := ih (xs.erase n) (hd.erase n) fun x hx => by
        obtain ⟨a, b⟩ := hd.mem_erase_iff.mp hx
        have := h x b
        omega
      rw [List.length_erase_of_mem hm] at h1
      omega
    · have := ih xs hd fun x hx => by
        have := h x hx
        have : x ≠ n := fun e => hm (e ▸ hx)
        omega
      omega
/-- a permutation, as a list -/
structure EP (n : Nat) (E : List Nat) : Prop where
  lt : ∀ a, a < n → E.getD a 0 < n
  inj : ∀ a b, a < n → b < n → E.getD a 0 = E.getD b 0 → a = b
theorem EP.of {n : Nat} {P E : List Nat} (h : P.Perm (List.range n)) (V : Inv2 P E) : EP n E := by
  have hl : P.length = n := by rw [h.length_eq, List.length_range]
  have key : ∀ a, a < n → ∃ k, P[k]? = some a ∧ E.getD a 0 = k := fun a ha => by
    obtain ⟨k, hk⟩ := onto_of_perm h a (by omega)
    refine ⟨k, hk, ?_⟩
    rw [List.getD_eq_getElem?_getD, V.at_ k a hk]
    rfl
  refine ⟨fun a ha => ?_, fun a b ha hb e => ?_⟩
  · obtain ⟨k, hk, e⟩ := key a ha
    rw [e, ← hl]
    exact lt_of_getL hk
  · obtain ⟨k, hk, e1⟩ := key a ha
    obtain ⟨j, hj, e2⟩ := key b hb
    rw [e1, e2] at e
    subst e
    rw [hk] at hj
    exact Option.some.inj hj
section
variable {n : Nat} {E : List Nat} {G N : List Int}
theorem fI_add (E : List Nat) : ∀ (i j a : Nat), fI E (i + j) a = fI E i (fI E j a)
  | 0, j, a => by rw [Nat.zero_add]; rfl
  | i + 1, j, a => by
    rw [show i + 1 + j = (i + j) + 1 by omega]
    show E.getD (fI E (i + j) a) 0 = E.getD (fI E i (fI E j a)) 0
    rw [fI_add E i j a]
theorem cI_add (E : List Nat) (G : List Int) : ∀ (i j a : Nat), cI E G (i + j) a = cI E G j a + cI E G i (fI E j a)
  | 0, j, a => by rw [Nat.zero_add]; show _ = _ + 0; rw [Int.add_zero]
  | i + 1, j, a => by
    rw [show i + 1 + j = (i + j) + 1 by omega]
    show cI E G (i + j) a + G.getD (fI E (i + j) a) 0 = cI E G j a + (cI E G i (fI E j a) + G.getD (fI E i (fI E j a)) 0)
    rw [cI_add E G i j a, fI_add E i j a, Int.add_assoc]
theorem EP.fI_lt (h : EP n E) {a : Nat} (ha : a < n) : ∀ k, fI E k a < n
  | 0 => ha
  | k + 1 => h.lt _ (h.fI_lt ha k)
theorem EP.fI_inj (h : EP n E) {a b : Nat} (ha : a < n) (hb : b < n) : ∀ k, fI E k a = fI E k b → a = b
  | 0, e => e
  | k + 1, e => h.fI_inj ha hb k (h.inj _ _ (h.fI_lt ha k) (h.fI_lt hb k) e)
/-- L is the length of the circuit of a -/
structure Circ (n : Nat) (E : List Nat) (a L : Nat) : Prop where
  pos : 0 < L
  le : L ≤ n
  back : fI E L a = a
  first : ∀ j, 0 < j → j < L → fI E j a ≠ a
theorem EP.circ (h : EP n E) {a : Nat} (ha : a < n) : ∃ L, Circ n E a L := by
  have ex : ∃ j, 0 < j ∧ j ≤ n ∧ fI E j a = a := by
    refine Classical.byContradiction fun no => ?_
    have nd : ((List.range (n + 1)).map fun k => fI E k a).Nodup := by
      rw [List.nodup_iff_pairwise_ne, List.pairwise_map]
      refine List.pairwise_lt_range.imp_of_mem ?_
      intro i j hi hj hij e
      have hj' := List.mem_range.mp hj
      refine no ⟨j - i, by omega, by omega, ?_⟩
      have e2 : fI E i (fI E (j - i) a) = fI E i a := by
        rw [← fI_add, show i + (j - i) = j by omega, e]
      exact h.fI_inj (h.fI_lt ha _) ha i e2
    have := few_nodup n _ nd fun x hx => by
      obtain ⟨k, _, rfl⟩ := List.mem_map.mp hx
      exact h.fI_lt ha k
    simp at this
    omega
  have least : ∀ m, (∃ j, 0 < j ∧ j ≤ m ∧ fI E j a = a) → ∃ L, 0 < L ∧ L ≤ m ∧ fI E L a = a ∧ ∀ j, 0 < j → j < L → fI E j a ≠ a := by
    intro m
    induction m with
    | zero => rintro ⟨j, h1, h2, _⟩; omega
    | succ m ih =>
      rintro ⟨j, h1, h2, h3⟩
      by_cases q : ∃ j, 0 < j ∧ j ≤ m ∧ fI E j a = a
      · obtain ⟨L, a1, a2, a3, a4⟩ := ih q
        exact ⟨L, a1, by omega, a3, a4⟩
      · exact ⟨j, h1, h2, h3, fun i hi hij e => q ⟨i, hi, by omega, e⟩⟩
  obtain ⟨L, a1, a2, a3, a4⟩ := least n ex
  exact ⟨L, a1, a2, a3, a4⟩
theorem Circ.rounds {a L : Nat} (h : Circ n E a L) : ∀ q, fI E (q * L) a = a ∧ cI E G (q * L) a = q * cI E G L a
  | 0 => by rw [Nat.zero_mul]; exact ⟨rfl, by show (0 : Int) = _; simp⟩
  | q + 1 => by
    obtain ⟨e1, e2⟩ := Circ.rounds h q
    rw [show (q + 1) * L = L + q * L by rw [Nat.add_mul]; omega, fI_add, cI_add, e1, e2]
    refine ⟨h.back, ?_⟩
    push_cast
    rw [Int.add_mul]
    omega
theorem Circ.at_ {a L : Nat} (h : Circ n E a L) (q r : Nat) : fI E (q * L + r) a = fI E r a ∧ cI E G (q * L + r) a = q * cI E G L a + cI E G r a := by
  obtain ⟨e1, e2⟩ := h.rounds (G := G) q
  rw [Nat.add_comm, fI_add, cI_add, e1, e2]
  exact ⟨rfl, rfl⟩
/-- the k-th pass cannot be paid with c coins from seat a -/
def Fails (E : List Nat) (G N : List Int) (a : Nat) (c : Int) (k : Nat) : Prop := c + cI E G k a < N.getD (fI E k a) 0
/-- what the program gathers at the places of the circuit -/
def foundI (E : List Nat) (G N : List Int) (a L : Nat) (c : Int) (at_ : Nat) : Option Int :=
  if c + cI E G at_ a - N.getD (fI E at_ a) 0 < 0 then some (at_ : Nat)
  else if 0 < -cI E G L a then some (((c + cI E G at_ a - N.getD (fI E at_ a) 0) / -cI E G L a + 1) * (L : Nat) + (at_ : Nat)) else none
theorem found_of_fails {a L k : Nat} {c : Int} (h : Circ n E a L) (F : Fails E G N a c k) : ∃ r v, r < L ∧ foundI E G N a L c r = some v ∧ v ≤ (k : Nat) := by
  obtain ⟨e1, e2⟩ := h.at_ (G := G) (k / L) (k % L)
  have ek : k / L * L + k % L = k := by rw [Nat.mul_comm]; exact Nat.div_add_mod k L
  rw [ek] at e1 e2
  unfold Fails at F
  rw [e1, e2] at F
  have hr := Nat.mod_lt k h.pos
  generalize hrr : k % L = r at *
  generalize hqq : k / L = q at *
  by_cases hs : c + cI E G r a - N.getD (fI E r a) 0 < 0
  · refine ⟨r, (r : Nat), hr, if_pos hs, ?_⟩
    have : r ≤ k := by rw [← ek]; exact Nat.le_add_left _ _
    omega
  · have hq : c + cI E G r a - N.getD (fI E r a) 0 < q * -cI E G L a := by rw [Int.mul_neg]; omega
    have hl : 0 < -cI E G L a := by
      refine Classical.byContradiction fun no => ?_
      have : (q : Int) * -cI E G L a ≤ 0 := Int.mul_nonpos_of_nonneg_of_nonpos (by omega) (by omega)
      omega
    refine ⟨r, _, hr, (if_neg hs).trans (if_pos hl), ?_⟩
    generalize c + cI E G r a - N.getD (fI E r a) 0 = s at *
    generalize -cI E G L a = l at *
    have h1 : s / l < q := Int.ediv_lt_of_lt_mul hl hq
    have h2 : (s / l + 1) * (L : Int) ≤ q * (L : Int) := Int.mul_le_mul_of_nonneg_right (by omega) (by omega)
    have h3 : ((q * L : Nat) : Int) = (q : Int) * (L : Int) := by push_cast; rfl
    omega
theorem fails_of_found {a L r : Nat} {c v : Int} (h : Circ n E a L) (F : foundI E G N a L c r = some v) : 0 ≤ v ∧ Fails E G N a c v.toNat := by
  unfold foundI at F
  split at F
  · rename_i hs
    obtain rfl := Option.some.inj F
    refine ⟨by omega, ?_⟩
    unfold Fails
    rw [Int.toNat_natCast]
    omega
  · rename_i hs
    split at F
    · rename_i hl
      obtain rfl := Option.some.inj F
      have hq0 : 0 ≤ (c + cI E G r a - N.getD (fI E r a) 0) / -cI E G L a := Int.ediv_nonneg (by omega) (by omega)
      obtain ⟨q, hq⟩ := Int.eq_ofNat_of_zero_le (show 0 ≤ (c + cI E G r a - N.getD (fI E r a) 0) / -cI E G L a + 1 by omega)
      have hlt := Int.lt_ediv_add_one_mul_self (c + cI E G r a - N.getD (fI E r a) 0) hl
      rw [hq] at hlt ⊢
      have e : (q : Int) * (L : Int) + (r : Int) = ((q * L + r : Nat) : Int) := by push_cast; rfl
      rw [e]
      refine ⟨by omega, ?_⟩
      rw [Int.toNat_natCast]
      unfold Fails
      obtain ⟨e1, e2⟩ := h.at_ (G := G) q r
      rw [e1, e2]
      rw [Int.mul_neg] at hlt
      omega
    · cases F
end
end DL
namespace DL
open PySem PySem.Spec L2
def opS (n : Nat) (z : List Nat × List Int × List Int) (c : Nat) : List Nat × List Int × List Int :=
  ((z.1.set c (z.1.getD ((c + 1) % n) 0)).set ((c + 1) % n) (z.1.getD c 0),
   (z.2.1.set (z.1.getD c 0) (z.2.1.getD (z.1.getD c 0) 0 - 1)).set (z.1.getD ((c + 1) % n) 0) (z.2.1.getD (z.1.getD ((c + 1) % n) 0) 0 + 1),
   z.2.2.set (z.1.getD c 0) (max (z.2.2.getD (z.1.getD c 0) 0) (1 - z.2.1.getD (z.1.getD c 0) 0)))
def opL (n : Nat) (cs : List Nat) : List Nat × List Int × List Int := cs.foldl (opS n) (List.range n, List.replicate n 0, List.replicate n 0)
theorem getD_of {α : Type} {l : List α} {i : Nat} {x d : α} (h : l[i]? = some x) : l.getD i d = x := by rw [List.getD_eq_getElem?_getD, h]; rfl
theorem OneP.opS {n c : Nat} {cs P : List Nat} {G N : List Int} (O : OneP n cs P G N) (h2 : 2 ≤ n) (hc : c < n) :
    ∃ (a t : Nat) (ga gt ma : Int), P[c]? = some a ∧ P[(c + 1) % n]? = some t ∧ G[a]? = some ga ∧ G[t]? = some gt ∧ N[a]? = some ma ∧ a ≠ t ∧ DL.opS n (P, G, N) c = ((P.set c t).set ((c + 1) % n) a, (G.set a (ga - 1)).set t (gt + 1), N.set a (max ma (1 - ga))) ∧
      OneP n (cs ++ [c]) ((P.set c t).set ((c + 1) % n) a) ((G.set a (ga - 1)).set t (gt + 1)) (N.set a (max ma (1 - ga))) := by
  have hpl : P.length = n := by rw [O.perm.length_eq, List.length_range]
  have PP := PN.of_perm O.perm
  obtain ⟨hne, hlt⟩ := next_ne h2 hc
  obtain ⟨a, ha⟩ := get_some (show c < P.length by omega)
  obtain ⟨t, ht⟩ := get_some (show (c + 1) % n < P.length by omega)
  have la : a < n := by have := PP.lt c a ha; omega
  have lt : t < n := by have := PP.lt _ t ht; omega
  obtain ⟨ga, hga⟩ := get_some (show a < G.length by rw [O.gl]; exact la)
  obtain ⟨gt, hgt⟩ := get_some (show t < G.length by rw [O.gl]; exact lt)
  obtain ⟨ma, hma⟩ := get_some (show a < N.length by rw [O.nl]; exact la)
  obtain ⟨hat, O'⟩ := O.step h2 hc ha ht hga hgt hma
  refine ⟨a, t, ga, gt, ma, ha, ht, hga, hgt, hma, hat, ?_, O'⟩
  unfold DL.opS
  dsimp only
  rw [getD_of ha, getD_of ht, getD_of hga, getD_of hgt, getD_of hma]
theorem opL_snoc (n : Nat) (cs : List Nat) (c : Nat) : opL n (cs ++ [c]) = opS n (opL n cs) c := by
  unfold opL
  rw [List.foldl_append]
  rfl
theorem opL_ok {n : Nat} (h2 : 2 ≤ n) : ∀ (m : Nat) (cs : List Nat), cs.length = m → (∀ c ∈ cs, c < n) → OneP n cs (opL n cs).1 (opL n cs).2.1 (opL n cs).2.2 := by
  intro m
  induction m with
  | zero =>
    intro cs hl _
    obtain rfl := List.length_eq_zero_iff.mp hl
    exact OneP.zero
  | succ m ih =>
    intro cs hl hc
    obtain ⟨l, c, rfl⟩ : ∃ l c, cs = l ++ [c] := ⟨cs.dropLast, cs.getLast (by intro e; rw [e] at hl; simp at hl), (List.dropLast_concat_getLast _).symm⟩
    have O := ih l (by simpa using hl) fun x hx => hc x (List.mem_append_left _ hx)
    obtain ⟨a, t, ga, gt, ma, _, _, _, _, _, _, e, O'⟩ := O.opS h2 (hc c (by simp))
    rw [opL_snoc, show opL n l = ((opL n l).1, (opL n l).2.1, (opL n l).2.2) from rfl, e]
    exact O'
end DL
namespace DL
open PySem PySem.Spec L2
def minDD : List Int → PyData
  | [] => .none
  | v :: r => .int (minI v r)
theorem minDD_spec (xs : List Int) : (xs = [] ∧ minDD xs = .none) ∨ ∃ m, minDD xs = .int m ∧ m ∈ xs ∧ ∀ v ∈ xs, m ≤ v := by
  cases xs with
  | nil => exact .inl ⟨rfl, rfl⟩
  | cons v r =>
    refine .inr ⟨minI v r, rfl, ?_, fun w hw => ?_⟩
    · rcases minI_mem r v with h | h
      · rw [h]; exact List.mem_cons_self
      · exact List.mem_cons_of_mem _ h
    · obtain ⟨h1, h2⟩ := minI_le r v
      rcases List.mem_cons.mp hw with rfl | hw
      · exact h1
      · exact h2 w hw
/-- how long the circuit of a is -/
def cl (n : Nat) (E : List Nat) (a : Nat) : Nat := ((List.range n).find? fun L => fI E (L + 1) a == a).getD 0 + 1
section
variable {n : Nat} {E : List Nat} {G N : List Int}
theorem EP.cl (h : EP n E) {a : Nat} (ha : a < n) : Circ n E a (cl n E a) := by
  obtain ⟨L, C⟩ := h.circ ha
  have e : ((List.range n).find? fun L => fI E (L + 1) a == a) = some (L - 1) := by
    rw [List.find?_range_eq_some]
    have := C.pos
    refine ⟨?_, List.mem_range.mpr (by have := C.le; omega), fun j hj => ?_⟩
    · rw [show L - 1 + 1 = L by omega, C.back]
      simp
    · have := C.first (j + 1) (by omega) (by omega)
      simp [this]
  have e2 : DL.cl n E a = L := by
    unfold DL.cl
    rw [e]
    have := C.pos
    show L - 1 + 1 = L
    omega
  rw [e2]
  exact C
def firstL (n : Nat) (E : List Nat) (G N : List Int) (a : Nat) (c : Int) : List Int := (List.range (cl n E a)).filterMap (foundI E G N a (cl n E a) c)
theorem first_spec (h : EP n E) {a : Nat} (ha : a < n) (c : Int) : (minDD (firstL n E G N a c) = .none ∧ ∀ k, ¬ Fails E G N a c k) ∨ ∃ k : Nat, minDD (firstL n E G N a c) = nD k ∧ Fails E G N a c k ∧ ∀ j, j < k → ¬ Fails E G N a c j := by
  have C := h.cl ha
  have mem : ∀ k, Fails E G N a c k → ∃ v ∈ firstL n E G N a c, v ≤ (k : Nat) := fun k F => by
    obtain ⟨r, v, hr, e, hv⟩ := found_of_fails C F
    exact ⟨v, List.mem_filterMap.mpr ⟨r, List.mem_range.mpr hr, e⟩, hv⟩
  rcases minDD_spec (firstL n E G N a c) with ⟨h1, h2⟩ | ⟨m, h1, h2, h3⟩
  · refine .inl ⟨h2, fun k F => ?_⟩
    obtain ⟨v, hv, _⟩ := mem k F
    rw [h1] at hv
    cases hv
  · obtain ⟨r, _, e⟩ := List.mem_filterMap.mp h2
    obtain ⟨k0, F⟩ := fails_of_found C e
    refine .inr ⟨m.toNat, ?_, F, fun j hj Fj => ?_⟩
    · rw [h1]
      show PyData.int m = PyData.int ((m.toNat : Nat) : Int)
      rw [Int.toNat_of_nonneg k0]
    · obtain ⟨v, hv, hle⟩ := mem j Fj
      have := h3 v hv
      omega
def numOD : PyData → Option Int
  | .int v => some v
  | _ => none
/-- over all people -/
def manyL (n : Nat) (E : List Nat) (G N : List Int) (ss : List Nat) (ps : List Int) : List Int := (ss.zip ps).filterMap fun z => numOD (minDD (firstL n E G N z.1 z.2))
theorem many_spec (h : EP n E) (hN : N.length = n) {ss : List Nat} {ps : List Int} (st : Stt n ss ps) :
    (minDD (manyL n E G N ss ps) = .none ∧ ∀ k, Paid E G N ss ps k) ∨ ∃ k : Nat, minDD (manyL n E G N ss ps) = nD k ∧ Paid E G N ss ps k ∧ ¬ Paid E G N ss ps (k + 1) := by
  have zip_at : ∀ (x a : Nat) (p : Int), ss[x]? = some a → ps[x]? = some p → (a, p) ∈ ss.zip ps := fun x a p ha hp => by
    refine List.mem_of_getElem? (i := x) ?_
    rw [List.getElem?_zip_eq_some]
    exact ⟨ha, hp⟩
  have fails : ∀ (i x a : Nat) (p m : Int), ss[x]? = some a → ps[x]? = some p → N[fI E i a]? = some m → ¬ m ≤ p + cI E G i a → Fails E G N a p i := fun i x a p m _ _ hm no => by
    unfold Fails
    rw [getD_of hm]
    omega
  have key : ∀ (i x a : Nat) (p : Int), ss[x]? = some a → ps[x]? = some p → Fails E G N a p i → ∃ v ∈ manyL n E G N ss ps, v ≤ (i : Nat) := fun i x a p ha hp F => by
    rcases first_spec (G := G) (N := N) h (st.lt ha) p with ⟨_, no⟩ | ⟨k, e, _, least⟩
    · exact absurd F (no i)
    · refine ⟨(k : Nat), List.mem_filterMap.mpr ⟨(a, p), zip_at x a p ha hp, ?_⟩, ?_⟩
      · show numOD (minDD (firstL n E G N a p)) = _
        rw [e]
        rfl
      · by_cases hk : k ≤ i
        · omega
        · exact absurd F (least i (by omega))
  rcases minDD_spec (manyL n E G N ss ps) with ⟨h1, h2⟩ | ⟨m, h1, h2, h3⟩
  · refine .inl ⟨h2, fun k i x a p m _ ha hp hm => ?_⟩
    refine Classical.byContradiction fun no => ?_
    obtain ⟨v, hv, _⟩ := key i x a p ha hp (fails i x a p m ha hp hm no)
    rw [h1] at hv
    cases hv
  · obtain ⟨⟨a, p⟩, hz, e⟩ := List.mem_filterMap.mp h2
    obtain ⟨x, hx⟩ := List.getElem?_of_mem hz
    obtain ⟨ha, hp⟩ := List.getElem?_zip_eq_some.mp hx
    have ha : ss[x]? = some a := ha
    have hp : ps[x]? = some p := hp
    rcases first_spec (G := G) (N := N) h (st.lt ha) p with ⟨e0, _⟩ | ⟨k, e0, F, _⟩
    · rw [show minDD (firstL n E G N (a, p).1 (a, p).2) = .none from e0] at e
      cases e
    · rw [show minDD (firstL n E G N (a, p).1 (a, p).2) = nD k from e0] at e
      obtain rfl : ((k : Nat) : Int) = m := Option.some.inj e
      refine .inr ⟨k, h1, fun i x a p m hi ha hp hm => ?_, fun H => ?_⟩
      · refine Classical.byContradiction fun no => ?_
        obtain ⟨v, hv, hle⟩ := key i x a p ha hp (fails i x a p m ha hp hm no)
        have := h3 v hv
        omega
      · obtain ⟨m, hm⟩ := get_some (show fI E k a < N.length by rw [hN]; exact h.fI_lt (st.lt ha) k)
        have := H k x a p m (Nat.lt_succ_self k) ha hp hm
        unfold Fails at F
        rw [getD_of hm] at F
        omega
end
end DL
namespace DL
open PySem PySem.Spec L2
end DL
namespace DL
open PySem PySem.Spec PyProof.Rows L2
/-- what is written of the class of a kept error -/
structure KepC (K : Frag) (C : Addr) : Prop where
  cl : (PySem.W.clsIn K C).isSome = true
  ga : PySem.W.findIn K (.ref C) "__getattribute__" = some (some (.builtin "BaseException.__getattribute__"))
  gg : PySem.W.findIn K (.ref C) "__getattr__" = some none
  exC : PySem.W.subIn K (.ref C) (.type "BaseException") = some true
  hd : PySem.W.hasDictIn K C = true
  ha : PySem.W.findIn K (.ref C) "__class__" = some (some (.builtin "object.__class__"))
  hn : PySem.W.specialIn K (.builtin "object.__class__") "__get__" = some (some (.builtin "getset_descriptor.__get__"))
  ht : PySem.W.takesIn K (.builtin "object.__class__") = some true
  hm : PySem.W.mroIn K C (.type "object") = some true
def kepB (K : Frag) (C : Addr) : Bool := (PySem.W.clsIn K C).isSome && (He.eqO (PySem.W.findIn K (.ref C) "__getattribute__") (some (some (.builtin "BaseException.__getattribute__"))) && (He.eqO (PySem.W.findIn K (.ref C) "__getattr__") (some none) &&
  (decide (PySem.W.subIn K (.ref C) (.type "BaseException") = some true) && (PySem.W.hasDictIn K C && (He.eqO (PySem.W.findIn K (.ref C) "__class__") (some (some (.builtin "object.__class__"))) &&
  (He.eqO (PySem.W.specialIn K (.builtin "object.__class__") "__get__") (some (some (.builtin "getset_descriptor.__get__"))) && (decide (PySem.W.takesIn K (.builtin "object.__class__") = some true) && decide (PySem.W.mroIn K C (.type "object") = some true))))))))
end DL
namespace DL
open PySem PySem.Spec PySem.Calls PyProof.Rows L2
end DL
namespace DL
open PySem PySem.Spec PyProof.Rows L2
/-- a class of errors that are kept: name, built-in base, fields -/
structure Ke where
  x : Str
  B : String
  fs : List Str
structure Kt (K : Frag) (ks : List Ke) (ts : List String) : Prop where
  kep : ∀ p ∈ ks, KepC K (He.ga K p.x)
  fld : ∀ p ∈ ks, ∀ f ∈ p.fs, PySem.W.findIn K (.ref (He.ga K p.x)) f = some none
  ty : ∀ p ∈ ks, ∀ T ∈ ts, PySem.W.kitOne K (.ref (He.ga K p.x)) (.type T) = kitB p.B T
  ow : ∀ p ∈ ks, ∀ q ∈ ks, PySem.W.kitOne K (.ref (He.ga K p.x)) (.ref (He.ga K q.x)) = some (decide (p.x = q.x))
  ex : ∀ p ∈ ks, ∀ q ∈ ks, PySem.W.exmOne K (.ref (He.ga K p.x)) (.ref (He.ga K q.x)) = some (decide (p.x = q.x))
  ns : ∀ p ∈ ks, PySem.W.nsIn K mainGlobals p.x = some (some (.ref (He.ga K p.x)))
  nn : ∀ p ∈ ks, PySem.W.kitOne K (.type "NoneType") (.ref (He.ga K p.x)) = some false
def ktB (K : Frag) (ks : List Ke) (ts : List String) : Bool := ks.all fun p => kepB K (He.ga K p.x) && ((p.fs.all fun f => He.eqO (PySem.W.findIn K (.ref (He.ga K p.x)) f) (some none)) && ((ts.all fun T => decide (PySem.W.kitOne K (.ref (He.ga K p.x)) (.type T) = kitB p.B T)) &&
  ((ks.all fun q => decide (PySem.W.kitOne K (.ref (He.ga K p.x)) (.ref (He.ga K q.x)) = some (decide (p.x = q.x)))) && ((ks.all fun q => decide (PySem.W.exmOne K (.ref (He.ga K p.x)) (.ref (He.ga K q.x)) = some (decide (p.x = q.x)))) && (He.eqO (PySem.W.nsIn K mainGlobals p.x) (some (some (.ref (He.ga K p.x)))) && decide (PySem.W.kitOne K (.type "NoneType") (.ref (He.ga K p.x)) = some false))))))
def keOf (ks : List Ke) (n : Str) : Option Ke := ks.find? fun p => decide (p.x = n)
theorem keOf_mem {ks : List Ke} {n : Str} {p : Ke} (h : keOf ks n = some p) : p ∈ ks ∧ p.x = n := ⟨List.mem_of_find?_eq_some h, by have z := List.find?_some h; simpa using z⟩
theorem Kt.exm {K : Frag} {ks : List Ke} {ts : List String} (kt : Kt K ks ts) {ns : List Str} (h : ns.all (fun n => (keOf ks n).isSome) = true) : ∀ n ∈ ns, ∀ m ∈ ns, PySem.W.exmOne K (.ref (He.ga K n)) (.ref (He.ga K m)) = some (decide (n = m)) := fun n hn m hm => by
  obtain ⟨p, hp⟩ := Option.isSome_iff_exists.mp (List.all_eq_true.mp h n hn)
  obtain ⟨q, hq⟩ := Option.isSome_iff_exists.mp (List.all_eq_true.mp h m hm)
  obtain ⟨p1, p2⟩ := keOf_mem hp
  obtain ⟨q1, q2⟩ := keOf_mem hq
  rw [← p2, ← q2]
  exact kt.ex p p1 q q1
theorem Kt.glo {K : Frag} {ks : List Ke} {ts : List String} (kt : Kt K ks ts) {h : Heap} {mg : Str → Option Value} (X : K.In h) (G : h.Ns mainGlobals mg) : ∀ p ∈ ks, mg p.x = some (.ref (He.ga K p.x)) := fun p hp => PySem.W.mg_of X G (kt.ns p hp)
section
variable {X : Cx} {W : WX} {ks : List Ke} {ts : List String}
theorem Rel.fzX {K : Frag} {w : Wd} {M : Mem} {H : Hp} (r : Rel K w M H) {q : Addr} {o : HO} (h : H q = some o) (h1 : w.F q = none) (h2 : q ∉ w.as) (h3 : w.P q = none) : Rel K (w.fz q o) M H := by
  refine ⟨fun a u e => ?_, r.len, r.nd, fun a u e => ?_, fun i a m e1 e2 => ?_⟩
  · have e : upd w.F q o a = some u := e
    by_cases ha : a = q
    · subst ha; rw [upd_same] at e; cases e; exact h
    · rw [upd_ne ha] at e; exact r.sub a u e
  · obtain ⟨q1, q2, q3⟩ := r.pin a u e
    have ha : a ≠ q := fun z => by
      have e : w.P a = some u := e
      rw [z, h3] at e
      cases e
    exact ⟨q1, by show upd w.F q o a = none; rw [upd_ne ha]; exact q2, q3⟩
  · have ha : a ≠ q := fun z => h2 (z ▸ List.mem_of_getElem? e1)
    exact (r.ob i a m e1 e2).up (Wd.le_fz h1) (.inr (by show _ = upd w.F q o a; rw [upd_ne ha]))
theorem Rel.keep {K : Frag} {w : Wd} {M : Mem} {H : Hp} (r : Rel K w M H) {a : Addr} (na : H a = none) {d : Option Addr} {fs : List (Str × PyData)} (xd : XD K w H d fs) (n : Str) :
    ∃ w2, w.le w2 ∧ Rel K w2 M (upd H a (errO a (.ref (He.ga K n)) d)) ∧ RV K w2 (.x n fs) (.ref a) := by
  by_cases e : fs = []
  · exact ⟨_, Wd.le_fz (r.new na).2, r.alloc na _, a, d, rfl, upd_same, fun _ => xd.1 e, fun z => absurd e z⟩
  · obtain ⟨q, vs, hd, hq, e3, e4, e5, e6, e7⟩ := xd.2 e
    have r1 := r.fzX hq e5 e6 e7
    have hne : q ≠ a := ne_of_none hq na
    have l1 : w.le (w.fz q (.xd vs)) := Wd.le_fz e5
    have l2 := Wd.le_fz (w := w.fz q (.xd vs)) (o := errO a (.ref (He.ga K n)) d) (r1.new na).2
    exact ⟨_, l1.trans l2, r1.alloc na _, a, d, rfl, upd_same, fun z => absurd z e, fun _ => ⟨q, vs, hd, (upd_ne hne).trans upd_same, e3, DpAll.up (l1.trans l2).2 _ _ e4⟩⟩
end
end DL
namespace DL
open PySem PySem.Spec PyProof.Rows L2
end DL
namespace DL
open PySem PySem.Spec L2
abbrev AlY : Type := AlX × Bool
def obsY (fa : List He.Fa) (fn : List He.DefD) (xs : List Xf) (ks : List Ke) (ts : List String) (K : PySem.W.Frag) : AlY := (obsX fa fn xs K, ktB K ks ts)
def valY (fn : List He.DefD) : AlY := (valX fn, true)
def SaysY (fa : List He.Fa) (fn : List He.DefD) (xs : List Xf) (ks : List Ke) (ts : List String) (K : PySem.W.Frag) : Prop := obsY fa fn xs ks ts K = valY fn
theorem SaysY.x {fa : List He.Fa} {fn : List He.DefD} {xs : List Xf} {ks : List Ke} {ts : List String} {K : PySem.W.Frag} (c : SaysY fa fn xs ks ts K) : SaysX fa fn xs K := congrArg (fun z : AlY => z.1) c
end DL
namespace DL
open PySem PySem.Spec L2 DL DL.C
theorem Ex.back {n c : Nat} {ss ss' : List Nat} {ps ps' : List Int} (h : Stt n ss ps) (h2 : 2 ≤ n) (x : Ex n ss ps c ss' ps') : Ex n ss' ps' c ss ps := by
  obtain ⟨j, k, p, q, a1, a2, a3, a4, a5, rfl, rfl⟩ := x.ex
  have hc : c < n := List.mem_range.mp (h.perm.mem_iff.mp (List.mem_of_getElem? a1))
  have hne := (next_ne h2 hc).1
  have hjk : j ≠ k := fun e => hne (by rw [e, a2] at a1; exact Option.some.inj a1)
  have lj := lt_of_getL a1
  have lk := lt_of_getL a2
  have pj := lt_of_getL a3
  have pk := lt_of_getL a5
  have hq0 : 0 ≤ q := h.nn q (List.mem_of_getElem? a5)
  refine ⟨k, j, q + 1, p - 1, ?_, ?_, ?_, by omega, ?_, ?_, ?_⟩
  · rw [List.getElem?_set_self (by simpa using lk)]
  · rw [List.getElem?_set_ne (Ne.symm hjk), List.getElem?_set_self lj]
  · rw [List.getElem?_set_self (by simpa using pk)]
  · rw [List.getElem?_set_ne (Ne.symm hjk), List.getElem?_set_self pj]
  · apply List.ext_getElem?
    intro i
    by_cases hi : i = j
    · subst hi
      rw [List.getElem?_set_self (by simpa using lj), a1]
    · rw [List.getElem?_set_ne (Ne.symm hi)]
      by_cases hi2 : i = k
      · subst hi2
        rw [List.getElem?_set_self (by simpa using lk), a2]
      · rw [List.getElem?_set_ne (Ne.symm hi2), List.getElem?_set_ne (Ne.symm hi2), List.getElem?_set_ne (Ne.symm hi)]
  · apply List.ext_getElem?
    intro i
    by_cases hi : i = j
    · subst hi
      rw [List.getElem?_set_self (by simpa using pj), a3]
      congr 1
      omega
    · rw [List.getElem?_set_ne (Ne.symm hi)]
      by_cases hi2 : i = k
      · subst hi2
        rw [List.getElem?_set_self (by simpa using pk), a5]
        congr 1
        omega
      · rw [List.getElem?_set_ne (Ne.symm hi2), List.getElem?_set_ne (Ne.symm hi2), List.getElem?_set_ne (Ne.symm hi)]
theorem Run.cons {n c : Nat} {ss s1 s2 cs : List Nat} {ps p1 p2 : List Int} (x : Ex n ss ps c s1 p1) (R : Run n s1 p1 cs s2 p2) : Run n ss ps (c :: cs) s2 p2 := by
  induction R with
  | nil => exact Run.nil.snoc x
  | snoc r y ih => exact ih.snoc y
theorem Run.split {n : Nat} {ss ss' cs : List Nat} {ps ps' : List Int} (R : Run n ss ps cs ss' ps') (i : Nat) : ∃ s p, Run n ss ps (cs.take i) s p ∧ Run n s p (cs.drop i) ss' ps' := by
  induction R with
  | nil => exact ⟨ss, ps, by rw [List.take_nil]; exact .nil, by rw [List.drop_nil]; exact .nil⟩
  | @snoc cs c s1 s2 p1 p2 r x ih =>
    by_cases hi : i ≤ cs.length
    · obtain ⟨s, p, r1, r2⟩ := ih
      refine ⟨s, p, ?_, ?_⟩
      · rw [List.take_append_of_le_length hi]; exact r1
      · rw [List.drop_append_of_le_length hi]; exact r2.snoc x
    · refine ⟨s2, p2, ?_, ?_⟩
      · rw [List.take_of_length_le (by simp; omega)]; exact r.snoc x
      · rw [List.drop_of_length_le (by simp; omega)]; exact .nil
end DL
namespace DL
open PySem PySem.Spec L2
end DL
namespace DL
open PySem PySem.Spec PySem.Calls PyProof.Rows L2
end DL
namespace DL
namespace B
open PySem PySem.Spec L2 DL
def g_box : Sv := (seqS (setS 2 (ifE (opT ltV (getV 1) (callE lenV (consA (getV 0) nilA))) (op2 ixV (getV 0) (getV 1)) (cst (.d (.int 0))))) (retS (newE (dispE (consA (op2 mulV (callE DL.absV (consA (getV 2) nilA)) (callE intV (consA (op2 geV (callE DL.absV (consA (getV 2) nilA)) (op2 powV (cst (.d (.int 10))) (cst (.d (.int 18))))) nilA))) (consA (op2 addV (op2 addV (op2 modV (getV 2) (cst (.d (.int 2147483629)))) (op2 mulV (cst (.d (.int 7919))) (getV 1))) (cst (.d (.int 55)))) (consA (cst (.d (.int 0))) nilA)))))))
def m_box : Fn := defM 3 1 g_box
def g_take (self : Fn) : Sv := (seqS (ifS (opT gtV (op2 ixV (getV 0) (cst (.d (.int 0)))) (cst (.d (.int 0)))) (seqS (setS 2 (op2 modV (op2 ixV (getV 0) (cst (.d (.int 0)))) (getV 1))) (seqS (asgS (op2 fdivV (op2 ixV (getV 0) (cst (.d (.int 0)))) (getV 1)) (subT (getV 0) (cst (.d (.int 0))))) (retS (getV 2)))) nopS) (seqS (ifS (opT gtV (getV 1) (op2 powV (cst (.d (.int 10))) (cst (.d (.int 7))))) (retS (op2 modV (op2 addV (callF 2 self (consA (getV 0) (consA (op2 powV (cst (.d (.int 10))) (cst (.d (.int 7)))) nilA))) (op2 mulV (op2 powV (cst (.d (.int 10))) (cst (.d (.int 7)))) (callF 2 self (consA (getV 0) (consA (op2 addV (op2 fdivV (op2 subV (getV 1) (cst (.d (.int 1)))) (op2 powV (cst (.d (.int 10))) (cst (.d (.int 7))))) (cst (.d (.int 1)))) nilA))))) (getV 1))) nopS) (seqS (asgS (op2 addV (op2 ixV (getV 0) (cst (.d (.int 2)))) (cst (.d (.int 1)))) (subT (getV 0) (cst (.d (.int 2))))) (seqS (setS 3 (op2 modV (op2 powV (op2 addV (op2 ixV (getV 0) (cst (.d (.int 1)))) (op2 mulV (cst (.d (.int 48271))) (op2 ixV (getV 0) (cst (.d (.int 2)))))) (cst (.d (.int 5)))) (cst (.d (.int 2147483647))))) (retS (op2 modV (op2 fdivV (op2 modV (op2 addV (op2 mulV (getV 3) (op2 addV (op2 modV (getV 3) (cst (.d (.int 30011)))) (cst (.d (.int 7))))) (op2 mulV (op2 ixV (getV 0) (cst (.d (.int 2)))) (cst (.d (.int 7919))))) (cst (.d (.int 2147483629)))) (cst (.d (.int 64)))) (getV 1)))))))
def m_take : Nat → Fn
  | 0 => fun _ _ => .st
  | n + 1 => defM 4 0 (g_take (m_take n))
def g_pick : Sv := (retS (op2 ixV (getV 1) (callF 2 (B.m_take 10) (consA (getV 0) (consA (callE lenV (consA (getV 1) nilA)) nilA)))))
def m_pick : Fn := defM 2 0 g_pick
def g_same (self : Fn) : Sv := (seqS (ifS (tstE (isiTE (getV 1) (consA (cst (.t "list")) (consA (cst (.t "tuple")) nilA)))) (seqS (ifS (orT (opT neV (callE isiV (consA (getV 0) (consA (cst (.t "list")) nilA))) (callE isiV (consA (getV 1) (consA (cst (.t "list")) nilA)))) (opT neV (callE isiV (consA (getV 0) (consA (cst (.t "tuple")) nilA))) (callE isiV (consA (getV 1) (consA (cst (.t "tuple")) nilA))))) (retS (cst (.d (.bool false)))) nopS) (retS (andE (op2 eqV (callE lenV (consA (getV 0) nilA)) (callE lenV (consA (getV 1) nilA))) (callE allV (consA (datE (lcE [2, 3] (zipI (getV 0) (getV 1)) (tupT 2 (consT (setT 2) (consT (setT 3) nilT))) (fun _ M => .ok true M) (callF 2 self (consA (getV 2) (consA (getV 3) nilA))))) nilA))))) nopS) (seqS (ifS (orT (opT isV (getV 1) (cst (.d .none))) (tstE (callE isiV (consA (getV 1) (consA (cst (.t "str")) nilA))))) (retS (andE (op2 eqV (getV 0) (getV 1)) (op2 eqV (callE isiV (consA (getV 0) (consA (cst (.t "str")) nilA))) (callE isiV (consA (getV 1) (consA (cst (.t "str")) nilA)))))) nopS) (retS (andE (callE isiV (consA (getV 0) (consA (cst (.t "int")) nilA))) (andE (op2 eqV (callE isiV (consA (getV 0) (consA (cst (.t "bool")) nilA))) (callE isiV (consA (getV 1) (consA (cst (.t "bool")) nilA)))) (op2 eqV (getV 0) (getV 1)))))))
def m_same : Nat → Fn
  | 0 => fun _ _ => .st
  | n + 1 => defM 4 0 (g_same (m_same n))
def g_strewn : Sv := (seqS (parS 2 3 (consA (newE (listE (getV 1))) (consA (newE (dispE nilA)) nilA))) (seqS (forS (rngI1 (callE lenV (consA (getV 2) nilA))) (setT 4) (dropS (methE appM (getV 3) (consA (methE popM (getV 2) (consA (callF 2 (B.m_take 10) (consA (getV 0) (consA (callE lenV (consA (getV 2) nilA)) nilA))) nilA)) nilA)))) (seqS (freeze 3) (retS (getV 3)))))
def m_strewn : Fn := defM 5 0 g_strewn
def g_some_pose : Sv := (seqS (setS 3 (callF 2 B.m_strewn (consA (getV 0) (consA (datE (rgE1 (getV 1))) nilA)))) (retS (tupE (consA (callE tupleV (consA (getV 3) nilA)) (consA (callE tupleV (consA (datE (lcE [4] (rngI1 (getV 1)) (setT 4) (fun _ M => .ok true M) (callF 2 (B.m_take 10) (consA (getV 0) (consA (op2 addV (getV 2) (cst (.d (.int 1)))) nilA))))) nilA)) nilA)))))
def m_some_pose : Fn := defM 5 0 g_some_pose
end B
end DL
namespace DL
open PySem PySem.Spec PyProof.Rows L2
end DL
namespace ZP
open PySem
open PySem.Sem (wp)
open PySem.Builtin.SmallTypes (nextOf)
abbrev IsZipB (h : Heap) (z TI TO : Addr) (f0 : Value) (b : Bool) : Prop :=
  h.get? z = some { cls := .type "zip", dict := none, data := .fields #[f0, .bool b, .bool false, .ref TI, .ref TO], slots := #[] }
def Fld (f0 : Value) : Prop := f0 = .none ∨ ∃ T : Addr, f0 = rawInt T
structure MidB (z TI TO : Addr) (f0 : Value) (fb : Bool) (its : List Value) (old : List Value) (B i : Nat) (h0 : Heap) (D L : List Src) (xs : List Value) (h : Heap) : Prop where
  zz : IsZipB h z TI TO f0 fb
  ti : isTup h TI its
  to : isTup h TO (xs ++ old.drop xs.length)
  dn : ∀ S ∈ D, S.st (i + 1) h
  nx : ∀ S ∈ L, S.st i h
  vs : Vals3 i h D xs
  sz : h0.objs.size ≤ h.objs.size
  kp : Kept (fun c => c ≠ z ∧ c ≠ TO ∧ c ∉ fps (D ++ L)) h0 h
/-- in the middle of a turn that makes a new tuple -/
structure MidS (z TI TO : Addr) (f0 : Value) (its old : List Value) (B i : Nat) (h0 : Heap) (D L : List Src) (xs : List Value) (h : Heap) : Prop where
  zz : IsZipB h z TI TO f0 true
  ti : isTup h TI its
  to : isTup h TO old
  dn : ∀ S ∈ D, S.st (i + 1) h
  nx : ∀ S ∈ L, S.st i h
  vs : Vals3 i h D xs
  sz : h0.objs.size ≤ h.objs.size
  kp : Kept (fun c => c ≠ z ∧ c ≠ TO ∧ c ∉ fps (D ++ L)) h0 h
section
variable {P : Program} {w : World} {A : Around} {E : Value → Shared → Prop} {s : Shared}
theorem alive_or {a : Addr} {Q : Option Obj → Shared → Prop} (h : Q (s.heap.get? a) s) : wpAny (model P w) A (loadIfAlive a) Q E s := by
  exact fun _ _ _ => h
theorem free_or {z TI TO : Addr} {f0 : Value} {b : Bool} {Q : Bool → Shared → Prop} (hz : IsZipB s.heap z TI TO f0 b) (hf : Fld f0) (h1 : Q true s)
    (h2 : f0 ≠ .none → ∀ h', IsZipB h' z TI TO f0 true → Heap.SameBut z s.heap h' → Q false { s with heap := h' }) : wpAny (model P w) A (Builtin.SmallTypes.ownedTupleIsFree (.ref z)) Q E s := by
  rcases hf with rfl | ⟨T, rfl⟩
  · unfold Builtin.SmallTypes.ownedTupleIsFree
    exact wpAny_bind (wpAny_field hz rfl (x := .none) rfl (wpAny_pure h1))
  · cases hT : s.heap.get? T with
    | some oT => exact wpAny_tupleHeld_zip hz hT (h2 fun q => nomatch q)
    | none =>
      unfold Builtin.SmallTypes.ownedTupleIsFree
      refine wpAny_bind (wpAny_field hz rfl (x := rawInt T) rfl ?_)
      show wpAny _ _ (loadIfAlive ((T : Int).toNat) >>= _) _ _ _
      rw [Int.toNat_natCast]
      refine wpAny_bind (alive_or ?_)
      rw [hT]
      simp only [Option.isNone_none, if_true]
      exact wpAny_pure h1
theorem next_all {z TI TO : Addr} {L : List Src} {B i : Nat} {old : List Value} {f0 : Value} {fb : Bool} {Q : Value → Shared → Prop} (hh : (∃ S ∈ L, S.n ≤ i) → A.handled = none) (hL : ∀ S ∈ L, SrcOk P w B S) (hA : Aparts L) (O : Own z TI TO L)
    (bz : z < B ∧ TI < B ∧ TO < B) (hB : B ≤ s.heap.objs.size) (hl : L.length ≤ 1000) (h0 : L ≠ [])
    (hf0 : Fld f0) (hz : IsZipB s.heap z TI TO f0 fb) (hTI : isTup s.heap TI (L.map fun S => .ref S.it)) (hTO : isTup s.heap TO old) (ho : old.length = L.length) (hs : ∀ S ∈ L, S.st i s.heap)
    (hQ : (∀ S ∈ L, i < S.n) → ∀ (h' : Heap) (xs : List Value) (T : Addr) (f1 : Value) (b1 : Bool) (old1 : List Value), IsZipB h' z TI TO f1 b1 → Fld f1 → isTup h' TI (L.map fun S => .ref S.it) → isTup h' TO old1 → old1.length = L.length → (∀ S ∈ L, S.st (i + 1) h') → Vals3 i h' L xs → isTup h' T xs → s.heap.objs.size ≤ T → T < h'.objs.size → (f0 = .none → f1 = rawInt T ∧ b1 = false) → (∃ hm : Heap, Vals3 i hm L xs ∧ hm.objs.size ≤ T) →
      Kept (fun c => c ≠ z ∧ c ≠ TO ∧ c ∉ fps L) s.heap h' → Q (.ref T) { s with heap := h' })
    (hE : (∃ S ∈ L, S.n ≤ i) → ∀ h' e, Kept (fun c => c ≠ z ∧ c ≠ TO ∧ c ∉ fps L) s.heap h' → (∃ o, h'.get? e = some o ∧ o.cls = .type "StopIteration") → E (.ref e) { s with heap := h' }) :
    wpAny (model P w) A (Builtin.«zip.__next__» ⟨[.ref z], []⟩) (fun fin s' => ∃ v, fin = .done (.ret v) ∧ Q v s') E s := by
  have hl2 : L.length ≤ sizeLine := Nat.le_trans hl (by decide)
  show wpAny _ _ (field (.ref z) 2 >>= _) _ _ _
  refine wpAny_bind (wpAny_field hz rfl (x := .bool false) rfl ?_)
  show wpAny _ _ (field (.ref z) 3 >>= _) _ _ _
  refine wpAny_bind (wpAny_field hz rfl (x := .ref TI) rfl ?_)
  refine wpAny_bind (wpAny_seqItems hTI rfl ?_)
  have hemp : ((L.map fun S => Value.ref S.it).toArray).isEmpty = false := by
    cases L with
    | nil => exact absurd rfl h0
    | cons _ _ => rfl
  simp only [hemp]
  show wpAny _ _ (Builtin.SmallTypes.ownedTupleIsFree (.ref z) >>= _) _ _ _
  refine wpAny_bind (free_or hz hf0 ?_ fun hnn h₀ hz₀ hs₀ => ?_)
  · simp only [if_true]
    refine wpAny_bind (wpAny_rule ?_)
    refine wpAny_bind (wpAny_field hz rfl (x := .ref TO) rfl ?_)
    refine wpAny_bind (wpAny_setField_rec hz (by simp) fun h₁ hz₁ hs₁ => ?_)
    replace hz₁ : IsZipB h₁ z TI TO .ellipsis fb := hz₁
    have M0 : MidB z TI TO .ellipsis fb (L.map fun S => .ref S.it) old B i s.heap [] L [] h₁ := by
      refine ⟨hz₁, hs₁.extBut _ _ O.zTI hTI, by simpa using hs₁.extBut _ _ O.zTO hTO, fun S hS => (List.not_mem_nil hS).elim, fun S hS => ?_, .nil, Nat.le_of_eq hs₁.1.symm, fun c o q e => hs₁.extBut c o q.1 e⟩
      exact (hL S hS).keep _ _ _ (hs S hS) fun c o hc e => hs₁.extBut c o (fun q => by
        rcases hc with hc | hc
        · exact O.z S hS (q ▸ hc)
        · rw [q] at hc; exact absurd bz.1 (Nat.not_lt.mpr hc)) e
    refine wpAny_bind ?_
    refine wpAny_forIn_list _ (fun rest b s' => b = (none, ()) ∧ ∃ D Lr xs h, L = D ++ Lr ∧ rest = (Lr.map fun S => Value.ref S.it).zipIdx D.length ∧ s' = { s with heap := h } ∧ MidB z TI TO .ellipsis fb (L.map fun S => .ref S.it) old B i s.heap D Lr xs h ∧ ∀ S ∈ D, i < S.n) _ ?_ ?_ _ _ ?_
    · rintro ⟨it, k⟩ rest b s' ⟨rfl, D, Lr, xs, h, hDL, hr, rfl, M, hD⟩
      cases Lr with
      | nil => simp at hr
      | cons S Lr =>
        rw [List.map_cons, List.zipIdx_cons] at hr
        obtain ⟨hr1, hr2⟩ := List.cons.inj hr
        obtain ⟨rfl, rfl⟩ := Prod.mk.inj hr1
        have hS : S ∈ L := by rw [hDL]; simp
        have hSk := hL S hS
        obtain ⟨ap1, ap2⟩ := Aparts.at (hDL ▸ hA)
        have hmem : ∀ T, T ∈ D ∨ T ∈ Lr → T ∈ L := fun T hT => by rw [hDL]; simp; rcases hT with q | q; exact .inl q; exact .inr (.inr q)
        have hnf : ∀ c ∈ S.fp, c < B := fun c hc => hSk.low c (hSk.sub c hc)
        have zfp : z ∉ S.fp := fun q => O.z S hS (hSk.sub _ q)
        have tifp : TI ∉ S.fp := fun q => O.ti S hS (hSk.sub _ q)
        have tofp : TO ∉ S.fp := fun q => O.to S hS (hSk.sub _ q)
        have hkB : B ≤ h.objs.size := Nat.le_trans hB M.sz
        have vl := M.vs.len
        have fpm : ∀ c, c ∉ fps L → c ∉ S.fp := fun c hc q => hc (mem_fps.mpr ⟨S, hS, q⟩)
        have kpL : Kept (fun c => c ≠ z ∧ c ≠ TO ∧ c ∉ fps L) s.heap h := by rw [hDL]; exact M.kp
        refine wpAny_bind (wpAny_onRaise ?_)
        show wpAny _ _ (nextOf (.ref S.it) >>= _) _ _ _
        by_cases hi : i < S.n
        · refine wpAny_bind (hSk.item i hi (s := { s with heap := h }) hkB (M.nx S List.mem_cons_self) fun x h₂ st₂ r₂ sz₂ kp₂ => wpAny_pure ?_)
          have z₂ : IsZipB h₂ z TI TO .ellipsis fb := kp₂ _ _ zfp M.zz
          have ti₂ := kp₂ _ _ tifp M.ti
          have to₂ := kp₂ _ _ tofp M.to
          show wpAny _ _ (seqItems? (.ref TO) >>= _) _ _ _
          refine wpAny_bind (wpAny_seqItems to₂ rfl ?_)
          have lx : (xs ++ old.drop xs.length).length = L.length := by rw [List.length_append, List.length_drop, ho, vl, hDL]; simp
          refine wpAny_bind (upSeq (s := { s with heap := h₂ }) to₂ (by rw [lx]; exact hl2) fun h₃ to₃ sb₃ => ?_)
          refine wpAny_bind (wpAny_letGo (wpAny_pure ?_))
          have kp23 : Kept (fun c => c ≠ TO) h₂ h₃ := .same sb₃
          have e3 : (xs ++ old.drop xs.length).set D.length x = (xs ++ [x]) ++ old.drop (xs ++ [x]).length := by
            rw [← vl, List.set_append_right _ _ (Nat.le_refl _), Nat.sub_self]
            have : xs.length < old.length := by rw [ho, vl, hDL]; simp
            rw [List.drop_eq_getElem_cons this, List.set_cons_zero]
            simp
          refine ⟨rfl, D ++ [S], Lr, xs ++ [x], h₃, by rw [hDL]; simp, by rw [hr2]; simp, rfl, ⟨kp23 _ _ O.zTO.symm z₂, kp23 _ _ O.TIO ti₂, ?_, ?_, ?_, ?_, ?_, ?_⟩, ?_⟩
          · rw [← e3]; exact to₃
          · intro T hT
            rcases List.mem_append.mp hT with q | q
            · refine (hL T (hmem T (.inl q))).keep _ h _ (M.dn T q) fun c o hc e => kp23 c o (fun z => ?_) (kp₂ c o (fun z => ?_) e)
              · rcases hc with hc | hc
                · exact O.to T (hmem T (.inl q)) (z ▸ hc)
                · rw [z] at hc; exact absurd bz.2.2 (Nat.not_lt.mpr hc)
              · rcases hc with hc | hc
                · exact ap1 T q c z hc
                · exact absurd (hnf c z) (Nat.not_lt.mpr hc)
            · obtain rfl : T = S := by simpa using q
              refine hSk.keep _ h₂ _ st₂ fun c o hc e => kp23 c o (fun z => ?_) e
              rcases hc with hc | hc
              · exact O.to T hS (z ▸ hc)
              · rw [z] at hc; exact absurd bz.2.2 (Nat.not_lt.mpr hc)
          · intro T hT
            refine (hL T (hmem T (.inr hT))).keep _ h _ (M.nx T (List.mem_cons_of_mem _ hT)) fun c o hc e => kp23 c o (fun z => ?_) (kp₂ c o (fun z => ?_) e)
            · rcases hc with hc | hc
              · exact O.to T (hmem T (.inr hT)) (z ▸ hc)
              · rw [z] at hc; exact absurd bz.2.2 (Nat.not_lt.mpr hc)
            · rcases hc with hc | hc
              · exact ap2 T hT c z hc
              · exact absurd (hnf c z) (Nat.not_lt.mpr hc)
          · have kBto : Kept (fun c => B ≤ c) h₂ h₃ := kp23.mono fun c hc q => absurd bz.2.2 (Nat.not_lt.mpr (q ▸ hc))
            have kB : Kept (fun c => B ≤ c) h h₃ := (kp₂.mono fun c hc q => absurd (hnf c q) (Nat.not_lt.mpr hc)).trans kBto
            exact (M.vs.keep kB fun T hT => hL T (hmem T (.inl hT))).app (.cons (hSk.rk _ _ _ _ r₂ kBto) .nil)
          · exact Nat.le_trans M.sz (Nat.le_trans sz₂ (Nat.le_of_eq sb₃.1.symm))
          · have e4 : (D ++ [S]) ++ Lr = L := by rw [hDL]; simp
            rw [e4]
            exact fun c o q e => kp23 c o q.2.1 (kp₂ c o (fpm c q.2.2) (kpL c o q e))
          · intro T hT
            rcases List.mem_append.mp hT with q | q
            · exact hD T q
            · obtain rfl : T = S := by simpa using q
              exact hi
        · refine wpAny_bind (hSk.done (s := { s with heap := h }) i (hh ⟨S, hS, Nat.le_of_not_lt hi⟩) (Nat.le_of_not_lt hi) hkB (M.nx S List.mem_cons_self) fun h₂ e kp₂ he => ?_)
          obtain ⟨oe, hoe, hce⟩ := he
          have z₂ : IsZipB h₂ z TI TO .ellipsis fb := kp₂ _ _ zfp M.zz
          have hez : e ≠ z := fun x => by subst x; rw [z₂] at hoe; cases hoe; simp at hce
          exact wpAny_setField_rec z₂ (by simp) fun h₃ _ hs₃ => hE ⟨S, hS, Nat.le_of_not_lt hi⟩ h₃ e (fun c o q e => hs₃.extBut _ _ q.1 (kp₂ c o (fpm c q.2.2) (kpL c o q e))) ⟨oe, hs₃.extBut _ _ hez hoe, hce⟩
    · rintro b s' ⟨rfl, D, Lr, xs, h, hDL, hr, rfl, M, hD⟩
      obtain rfl : Lr = [] := by
        cases Lr with
        | nil => rfl
        | cons _ _ => simp at hr
      obtain rfl : L = D := by simpa using hDL
      have vl := M.vs.len
      have to' : isTup h TO xs := by
        have := M.to
        rwa [List.drop_eq_nil_of_le (by rw [ho, vl]; exact Nat.le_refl _), List.append_nil] at this
      show wpAny _ _ (seqItems? (.ref TO) >>= _) _ _ _
      refine wpAny_bind (wpAny_seqItems (s := { s with heap := h }) to' rfl ?_)
      show wpAny _ _ (newTuple _ >>= _) _ _ _
      refine wpAny_bind (wpAny_newTuple (s := { s with heap := h }) ?_ (by rw [List.toList_toArray, vl]; exact hl2))
      have zlt : z < h.objs.size := Heap.lt_size M.zz
      have tolt : TO < h.objs.size := Heap.lt_size to'
      have tilt : TI < h.objs.size := Heap.lt_size M.ti
      show wpAny _ _ (Builtin.SmallTypes.ownedTupleHandOut (.ref z) (.ref h.objs.size) >>= _) _ _ _
      refine wpAny_bind ?_
      unfold Builtin.SmallTypes.ownedTupleHandOut
      have hz₆ : IsZipB (h.push { cls := .type "tuple", data := .seq xs.toArray }) z TI TO .ellipsis fb := Heap.get?_push_of_some _ M.zz
      refine wpAny_bind (wpAny_setField_rec (s := { s with heap := h.push { cls := .type "tuple", data := .seq xs.toArray } }) hz₆ (by simp) fun h₇ hz₇ hs₇ => ?_)
      replace hz₇ : IsZipB h₇ z TI TO (rawInt h.objs.size) fb := hz₇
      refine wpAny_setField_rec (s := { s with heap := h₇ }) hz₇ (by simp) fun h₈ hz₈ hs₈ => ?_
      replace hz₈ : IsZipB h₈ z TI TO (rawInt h.objs.size) false := hz₈
      have up : Kept (fun c => c ≠ z) h h₈ := fun c o c1 e => hs₈.extBut _ _ c1 (hs₇.extBut _ _ c1 (Heap.get?_push_of_some _ e))
      have hT : isTup h₈ h.objs.size xs := hs₈.extBut _ _ (Nat.ne_of_gt zlt) (hs₇.extBut _ _ (Nat.ne_of_gt zlt) (Heap.get?_push_size _ rfl))
      have upB : Kept (fun c => B ≤ c) h h₈ := up.mono fun c hc q => absurd bz.1 (Nat.not_lt.mpr (q ▸ hc))
      have sz : h₈.objs.size = h.objs.size + 1 := by rw [hs₈.1, hs₇.1, Heap.size_push]
      have kpL : Kept (fun c => c ≠ z ∧ c ≠ TO ∧ c ∉ fps L) s.heap h := by simpa using M.kp
      refine wpAny_pure ⟨_, rfl, hQ hD h₈ xs h.objs.size _ false xs hz₈ (.inr ⟨_, rfl⟩) (up _ _ O.zTI M.ti) (up _ _ O.zTO to') vl (fun T hT => (hL T hT).keep _ h _ (M.dn T hT) fun c o hc e => up c o (fun q => ?_) e) (M.vs.keep upB hL) hT M.sz (by rw [sz]; exact Nat.lt_succ_self _) (fun _ => ⟨rfl, rfl⟩) ⟨h, M.vs, Nat.le_refl _⟩ fun c o q e => up c o q.1 (kpL c o q e)⟩
      rcases hc with hc | hc
      · exact O.z T hT (q ▸ hc)
      · rw [q] at hc; exact absurd bz.1 (Nat.not_lt.mpr hc)
    · exact ⟨rfl, [], L, [], h₁, rfl, rfl, rfl, M0, fun S hS => (List.not_mem_nil hS).elim⟩
  · simp only [Bool.false_eq_true, if_false]
    have M0 : MidS z TI TO f0 (L.map fun S => .ref S.it) old B i s.heap [] L [] h₀ := by
      refine ⟨hz₀, hs₀.extBut _ _ O.zTI hTI, hs₀.extBut _ _ O.zTO hTO, fun S hS => (List.not_mem_nil hS).elim, fun S hS => ?_, .nil, Nat.le_of_eq hs₀.1.symm, fun c o q e => hs₀.extBut c o q.1 e⟩
      exact (hL S hS).keep _ _ _ (hs S hS) fun c o hc e => hs₀.extBut c o (fun q => by
        rcases hc with hc | hc
        · exact O.z S hS (q ▸ hc)
        · rw [q] at hc; exact absurd bz.1 (Nat.not_lt.mpr hc)) e
    refine wpAny_bind ?_
    rw [← Array.forIn_toList]
    refine wpAny_forIn_list _ (fun rest b s' => ∃ D Lr xs h, b = (none, xs.toArray) ∧ L = D ++ Lr ∧ rest = Lr.map (fun S => Value.ref S.it) ∧ s' = { s with heap := h } ∧ MidS z TI TO f0 (L.map fun S => .ref S.it) old B i s.heap D Lr xs h ∧ ∀ S ∈ D, i < S.n) _ ?_ ?_ _ _ ?_
    · rintro it rest b s' ⟨D, Lr, xs, h, rfl, hDL, hr, rfl, M, hD⟩
      cases Lr with
      | nil => simp at hr
      | cons S Lr =>
        rw [List.map_cons] at hr
        obtain ⟨rfl, hr2⟩ := List.cons.inj hr
        have hS : S ∈ L := by rw [hDL]; simp
        have hSk := hL S hS
        obtain ⟨ap1, ap2⟩ := Aparts.at (hDL ▸ hA)
        have hmem : ∀ T, T ∈ D ∨ T ∈ Lr → T ∈ L := fun T hT => by rw [hDL]; simp; rcases hT with q | q; exact .inl q; exact .inr (.inr q)
        have hnf : ∀ c ∈ S.fp, c < B := fun c hc => hSk.low c (hSk.sub c hc)
        have zfp : z ∉ S.fp := fun q => O.z S hS (hSk.sub _ q)
        have tifp : TI ∉ S.fp := fun q => O.ti S hS (hSk.sub _ q)
        have tofp : TO ∉ S.fp := fun q => O.to S hS (hSk.sub _ q)
        have hkB : B ≤ h.objs.size := Nat.le_trans hB M.sz
        have vl := M.vs.len
        have fpm : ∀ c, c ∉ fps L → c ∉ S.fp := fun c hc q => hc (mem_fps.mpr ⟨S, hS, q⟩)
        have kpL : Kept (fun c => c ≠ z ∧ c ≠ TO ∧ c ∉ fps L) s.heap h := by rw [hDL]; exact M.kp
        refine wpAny_bind (wpAny_holding ?_)
        show wpAny _ _ (nextOf (.ref S.it) >>= _) _ _ _
        by_cases hi : i < S.n
        · refine wpAny_bind (hSk.item i hi (s := { s with heap := h }) hkB (M.nx S List.mem_cons_self) fun x h₂ st₂ r₂ sz₂ kp₂ => wpAny_pure ?_)
          refine wpAny_pure ⟨D ++ [S], Lr, xs ++ [x], h₂, by simp, by rw [hDL]; simp, hr2, rfl, ⟨kp₂ _ _ zfp M.zz, kp₂ _ _ tifp M.ti, kp₂ _ _ tofp M.to, ?_, ?_, ?_, Nat.le_trans M.sz sz₂, ?_⟩, ?_⟩
          · intro T hT
            rcases List.mem_append.mp hT with q | q
            · refine (hL T (hmem T (.inl q))).keep _ h _ (M.dn T q) fun c o hc e => kp₂ c o (fun z => ?_) e
              rcases hc with hc | hc
              · exact ap1 T q c z hc
              · exact absurd (hnf c z) (Nat.not_lt.mpr hc)
            · obtain rfl : T = S := by simpa using q
              exact st₂
          · intro T hT
            refine (hL T (hmem T (.inr hT))).keep _ h _ (M.nx T (List.mem_cons_of_mem _ hT)) fun c o hc e => kp₂ c o (fun z => ?_) e
            rcases hc with hc | hc
            · exact ap2 T hT c z hc
            · exact absurd (hnf c z) (Nat.not_lt.mpr hc)
          · have kB : Kept (fun c => B ≤ c) h h₂ := kp₂.mono fun c hc q => absurd (hnf c q) (Nat.not_lt.mpr hc)
            exact (M.vs.keep kB fun T hT => hL T (hmem T (.inl hT))).app (.cons r₂ .nil)
          · have e4 : (D ++ [S]) ++ Lr = L := by rw [hDL]; simp
            rw [e4]
            exact fun c o q e => kp₂ c o (fpm c q.2.2) (kpL c o q e)
          · intro T hT
            rcases List.mem_append.mp hT with q | q
            · exact hD T q
            · obtain rfl : T = S := by simpa using q
              exact hi
        · refine wpAny_bind (hSk.done (s := { s with heap := h }) i (hh ⟨S, hS, Nat.le_of_not_lt hi⟩) (Nat.le_of_not_lt hi) hkB (M.nx S List.mem_cons_self) fun h₂ e kp₂ he => ?_)
          exact hE ⟨S, hS, Nat.le_of_not_lt hi⟩ h₂ e (fun c o q e => kp₂ c o (fpm c q.2.2) (kpL c o q e)) he
    · rintro b s' ⟨D, Lr, xs, h, rfl, hDL, hr, rfl, M, hD⟩
      obtain rfl : Lr = [] := by
        cases Lr with
        | nil => rfl
        | cons _ _ => simp at hr
      obtain rfl : L = D := by simpa using hDL
      have vl := M.vs.len
      show wpAny _ _ (newTuple _ >>= _) _ _ _
      refine wpAny_bind (wpAny_newTuple (s := { s with heap := h }) ?_ (by rw [List.toList_toArray, vl]; exact hl2))
      have zlt : z < h.objs.size := Heap.lt_size M.zz
      have up : Kept (fun _ => True) h (h.push { cls := .type "tuple", data := .seq xs.toArray }) := fun c o _ e => Heap.get?_push_of_some _ e
      have kpL : Kept (fun c => c ≠ z ∧ c ≠ TO ∧ c ∉ fps L) s.heap h := by simpa using M.kp
      refine wpAny_pure ⟨_, rfl, hQ hD _ xs h.objs.size _ true old (up _ _ trivial M.zz) hf0 (up _ _ trivial M.ti) (up _ _ trivial M.to) ho (fun T hT => (hL T hT).keep _ h _ (M.dn T hT) fun c o _ e => up c o trivial e) (M.vs.keep (up.mono fun _ _ => trivial) hL) (Heap.get?_push_size _ rfl) M.sz (by rw [Heap.size_push]; exact Nat.lt_succ_self _) (fun q => absurd q hnn) ⟨h, M.vs, Nat.le_refl _⟩ fun c o q e => up c o trivial (kpL c o q e)⟩
    · exact ⟨[], L, [], h₀, rfl, rfl, rfl, rfl, M0, fun S hS => (List.not_mem_nil hS).elim⟩
end
end ZP
namespace ZP
open PySem
open PySem.Sem (wp)
open PySem.Builtin.SmallTypes (nextOf)
/-- where all the sources lean -/
def dms (L : List Src) : List Addr := (L.map (·.dm)).flatten
theorem mem_dms {L : List Src} {c : Addr} : c ∈ dms L ↔ ∃ S ∈ L, c ∈ S.dm := by
  unfold dms
  rw [List.mem_flatten]
  constructor
  · rintro ⟨l, h1, h2⟩
    obtain ⟨S, hS, rfl⟩ := List.mem_map.mp h1
    exact ⟨S, hS, h2⟩
  · rintro ⟨S, hS, h2⟩
    exact ⟨_, List.mem_map.mpr ⟨S, hS, rfl⟩, h2⟩
/-- the least number of items of the sources -/
def least : List Src → Nat
  | [] => 0
  | [S] => S.n
  | S :: L => min S.n (least L)
theorem least_lt : ∀ {L : List Src} {i : Nat}, L ≠ [] → (i < least L ↔ ∀ S ∈ L, i < S.n)
  | [], _, h => absurd rfl h
  | [S], i, _ => by simp [least]
  | S :: T :: L, i, _ => by
    have := least_lt (L := T :: L) (i := i) (by simp)
    show i < min S.n (least (T :: L)) ↔ _
    rw [Nat.lt_min, this]
    simp
structure zSt (z TI TO : Addr) (L : List Src) (i : Nat) (h : Heap) : Prop where
  zz : ∃ f b, IsZipB h z TI TO f b ∧ Fld f
  ti : isTup h TI (L.map fun S => .ref S.it)
  to : ∃ old, isTup h TO old ∧ old.length = L.length
  st : ∀ S ∈ L, S.st i h
def zipSrc (z TI TO : Addr) (B : Nat) (L : List Src) : Src :=
  ⟨z, z :: TI :: TO :: dms L, z :: TO :: fps L, least L, zSt z TI TO L, fun i x h => ∃ T xs, x = .ref T ∧ B ≤ T ∧ isTup h T xs ∧ Vals3 i h L xs⟩
theorem zipSrc_ok {P : Program} {w : World} {z TI TO : Addr} {L : List Src} {B : Nat} (hL : ∀ S ∈ L, SrcOk P w B S) (hA : Aparts L) (O : Own z TI TO L) (bz : z < B ∧ TI < B ∧ TO < B) (hl : L.length ≤ 1000) (h0 : L ≠ []) : SrcOk P w B (zipSrc z TI TO B L) where
  sub := fun c hc => by
    show c ∈ z :: TI :: TO :: dms L
    have hc : c ∈ z :: TO :: fps L := hc
    rcases List.mem_cons.mp hc with q | hc
    · simp [q]
    rcases List.mem_cons.mp hc with q | hc
    · simp [q]
    obtain ⟨S, hS, q⟩ := mem_fps.mp hc
    have := mem_dms.mpr ⟨S, hS, (hL S hS).sub c q⟩
    simp [this]
  low := fun c hc => by
    have hc : c ∈ z :: TI :: TO :: dms L := hc
    rcases List.mem_cons.mp hc with q | hc
    · rw [q]; exact bz.1
    rcases List.mem_cons.mp hc with q | hc
    · rw [q]; exact bz.2.1
    rcases List.mem_cons.mp hc with q | hc
    · rw [q]; exact bz.2.2
    obtain ⟨S, hS, q⟩ := mem_dms.mp hc
    exact (hL S hS).low c q
  keep := fun i h h' st k => by
    have st : zSt z TI TO L i h := st
    have k : Kept (fun c => c ∈ z :: TI :: TO :: dms L ∨ B ≤ c) h h' := k
    obtain ⟨⟨f, b, q1, q2⟩, q3, ⟨old, q4, q5⟩, q6⟩ := st
    exact show zSt z TI TO L i h' from ⟨⟨f, b, k _ _ (.inl (by simp)) q1, q2⟩, k _ _ (.inl (by simp)) q3, ⟨old, k _ _ (.inl (by simp)) q4, q5⟩, fun S hS => (hL S hS).keep _ h _ (q6 S hS) fun c o hc e => k c o (by
      rcases hc with hc | hc
      · exact .inl (by have := mem_dms.mpr ⟨S, hS, hc⟩; simp [this])
      · exact .inr hc) e⟩
  rk := fun i x h h' ⟨T, xs, e, hT, q, v⟩ k => ⟨T, xs, e, hT, k _ _ hT q, v.keep k hL⟩
  item := fun {A E s Q} i hi hB st h => by
    have st : zSt z TI TO L i s.heap := st
    obtain ⟨⟨f, b, q1, q2⟩, q3, ⟨old, q4, q5⟩, q6⟩ := st
    have hT : s.TypeIs (.ref z) "zip" := ⟨_, q1, rfl⟩
    have hlt : ∀ S ∈ L, i < S.n := (least_lt h0).mp hi
    unfold nextOf
    refine wpAny_bind (wpAny_callSpecial?_slot (name := Str.ofString "__next__") hT F.slot_zip_next
      (wpAny_call_entry F.slot_zip_next hT F.entry_zip_next (next_all (fun ⟨S, hS, hn⟩ => absurd (hlt S hS) (Nat.not_lt.mpr hn)) hL hA O bz hB hl h0 q2 q1 q3 q4 q5 q6
        (fun _ h' xs T f1 b1 old1 a1 a2 a3 a4 a5 a6 a7 a8 a9 a10 _ _ a11 => wpAny_pure (h _ h' ?_ ?_ ?_ ?_)) (fun ⟨S, hS, hn⟩ => absurd (hlt S hS) (Nat.not_lt.mpr hn))) (F.args_zip_next_1 _)))
    · exact show zSt z TI TO L (i + 1) h' from ⟨⟨f1, b1, a1, a2⟩, a3, ⟨old1, a4, a5⟩, a6⟩
    · exact ⟨T, xs, rfl, Nat.le_trans hB a9, a8, a7⟩
    · exact Nat.le_of_lt (Nat.lt_of_le_of_lt a9 a10)
    · intro c o hc e
      have hc : c ∉ z :: TO :: fps L := hc
      exact a11 c o ⟨fun q => hc (by rw [show c = z from q]; exact List.mem_cons_self), fun q => hc (by simp [q]), fun q => hc (by simp [q])⟩ e
  done := fun {A E s Q} i hh hi hB st h => by
    have st : zSt z TI TO L i s.heap := st
    obtain ⟨⟨f, b, q1, q2⟩, q3, ⟨old, q4, q5⟩, q6⟩ := st
    have hT : s.TypeIs (.ref z) "zip" := ⟨_, q1, rfl⟩
    have hex : ∃ S ∈ L, S.n ≤ i := Classical.byContradiction fun no => absurd ((least_lt h0).mpr fun S hS => Nat.lt_of_not_le fun q => no ⟨S, hS, q⟩) (Nat.not_lt.mpr hi)
    unfold nextOf
    refine wpAny_bind (wpAny_callSpecial?_slot (name := Str.ofString "__next__") hT F.slot_zip_next
      (wpAny_call_entry F.slot_zip_next hT F.entry_zip_next (next_all (fun _ => hh) hL hA O bz hB hl h0 q2 q1 q3 q4 q5 q6
        (fun hlt => absurd ((least_lt h0).mpr hlt) (Nat.not_lt.mpr hi)) (fun _ h' e k he => h h' e (fun c o hc q => ?_) he)) (F.args_zip_next_1 _)))
    have hc : c ∉ z :: TO :: fps L := hc
    exact k c o ⟨fun q => hc (by rw [show c = z from q]; exact List.mem_cons_self), fun q => hc (by simp [q]), fun q => hc (by simp [q])⟩ q
end ZP
namespace L2
open PySem PySem.Spec PyProof.Rows
section
variable {X : Cx} {pins : List (Addr × Obj)} {σ : St} {H : Hp} {s : Shared} {h' : Heap}
/-- two new objects are laid -/
theorem Inv.turnedNew2 {t' : Nat} {ch : List Addr} {T U : Addr} {ob oc : HO} (I : Inv X pins σ H s) (k : ∀ b o, b ∉ ch → s.heap.get? b = some o → h'.get? b = some o) (hf : ∀ b ∈ ch, FpOk X pins H b) (hT : s.heap.objs.size ≤ T) (hU : s.heap.objs.size ≤ U) (hTU : T ≠ U)
    (new : ObjOk X.prog X.w (upd (upd H T ob) U oc) h' T ob) (new2 : ObjOk X.prog X.w (upd (upd H T ob) U oc) h' U oc) : Inv X pins σ (upd (upd H T ob) U oc) { s with heap := h', toks := t' } := by
  have hn : H T = none := I.hok.fresh hT
  have hn2 : H U = none := I.hok.fresh hU
  have up : ∀ c v, H c = some v → upd (upd H T ob) U oc c = some v := fun c v q => by rw [upd_ne (ne_of_none q hn2), upd_ne (ne_of_none q hn)]; exact q
  have nit : ∀ b u, H b = some u → b ∉ ch := fun b u e z => by
    have q := (hf b z).1
    rw [q] at e; cases e
  refine I.step (g' := s.gens) (d' := s.drawn) (ch := ch) (fun b hb => ⟨(hf b hb).2.2.2.1, (hf b hb).2.1, (hf b hb).2.2.2.2.1, (hf b hb).2.2.2.2.2⟩) (fun b o _ _ hc e _ => k b o hc e) (fun b o _ _ hc e _ => ⟨o.slots, k b o hc e⟩)
    (fun b o _ e n => ?_) (fun b o hc e => ⟨o, k b o hc e⟩) (fun b xs e => up _ _ e) (fun b o u e => up _ _ e) (fun b ps e => ⟨#[], ?_⟩) (fun m hm => ?_) (fun b u e => ?_) I.bare
  · have := Heap.lt_size e
    rw [upd_ne (Nat.ne_of_lt (Nat.lt_of_lt_of_le this hU)), upd_ne (Nat.ne_of_lt (Nat.lt_of_lt_of_le this hT))]; exact n
  · rw [up _ _ e]; simp
  · obtain ⟨o, es, ep, ho, r⟩ := hm
    exact ⟨o, es, ep, k _ o (fun z => (hf _ z).2.1 rfl) ho, r⟩
  · by_cases hb : b = U
    · subst hb
      rw [upd_same] at e
      cases e
      exact new2
    · rw [upd_ne hb] at e
      by_cases hb : b = T
      · subst hb
        rw [upd_same] at e
        cases e
        exact new
      · rw [upd_ne hb] at e
        refine (I.hok b u e).stay (fun c v hc q => k c v ?_ q) (fun c q => up _ _ q) fun c xs q => up _ _ q
        rcases hc with z | z
        · rw [z]; exact nit b u e
        · exact nit c _ z
end
end L2
namespace ZP
open PySem PySem.Spec PyProof.Rows L2
open PySem.Builtin.SmallTypes (nextOf iterAll)
def ItzZ (K : PySem.W.Frag) (p q r : Bool × Addr) : It :=
  ⟨fun i H => ∃ xs ys zs : List V, SqB K H p.1 p.2 xs ∧ SqB K H q.1 q.2 ys ∧ SqB K H r.1 r.2 zs ∧ i < xs.length ∧ i < ys.length ∧ i < zs.length,
    fun i H v H' => ∃ T U o1 o2 x y u, v = .ref U ∧ H T = none ∧ H U = none ∧ T ≠ U ∧ (o1.cls = .type "tuple" ∧ o1.dict = none) ∧ (o2.cls = .type "tuple" ∧ o2.dict = none) ∧ H' = upd (upd H T (.frz o1 (.tup [x, y]))) U (.frz o2 (.tup [.ref T, u])) ∧ (∀ xs, SqB K H p.1 p.2 xs → xs[i]? = some x) ∧ (∀ xs, SqB K H q.1 q.2 xs → xs[i]? = some y) ∧ ∀ xs, SqB K H r.1 r.2 xs → xs[i]? = some u,
    fun i H => ∃ xs ys zs : List V, SqB K H p.1 p.2 xs ∧ SqB K H q.1 q.2 ys ∧ SqB K H r.1 r.2 zs ∧ (xs.length ≤ i ∨ ys.length ≤ i ∨ zs.length ≤ i)⟩
theorem seq_st {h : Heap} {i : Nat} {t : Leg} {xs : Array Value} (q : t.At h i) (p : if t.lst then h.IsList t.l xs else h.IsTuple t.l xs) : (seqSrc t.lst t.it t.l xs).st i h := by
  unfold Leg.At at q
  show if t.lst then h.IsListIter t.it t.l i ∧ h.IsList t.l xs else h.IsTupleIter t.it t.l i ∧ h.IsTuple t.l xs
  split
  · rename_i hb; rw [if_pos hb] at q p; exact ⟨q, p⟩
  · rename_i hb; rw [if_neg hb] at q p; exact ⟨q, p⟩
theorem st_seq {h : Heap} {i : Nat} {t : Leg} {xs : Array Value} (q : (seqSrc t.lst t.it t.l xs).st i h) : t.At h i := by
  have q : if t.lst then h.IsListIter t.it t.l i ∧ h.IsList t.l xs else h.IsTupleIter t.it t.l i ∧ h.IsTuple t.l xs := q
  unfold Leg.At
  split
  · rename_i hb; rw [if_pos hb] at q; exact q.1
  · rename_i hb; rw [if_neg hb] at q; exact q.1
/-- all the objects lie apart -/
structure LayZ (z TI TO z2 TI2 TO2 b : Addr) (t1 t2 t3 : Leg) : Prop where
  ch : b ≤ t1.it ∧ t1.it < t2.it ∧ t2.it < TI2 ∧ TI2 < TO2 ∧ TO2 < z2 ∧ z2 < t3.it ∧ t3.it < TI ∧ TI < TO ∧ TO < z
  lt : t1.l < b ∧ t2.l < b ∧ t3.l < t3.it ∧ t3.l ≠ t1.it ∧ t3.l ≠ t2.it ∧ t3.l ≠ TI2 ∧ t3.l ≠ TO2 ∧ t3.l ≠ z2
def tnZ (z TI TO z2 TI2 TO2 : Addr) (t1 t2 t3 : Leg) (i : Nat) (h : Heap) : Prop :=
  IsZip h z TI TO .none ∧ isTup h TI [.ref z2, .ref t3.it] ∧ (∃ old, isTup h TO old ∧ old.length = 2) ∧ (∃ f b, IsZipB h z2 TI2 TO2 f b ∧ Fld f) ∧ isTup h TI2 [.ref t1.it, .ref t2.it] ∧ (∃ old, isTup h TO2 old ∧ old.length = 2) ∧ t1.At h i ∧ t2.At h i ∧ t3.At h i
section
variable {P : Program} {w : World} {A : Around} {E : Value → Shared → Prop} {s : Shared}
/-- one turn of a zip: to the next item or to the end -/
theorem pyNext_all {z TI TO : Addr} {L : List Src} {B i : Nat} {old : List Value} {Q : Option Value → Shared → Prop} (hh : A.handled = none) (hL : ∀ S ∈ L, SrcOk P w B S) (hA : Aparts L) (O : Own z TI TO L)
    (bz : z < B ∧ TI < B ∧ TO < B) (hB : B ≤ s.heap.objs.size) (hl : L.length ≤ 1000) (h0 : L ≠ [])
    (hz : IsZip s.heap z TI TO .none) (hTI : isTup s.heap TI (L.map fun S => .ref S.it)) (hTO : isTup s.heap TO old) (ho : old.length = L.length) (hs : ∀ S ∈ L, S.st i s.heap)
    (hQ : (∀ S ∈ L, i < S.n) → ∀ (h' : Heap) (xs : List Value) (T : Addr), IsZip h' z TI TO (rawInt T) → isTup h' TI (L.map fun S => .ref S.it) → (∃ old, isTup h' TO old ∧ old.length = L.length) → (∀ S ∈ L, S.st (i + 1) h') → Vals3 i h' L xs → isTup h' T xs → s.heap.objs.size ≤ T → T < h'.objs.size → (∃ hm : Heap, Vals3 i hm L xs ∧ hm.objs.size ≤ T) →
      Kept (fun c => c ≠ z ∧ c ≠ TO ∧ c ∉ fps L) s.heap h' → Q (some (.ref T)) { s with heap := h' })
    (hE : (∃ S ∈ L, S.n ≤ i) → ∀ h', Kept (fun c => c ≠ z ∧ c ≠ TO ∧ c ∉ fps L) s.heap h' → Q none { s with heap := h' }) : wpAny (model P w) A (pyNext (.ref z)) Q E s := by
  have hT : s.TypeIs (.ref z) "zip" := ⟨_, hz, rfl⟩
  unfold pyNext
  refine wpAny_bind (wpAny_attempt (wpAny_callSpecial?_slot (name := Str.ofString "__next__") hT F.slot_zip_next
    (wpAny_call_entry F.slot_zip_next hT F.entry_zip_next (next_all (f0 := .none) (fb := false) (fun _ => hh) hL hA O bz hB hl h0 (.inl rfl) hz hTI hTO ho hs
      (fun q h' xs T f1 b1 old1 a1 _ a3 a4 a5 a6 a7 a8 a9 a10 a11 a12 a13 => wpAny_pure (hQ q h' xs T (by
        obtain ⟨q1, q2⟩ := a11 rfl
        rw [q1, q2] at a1
        exact a1) a3 ⟨old1, a4, a5⟩ a6 a7 a8 a9 a10 a12 a13)) (fun q h' e k he => ?_)) (F.args_zip_next_1 _))))
  obtain ⟨o, ho, hc⟩ := he
  refine wpAny_bind (wpAny_isInstance (T := "StopIteration") (b := true) ⟨o, ho, hc⟩ isSubtype_stop ?_)
  exact wpAny_pure (hE q _ k)
end
end ZP
namespace ZP
open PySem PySem.Spec PyProof.Rows L2
open PySem.Builtin.SmallTypes (nextOf iterAll)
abbrev sq (t : Leg) (v : List Value) : Src := seqSrc t.lst t.it t.l v.toArray
theorem sq_dm (t : Leg) (v : List Value) : (sq t v).dm = [t.it, t.l] := rfl
theorem sq_fp (t : Leg) (v : List Value) : (sq t v).fp = [t.it] := rfl
theorem zs_dm (z TI TO B : Addr) (t1 t2 : Leg) (v1 v2 : List Value) : (zipSrc z TI TO B [sq t1 v1, sq t2 v2]).dm = [z, TI, TO, t1.it, t1.l, t2.it, t2.l] := rfl
theorem zs_fp (z TI TO B : Addr) (t1 t2 : Leg) (v1 v2 : List Value) : (zipSrc z TI TO B [sq t1 v1, sq t2 v2]).fp = [z, TO, t1.it, t2.it] := rfl
theorem zs_n (z TI TO B : Addr) (t1 t2 : Leg) (v1 v2 : List Value) : (zipSrc z TI TO B [sq t1 v1, sq t2 v2]).n = min v1.length v2.length := rfl
theorem sq_n (t : Leg) (v : List Value) : (sq t v).n = v.length := rfl
theorem fps2 (z TI TO B : Addr) (t1 t2 t3 : Leg) (v1 v2 v3 : List Value) : fps [zipSrc z TI TO B [sq t1 v1, sq t2 v2], sq t3 v3] = [z, TO, t1.it, t2.it, t3.it] := rfl
theorem two_mem {S T U : Src} {p : Src → Prop} (h1 : p S) (h2 : p T) : U ∈ [S, T] → p U := fun h => by
  rcases List.mem_cons.mp h with q | q
  · rw [q]; exact h1
  · rw [List.mem_singleton.mp q]; exact h2
theorem zz_srcs {P : Program} {w : World} {z TI TO z2 TI2 TO2 b B : Nat} {t1 t2 t3 : Leg} (D : LayZ z TI TO z2 TI2 TO2 b t1 t2 t3) (hB : ∀ c ∈ [z, TI, TO, z2, TI2, TO2, t1.it, t2.it, t3.it], c < B) (v1 v2 v3 : List Value) :
    (∀ S ∈ [zipSrc z2 TI2 TO2 B [sq t1 v1, sq t2 v2], sq t3 v3], SrcOk P w B S) ∧ Aparts [zipSrc z2 TI2 TO2 B [sq t1 v1, sq t2 v2], sq t3 v3] ∧ Own z TI TO [zipSrc z2 TI2 TO2 B [sq t1 v1, sq t2 v2], sq t3 v3] := by
  have nd := D.ch
  obtain ⟨l1, l2, l3, l4⟩ := D.lt
  have hB := hB z (by simp)
  obtain ⟨i1, a1, b1⟩ := t1
  obtain ⟨i2, a2, b2⟩ := t2
  obtain ⟨i3, a3, b3⟩ := t3
  dsimp only at nd l1 l2 l3 l4
  unfold Addr at nd l1 l2 l3 l4
  have k1 : SrcOk P w B (sq ⟨i1, a1, b1⟩ v1) := seqSrc_ok (by (first | omega | (unfold Addr; omega) | (dsimp only; unfold Addr; omega) | (dsimp only; omega))) (by (first | omega | (unfold Addr; omega) | (dsimp only; unfold Addr; omega) | (dsimp only; omega))) (by (first | omega | (unfold Addr; omega) | (dsimp only; unfold Addr; omega) | (dsimp only; omega)))
  have k2 : SrcOk P w B (sq ⟨i2, a2, b2⟩ v2) := seqSrc_ok (by (first | omega | (unfold Addr; omega) | (dsimp only; unfold Addr; omega) | (dsimp only; omega))) (by (first | omega | (unfold Addr; omega) | (dsimp only; unfold Addr; omega) | (dsimp only; omega))) (by (first | omega | (unfold Addr; omega) | (dsimp only; unfold Addr; omega) | (dsimp only; omega)))
  have k3 : SrcOk P w B (sq ⟨i3, a3, b3⟩ v3) := seqSrc_ok (by (first | omega | (unfold Addr; omega) | (dsimp only; unfold Addr; omega) | (dsimp only; omega))) (by (first | omega | (unfold Addr; omega) | (dsimp only; unfold Addr; omega) | (dsimp only; omega))) (by (first | omega | (unfold Addr; omega) | (dsimp only; unfold Addr; omega) | (dsimp only; omega)))
  have ap : Aparts [sq ⟨i1, a1, b1⟩ v1, sq ⟨i2, a2, b2⟩ v2] := .cons (fun T hT c => by
    rw [List.mem_singleton.mp hT, sq_fp, sq_dm, sq_fp, sq_dm]
    simp only [List.mem_cons, List.not_mem_nil, or_false]
    (first | omega | (unfold Addr; omega) | (dsimp only; unfold Addr; omega) | (dsimp only; omega))) (.cons (fun T hT => (List.not_mem_nil hT).elim) .nil)
  have ow : Own z2 TI2 TO2 [sq ⟨i1, a1, b1⟩ v1, sq ⟨i2, a2, b2⟩ v2] := ⟨by (first | omega | (unfold Addr; omega) | (dsimp only; unfold Addr; omega) | (dsimp only; omega)), by (first | omega | (unfold Addr; omega) | (dsimp only; unfold Addr; omega) | (dsimp only; omega)), by (first | omega | (unfold Addr; omega) | (dsimp only; unfold Addr; omega) | (dsimp only; omega)),
    fun S => two_mem (p := fun S => z2 ∉ S.dm) (by rw [sq_dm]; simp only [List.mem_cons, List.not_mem_nil, or_false]; (first | omega | (unfold Addr; omega) | (dsimp only; unfold Addr; omega) | (dsimp only; omega))) (by rw [sq_dm]; simp only [List.mem_cons, List.not_mem_nil, or_false]; (first | omega | (unfold Addr; omega) | (dsimp only; unfold Addr; omega) | (dsimp only; omega))),
    fun S => two_mem (p := fun S => TI2 ∉ S.dm) (by rw [sq_dm]; simp only [List.mem_cons, List.not_mem_nil, or_false]; (first | omega | (unfold Addr; omega) | (dsimp only; unfold Addr; omega) | (dsimp only; omega))) (by rw [sq_dm]; simp only [List.mem_cons, List.not_mem_nil, or_false]; (first | omega | (unfold Addr; omega) | (dsimp only; unfold Addr; omega) | (dsimp only; omega))),
    fun S => two_mem (p := fun S => TO2 ∉ S.dm) (by rw [sq_dm]; simp only [List.mem_cons, List.not_mem_nil, or_false]; (first | omega | (unfold Addr; omega) | (dsimp only; unfold Addr; omega) | (dsimp only; omega))) (by rw [sq_dm]; simp only [List.mem_cons, List.not_mem_nil, or_false]; (first | omega | (unfold Addr; omega) | (dsimp only; unfold Addr; omega) | (dsimp only; omega)))⟩
  have kz : SrcOk P w B (zipSrc z2 TI2 TO2 B [sq ⟨i1, a1, b1⟩ v1, sq ⟨i2, a2, b2⟩ v2]) := zipSrc_ok (fun S => two_mem (p := fun S => SrcOk P w B S) k1 k2) ap ow ⟨by (first | omega | (unfold Addr; omega) | (dsimp only; unfold Addr; omega) | (dsimp only; omega)), by (first | omega | (unfold Addr; omega) | (dsimp only; unfold Addr; omega) | (dsimp only; omega)), by (first | omega | (unfold Addr; omega) | (dsimp only; unfold Addr; omega) | (dsimp only; omega))⟩ (by show 2 ≤ 1000; decide) (by simp)
  refine ⟨fun S => two_mem (p := fun S => SrcOk P w B S) kz k3, .cons (fun T hT c => ?_) (.cons (fun T hT => (List.not_mem_nil hT).elim) .nil), ⟨by (first | omega | (unfold Addr; omega) | (dsimp only; unfold Addr; omega) | (dsimp only; omega)), by (first | omega | (unfold Addr; omega) | (dsimp only; unfold Addr; omega) | (dsimp only; omega)), by (first | omega | (unfold Addr; omega) | (dsimp only; unfold Addr; omega) | (dsimp only; omega)), fun S => two_mem (p := fun S => z ∉ S.dm) ?_ ?_, fun S => two_mem (p := fun S => TI ∉ S.dm) ?_ ?_, fun S => two_mem (p := fun S => TO ∉ S.dm) ?_ ?_⟩⟩
  · rw [List.mem_singleton.mp hT, sq_fp, sq_dm, zs_fp, zs_dm]
    simp only [List.mem_cons, List.not_mem_nil, or_false]
    (first | omega | (unfold Addr; omega) | (dsimp only; unfold Addr; omega) | (dsimp only; omega))
  all_goals first
    | (rw [zs_dm]; simp only [List.mem_cons, List.not_mem_nil, or_false]; (first | omega | (unfold Addr; omega) | (dsimp only; unfold Addr; omega) | (dsimp only; omega)))
    | (rw [sq_dm]; simp only [List.mem_cons, List.not_mem_nil, or_false]; (first | omega | (unfold Addr; omega) | (dsimp only; unfold Addr; omega) | (dsimp only; omega)))
theorem turn_zz {P : Program} {w : World} {K : PySem.W.Frag} {elts : List Expr} {kk : Nat} {tpos : Pos} {z TI TO z2 TI2 TO2 b : Addr} {t1 t2 t3 : Leg} (D : LayZ z TI TO z2 TI2 TO2 b t1 t2 t3) :
    Turn P w K (.Tuple elts kk tpos) (ItzZ K (t1.lst, t1.l) (t2.lst, t2.l) (t3.lst, t3.l)) [z, TI, TO, z2, TI2, TO2, t1.it, t2.it, t3.it] z (tnZ z TI TO z2 TI2 TO2 t1 t2 t3) where
  mem := List.mem_cons_self
  obj := fun i h ⟨hz, hTI, ⟨old, hTO, _⟩, ⟨f, bb, hz2, _⟩, hTI2, ⟨old2, hTO2, _⟩, a1, a2, a3⟩ c hc => by
    simp only [List.mem_cons, List.not_mem_nil, or_false] at hc
    rcases hc with rfl | rfl | rfl | rfl | rfl | rfl | rfl | rfl | rfl
    · exact ⟨_, hz, fun v q => nomatch q⟩
    · exact ⟨_, hTI, fun v q => nomatch q⟩
    · exact ⟨_, hTO, fun v q => nomatch q⟩
    · exact ⟨_, hz2, fun v q => nomatch q⟩
    · exact ⟨_, hTI2, fun v q => nomatch q⟩
    · exact ⟨_, hTO2, fun v q => nomatch q⟩
    · obtain ⟨o, e, vs, d⟩ := a1.obj
      exact ⟨o, e, fun v q => by rw [d] at q; cases q⟩
    · obtain ⟨o, e, vs, d⟩ := a2.obj
      exact ⟨o, e, fun v q => by rw [d] at q; cases q⟩
    · obtain ⟨o, e, vs, d⟩ := a3.obj
      exact ⟨o, e, fun v q => by rw [d] at q; cases q⟩
  keep := fun i h h' ⟨hz, hTI, ⟨old, hTO, e1⟩, ⟨f, bb, hz2, e2⟩, hTI2, ⟨old2, hTO2, e3⟩, a1, a2, a3⟩ k =>
    ⟨k z (by simp) _ hz, k TI (by simp) _ hTI, ⟨old, k TO (by simp) _ hTO, e1⟩, ⟨f, bb, k z2 (by simp) _ hz2, e2⟩, k TI2 (by simp) _ hTI2, ⟨old2, k TO2 (by simp) _ hTO2, e3⟩, a1.to fun o q => k _ (by simp) o q, a2.to fun o q => k _ (by simp) o q, a3.to fun o q => k _ (by simp) o q⟩
  item := by
    intro X hP hw hK hc i pins s σ H E I hf st hg
    subst hP hw hK
    obtain ⟨hz, hTI, ⟨old, hTO, e1⟩, hz2, hTI2, hTO2, a1, a2, a3⟩ := st
    obtain ⟨xs, ys, zs, x1, x2, x3, n1, n2, n3⟩ := hg
    obtain ⟨v1, r1, p1⟩ := SqB.obj I x1
    obtain ⟨v2, r2, p2⟩ := SqB.obj I x2
    obtain ⟨v3, r3, p3⟩ := SqB.obj I x3
    have lv1 := r1.length
    have lv2 := r2.length
    have lv3 := r3.length
    obtain ⟨f2, fb2, hz2', hfl⟩ := id hz2
    obtain ⟨old2, hTO2', eo2⟩ := id hTO2
    have hB : ∀ c ∈ [z, TI, TO, z2, TI2, TO2, t1.it, t2.it, t3.it], c < s.heap.objs.size := fun c hc => by
      simp only [List.mem_cons, List.not_mem_nil, or_false] at hc
      rcases hc with rfl | rfl | rfl | rfl | rfl | rfl | rfl | rfl | rfl
      · exact Heap.lt_size hz
      · exact Heap.lt_size hTI
      · exact Heap.lt_size hTO
      · exact Heap.lt_size hz2'
      · exact Heap.lt_size hTI2
      · exact Heap.lt_size hTO2'
      · obtain ⟨o, e, _⟩ := a1.obj; exact Heap.lt_size e
      · obtain ⟨o, e, _⟩ := a2.obj; exact Heap.lt_size e
      · obtain ⟨o, e, _⟩ := a3.obj; exact Heap.lt_size e
    obtain ⟨hL, hA, O⟩ := zz_srcs (P := X.prog) (w := X.w) D hB v1 v2 v3
    have zl : z < s.heap.objs.size := hB z (by simp)
    have stz : (zipSrc z2 TI2 TO2 s.heap.objs.size [sq t1 v1, sq t2 v2]).st i s.heap := show zSt z2 TI2 TO2 [sq t1 v1, sq t2 v2] i s.heap from ⟨hz2, hTI2, hTO2, fun S => two_mem (p := fun S => S.st i s.heap) (seq_st a1 p1) (seq_st a2 p2)⟩
    refine pyNext_all (L := [zipSrc z2 TI2 TO2 s.heap.objs.size [sq t1 v1, sq t2 v2], sq t3 v3]) (I.ok.hd hc) hL hA O ⟨zl, hB TI (by simp), hB TO (by simp)⟩ (Nat.le_refl _) (by show 2 ≤ 1000; decide) (by simp) hz hTI hTO e1 (fun S => two_mem (p := fun S => S.st i s.heap) stz (seq_st a3 p3)) (fun hi h' vs U z' TI' TO' st' v3' hU hle hlt hm hk => ?_) (fun hn => ?_)
    · refine ⟨_, rfl, wpAny_letOwnedTupleGo_zip (s := { s with heap := h' }) z' fun h'' z'' sb => ?_⟩
      rw [fps2] at hk
      -- the items
      cases v3' with
      | cons rz v3' =>
        cases v3' with
        | cons rc v3' =>
          cases v3'
          rename_i xz xc
          obtain ⟨T, us, rfl, hTB, hT, vz⟩ := rz
          cases vz with
          | cons ra vz =>
            cases vz with
            | cons rb vz =>
              cases vz
              rename_i xa xb
              have ra : v1.toArray[i]? = some xa := ra
              have rb : v2.toArray[i]? = some xb := rb
              have rc : v3.toArray[i]? = some xc := rc
              obtain ⟨x, hx, rx⟩ := vals_back (i := i) r1 (by simpa using ra)
              obtain ⟨y, hy, ry⟩ := vals_back (i := i) r2 (by simpa using rb)
              obtain ⟨u, hu, ru⟩ := vals_back (i := i) r3 (by simpa using rc)
              have hTU : T ≠ U := by
                obtain ⟨hm, w3, hme⟩ := hm
                cases w3 with
                | cons rz _ =>
                  obtain ⟨T', us', e, _, hT', _⟩ := rz
                  cases e
                  exact Nat.ne_of_lt (Nat.lt_of_lt_of_le (Heap.lt_size hT') hme)
              have hUz : U ≠ z := Nat.ne_of_gt (Nat.lt_of_lt_of_le zl hle)
              have hTz : T ≠ z := Nat.ne_of_gt (Nat.lt_of_lt_of_le zl hTB)
              have hT2 : isTup h'' T [xa, xb] := (sb.2 _ hTz).trans hT
              have hU2 : isTup h'' U [.ref T, xc] := (sb.2 _ hUz).trans hU
              have new : ObjOk X.prog X.w (upd (upd H T (.frz { cls := .type "tuple", data := .seq [xa, xb].toArray } (.tup [x, y]))) U (.frz { cls := .type "tuple", data := .seq [Value.ref T, xc].toArray } (.tup [.ref T, u]))) h'' T (.frz { cls := .type "tuple", data := .seq [xa, xb].toArray } (.tup [x, y])) :=
                ⟨hT2, by show 2 ≤ sizeLine; decide, _, .cons rx (.cons ry .nil), ⟨_, hT2, rfl, _, rfl⟩⟩
              have new2 : ObjOk X.prog X.w (upd (upd H T (.frz { cls := .type "tuple", data := .seq [xa, xb].toArray } (.tup [x, y]))) U (.frz { cls := .type "tuple", data := .seq [Value.ref T, xc].toArray } (.tup [.ref T, u]))) h'' U (.frz { cls := .type "tuple", data := .seq [Value.ref T, xc].toArray } (.tup [.ref T, u])) :=
                ⟨hU2, by show 2 ≤ sizeLine; decide, _, .cons rfl (.cons ru .nil), ⟨_, hU2, rfl, _, rfl⟩⟩
              have hnm : ∀ c, c ∉ [z, TI, TO, z2, TI2, TO2, t1.it, t2.it, t3.it] → c ≠ z ∧ c ≠ TO ∧ c ∉ [z2, TO2, t1.it, t2.it, t3.it] := fun c hc => by
                simp only [List.mem_cons, List.not_mem_nil, or_false, not_or] at hc ⊢
                exact ⟨hc.1, hc.2.2.1, hc.2.2.2.1, hc.2.2.2.2.2.1, hc.2.2.2.2.2.2⟩
              have I1 : Inv X pins σ (upd (upd H T (.frz { cls := .type "tuple", data := .seq [xa, xb].toArray } (.tup [x, y]))) U (.frz { cls := .type "tuple", data := .seq [Value.ref T, xc].toArray } (.tup [.ref T, u]))) { s with heap := h'' } :=
                I.turnedNew2 (t' := s.toks) (ch := [z, TI, TO, z2, TI2, TO2, t1.it, t2.it, t3.it]) (fun c o hb q => (sb.2 c (fun q' => hb (by simp [q']))).trans (hk c o (hnm c hb) q)) hf hTB hle hTU new new2
              have stz' := st' _ List.mem_cons_self
              have st3' := st' (sq t3 v3) (by simp)
              obtain ⟨⟨f1, b1, g1, g2⟩, g3, ⟨o1, g4, g5⟩, g6⟩ := (show zSt z2 TI2 TO2 [sq t1 v1, sq t2 v2] (i + 1) h' from stz')
              have nd := D.ch
              have m1 : z ≠ TI := by unfold Addr at *; omega
              have m2 : z ≠ TO := by unfold Addr at *; omega
              have m3 : z ≠ z2 := by unfold Addr at *; omega
              have m4 : z ≠ TI2 := by unfold Addr at *; omega
              have m5 : z ≠ TO2 := by unfold Addr at *; omega
              have m6 : z ≠ t1.it := by unfold Addr at *; omega
              have m7 : z ≠ t2.it := by unfold Addr at *; omega
              have m8 : z ≠ t3.it := by unfold Addr at *; omega
              obtain ⟨o0, TO', eo0⟩ := TO'
              refine ⟨.ref U, _, I1, rfl, ⟨T, U, _, _, x, y, u, rfl, I.hok.fresh hTB, I.hok.fresh hle, hTU, ⟨rfl, rfl⟩, ⟨rfl, rfl⟩, rfl, fun ws hw => by rw [SqB.inj I hw x1]; exact hx, fun ws hw => by rw [SqB.inj I hw x2]; exact hy, fun ws hw => by rw [SqB.inj I hw x3]; exact hu⟩,
                ⟨z'', (sb.2 _ (Ne.symm m1)).trans TI', ⟨o0, (sb.2 _ (Ne.symm m2)).trans TO', eo0⟩, ⟨f1, b1, (sb.2 _ (Ne.symm m3)).trans g1, g2⟩, (sb.2 _ (Ne.symm m4)).trans g3, ⟨o1, (sb.2 _ (Ne.symm m5)).trans g4, g5⟩, (st_seq (g6 (sq t1 v1) (by simp))).to fun o q => (sb.2 _ (Ne.symm m6)).trans q, (st_seq (g6 (sq t2 v2) (by simp))).to fun o q => (sb.2 _ (Ne.symm m7)).trans q, (st_seq st3').to fun o q => (sb.2 _ (Ne.symm m8)).trans q⟩, fun c hcm => ?_⟩
              have hlt := hB c hcm
              rw [upd_ne (Nat.ne_of_lt (Nat.lt_of_lt_of_le hlt hle)), upd_ne (Nat.ne_of_lt (Nat.lt_of_lt_of_le hlt hTB))]
              exact (hf c hcm).1
    · exfalso
      obtain ⟨T, hT, hn⟩ := hn
      have : i < T.n := two_mem (p := fun T => i < T.n) (by rw [zs_n]; omega) (by rw [sq_n]; omega) hT
      omega
  done := by
    intro X hP hw hK hc i pins s σ H E I hf st hg
    subst hP hw hK
    obtain ⟨hz, hTI, ⟨old, hTO, e1⟩, hz2, hTI2, hTO2, a1, a2, a3⟩ := st
    obtain ⟨xs, ys, zs, x1, x2, x3, hn⟩ := hg
    obtain ⟨v1, r1, p1⟩ := SqB.obj I x1
    obtain ⟨v2, r2, p2⟩ := SqB.obj I x2
    obtain ⟨v3, r3, p3⟩ := SqB.obj I x3
    have lv1 := r1.length
    have lv2 := r2.length
    have lv3 := r3.length
    obtain ⟨f2, fb2, hz2', hfl⟩ := id hz2
    obtain ⟨old2, hTO2', eo2⟩ := id hTO2
    have hB : ∀ c ∈ [z, TI, TO, z2, TI2, TO2, t1.it, t2.it, t3.it], c < s.heap.objs.size := fun c hc => by
      simp only [List.mem_cons, List.not_mem_nil, or_false] at hc
      rcases hc with rfl | rfl | rfl | rfl | rfl | rfl | rfl | rfl | rfl
      · exact Heap.lt_size hz
      · exact Heap.lt_size hTI
      · exact Heap.lt_size hTO
      · exact Heap.lt_size hz2'
      · exact Heap.lt_size hTI2
      · exact Heap.lt_size hTO2'
      · obtain ⟨o, e, _⟩ := a1.obj; exact Heap.lt_size e
      · obtain ⟨o, e, _⟩ := a2.obj; exact Heap.lt_size e
      · obtain ⟨o, e, _⟩ := a3.obj; exact Heap.lt_size e
    obtain ⟨hL, hA, O⟩ := zz_srcs (P := X.prog) (w := X.w) D hB v1 v2 v3
    have zl : z < s.heap.objs.size := hB z (by simp)
    have stz : (zipSrc z2 TI2 TO2 s.heap.objs.size [sq t1 v1, sq t2 v2]).st i s.heap := show zSt z2 TI2 TO2 [sq t1 v1, sq t2 v2] i s.heap from ⟨hz2, hTI2, hTO2, fun S => two_mem (p := fun S => S.st i s.heap) (seq_st a1 p1) (seq_st a2 p2)⟩
    have hnm : ∀ c, c ∉ [z, TI, TO, z2, TI2, TO2, t1.it, t2.it, t3.it] → c ≠ z ∧ c ≠ TO ∧ c ∉ [z2, TO2, t1.it, t2.it, t3.it] := fun c hc => by
      simp only [List.mem_cons, List.not_mem_nil, or_false, not_or] at hc ⊢
      exact ⟨hc.1, hc.2.2.1, hc.2.2.2.1, hc.2.2.2.2.2.1, hc.2.2.2.2.2.2⟩
    refine pyNext_all (L := [zipSrc z2 TI2 TO2 s.heap.objs.size [sq t1 v1, sq t2 v2], sq t3 v3]) (I.ok.hd hc) hL hA O ⟨zl, hB TI (by simp), hB TO (by simp)⟩ (Nat.le_refl _) (by show 2 ≤ 1000; decide) (by simp) hz hTI hTO e1 (fun S => two_mem (p := fun S => S.st i s.heap) stz (seq_st a3 p3)) (fun hi => ?_) (fun _ h' hk => ⟨rfl, I.turnedL (t' := s.toks) (ch := [z, TI, TO, z2, TI2, TO2, t1.it, t2.it, t3.it]) (fun c o hb q => by
      rw [fps2] at hk
      exact hk c o (hnm c hb) q) hf⟩)
    exfalso
    have q1 := hi _ List.mem_cons_self
    have q2 := hi (sq t3 v3) (by simp)
    rw [zs_n] at q1
    rw [sq_n] at q2
    omega
  self := fun A i s Q E st h => wpAny_pyIter_zip st.1 h
end ZP
namespace ZP
open PySem PySem.Spec PyProof.Rows L2
open PySem.Builtin.SmallTypes (nextOf iterAll)
/-- more is pinned -/
theorem pins_more {X : Cx} {pins more : List (Addr × Obj)} {σ : L2.St} {H : Hp} {s : Shared} (I : Inv X pins σ H s) (h : ∀ p ∈ more, s.heap.get? p.1 = some p.2 ∧ H p.1 = none ∧ p.1 ≠ X.env.locals ∧ p.1 ∉ X.fs ∧ ∀ v, p.2.data ≠ .cell v) : Inv X (pins ++ more) σ H s where
  ok := I.ok
  os := I.os
  bare := I.bare
  base := I.base
  loc := I.loc
  cell := I.cell
  free := I.free
  freeC := I.freeC
  pin := fun p hp => by
    rw [← List.append_assoc] at hp
    rcases List.mem_append.mp hp with q | q
    · exact I.pin p q
    · exact h p q
  hok := I.hok
  len := I.len
theorem pins_less {X : Cx} {pins more : List (Addr × Obj)} {σ : L2.St} {H : Hp} {s : Shared} (I : Inv X (pins ++ more) σ H s) : Inv X pins σ H s where
  ok := I.ok
  os := I.os
  bare := I.bare
  base := I.base
  loc := I.loc
  cell := I.cell
  free := I.free
  freeC := I.freeC
  pin := fun p hp => I.pin p (by rw [← List.append_assoc]; exact List.mem_append_left _ hp)
  hok := I.hok
  len := I.len
def iZipZ (K : PySem.W.Frag) (ta tb : TA) : TI := fun σ H R => ta σ H fun vs H1 => ∃ (p q : Bool × Addr) (xs ys : List V), vs = [.ref p.2, .ref q.2] ∧ SqB K H1 p.1 p.2 xs ∧ SqB K H1 q.1 q.2 ys ∧
  tb σ H1 fun us H2 => ∃ (r : Bool × Addr) (zs : List V), us = [.ref r.2] ∧ SqB K H2 r.1 r.2 zs ∧ R (ItzZ K p q r) H2
theorem sq_is {X : Cx} {pins : List (Addr × Obj)} {σ : L2.St} {H : Hp} {s : Shared} (I : Inv X pins σ H s) {p : Bool × Addr} {xs : List V} (h : SqB X.K H p.1 p.2 xs) : IsSq s.heap (argOf p) ∧ p.2 < s.heap.objs.size ∧ (H p.2 ≠ none ∨ p.2 < X.base.objs.size) := by
  obtain ⟨its, rv, hi⟩ := SqB.obj I h
  refine ⟨⟨its.toArray, hi⟩, ?_, ?_⟩
  · split at hi
    · obtain ⟨o, e, _⟩ := hi; exact Heap.lt_size e
    · obtain ⟨o, e, _⟩ := hi; exact Heap.lt_size e
  · obtain ⟨b, l⟩ := p
    cases b with
    | true =>
      rcases (show SqL X.K H l xs from h) with (q | ⟨o, q⟩) | ⟨o, its, n, q, _⟩
      · exact .inl fun z => by rw [z] at q; cases q
      · exact .inl fun z => by rw [z] at q; cases q
      · exact .inr (Heap.lt_size (I.mod.kin _ _ q))
    | false =>
      rcases (show SqT X.K H l xs from h) with (q | ⟨o, q⟩) | ⟨o, its, n, q, _⟩
      · exact .inl fun z => by rw [z] at q; cases q
      · exact .inl fun z => by rw [z] at q; cases q
      · exact .inr (Heap.lt_size (I.mod.kin _ _ q))
theorem pi_zz {X : Cx} {e1 e2 e3 : Expr} {ta tb : TA} {p p2 pos pos2 tpos : Pos} {elts : List Expr} {kk : Nat} (hg : Gl X "zip") (hm : X.mg "zip" = none) (ha : PA X [e1, e2] ta) (hb : PA X [e3] tb)
    (hs : starEach [.Call (.Name "zip" p2) [e1, e2] [] pos2, e3] X.env = (false, eval (.Call (.Name "zip" p2) [e1, e2] [] pos2) X.env) :: starEach [e3] X.env := by rfl) (hpl : (backTo pos (starEach [e3] X.env)).any (·.1) = false := by rfl)
    (hs2 : starEach [e1, e2] X.env = (false, eval e1 X.env) :: starEach [e2] X.env := by rfl) (hpl2 : (backTo pos2 (starEach [e2] X.env)).any (·.1) = false := by rfl) :
    PI X (.Tuple elts kk tpos) (.Call (.Name "zip" p) [.Call (.Name "zip" p2) [e1, e2] [] pos2, e3] [] pos) (iZipZ X.K ta tb) := by
  refine ⟨fun pins s σ H R I h => ?_⟩
  refine Call_ (ld_blt I hg hm PyProof.Rows.boot_zip (PyProof.Rows.callWith_type1 (?_) hs hpl))
  rw [hs]
  show wpAny _ _ (spliced ((false, eval (.Call (.Name "zip" p2) [e1, e2] [] pos2) X.env) :: backTo pos (starEach [e3] X.env))) _ _ s
  refine Calls.spliced_cons ?_
  refine Call_ (ld_blt I hg hm PyProof.Rows.boot_zip (PyProof.Rows.callWith_type1 (thn (ha.run pos2 pins s σ H _ I h) fun us s1 ⟨vs, H1, I1, r1, q1⟩ => ?_) hs2 hpl2))
  obtain ⟨⟨p1, l1⟩, ⟨p2', l2⟩, xs, ys, ev, x1, x2, q⟩ := q1
  subst ev
  obtain rfl : us = [.ref l1, .ref l2] := vals_refs (as := [(p1, l1), (p2', l2)]) r1
  obtain ⟨s_1, b_1, -⟩ := sq_is I1 (p := (p1, l1)) x1
  obtain ⟨s_2, b_2, -⟩ := sq_is I1 (p := (p2', l2)) x2
  obtain ⟨c1, c2, c3, c4, c5, c6⟩ := legs_ok (b0 := s1.heap.objs.size) [(p1, l1), (p2', l2)] s1.heap fun p hp => by
    simp only [List.mem_cons, List.not_mem_nil, or_false] at hp
    rcases hp with rfl | rfl
    · exact b_1
    · exact b_2
  refine call_zipN (args := [(p1, l1), (p2', l2)].map argOf) (by show 2 ≤ 1000; decide) (ct2 _ _) (cn2 _ _) (fun obj => F.args_object_init_3 obj _ _) (fun a ha => ?_) fun h2 b2 hbe hz2 hTI2 hTO2 hk2 => ?_
  · obtain ⟨p, hp, rfl⟩ := List.mem_map.mp ha
    simp only [List.mem_cons, List.not_mem_nil, or_false] at hp
    rcases hp with rfl | rfl
    · exact s_1
    · exact s_2
  rw [c1] at hTI2 hTO2
  rw [c2] at hbe
  obtain ⟨a1, -⟩ := c3 ⟨p1, s1.heap.objs.size, l1⟩ (by simp [legsOf])
  obtain ⟨a2, -⟩ := c3 ⟨p2', s1.heap.objs.size + 1, l2⟩ (by simp [legsOf])
  have hbe : b2 = s1.heap.objs.size + 2 := hbe
  have a1 := a1.to fun o q => hk2 _ o trivial q
  have a2 := a2.to fun o q => hk2 _ o trivial q
  have hka : ∀ c o, s1.heap.get? c = some o → h2.get? c = some o := fun c o q => hk2 c o trivial (heapOf_kept _ _ _ _ trivial q)
  have I2 : Inv X pins σ H1 { s1 with heap := h2 } := I1.kept (t' := s1.toks) hka
  obtain ⟨o1, g1, vs1, d1⟩ := a1.obj
  obtain ⟨o2, g2, vs2, d2⟩ := a2.obj
  have new : ∀ c, s1.heap.objs.size ≤ c → H1 c = none ∧ c ≠ X.env.locals ∧ c ∉ X.fs := fun c hc => ⟨I1.hok.fresh hc, Nat.ne_of_gt (Nat.lt_of_lt_of_le I1.lt hc), I1.nofs hc⟩
  have I3 : Inv X (pins ++ [(s1.heap.objs.size, o1), (s1.heap.objs.size + 1, o2), (b2, { cls := .type "tuple", data := .seq ((legsOf s1.heap.objs.size [(p1, l1), (p2', l2)]).map fun t => Value.ref t.it).toArray }), (b2 + 1, { cls := .type "tuple", data := .seq (((legsOf s1.heap.objs.size [(p1, l1), (p2', l2)]).map fun t => Value.ref t.it).map fun _ => Value.none).toArray }), (b2 + 2, { cls := .type "zip", dict := none, data := .fields #[.none, .bool false, .bool false, .ref b2, .ref (b2 + 1)], slots := #[] })]) σ H1 { s1 with heap := h2 } := pins_more I2 fun pp hp => by
    simp only [List.mem_cons, List.not_mem_nil, or_false] at hp
    rcases hp with rfl | rfl | rfl | rfl | rfl
    · obtain ⟨n1, n2, n3⟩ := new s1.heap.objs.size (Nat.le_refl _)
      exact ⟨g1, n1, n2, n3, fun v q => by rw [d1] at q; cases q⟩
    · obtain ⟨n1, n2, n3⟩ := new (s1.heap.objs.size + 1) (Nat.le_succ _)
      exact ⟨g2, n1, n2, n3, fun v q => by rw [d2] at q; cases q⟩
    · obtain ⟨n1, n2, n3⟩ := new b2 (by rw [hbe]; exact Nat.le_add_right _ _)
      exact ⟨hTI2, n1, n2, n3, fun v q => nomatch q⟩
    · obtain ⟨n1, n2, n3⟩ := new (b2 + 1) (by rw [hbe]; exact Nat.le_add_right _ 3)
      exact ⟨hTO2, n1, n2, n3, fun v q => nomatch q⟩
    · obtain ⟨n1, n2, n3⟩ := new (b2 + 2) (by rw [hbe]; exact Nat.le_add_right _ 4)
      exact ⟨hz2, n1, n2, n3, fun v q => nomatch q⟩
  refine thn (hb.run pos _ _ σ H1 _ I3 q) fun us3 s3 ⟨ws, H3, I4, r3, q3⟩ => ?_
  obtain ⟨⟨p3, l3⟩, zs, ew, x3, q3⟩ := q3
  subst ew
  obtain rfl : us3 = [.ref l3] := vals_refs (as := [(p3, l3)]) r3
  obtain ⟨s_3, b_3, n_3⟩ := sq_is I4 (p := (p3, l3)) x3
  have pin : ∀ pp ∈ [(s1.heap.objs.size, o1), (s1.heap.objs.size + 1, o2), (b2, ({ cls := .type "tuple", data := .seq ((legsOf s1.heap.objs.size [(p1, l1), (p2', l2)]).map fun t => Value.ref t.it).toArray } : Obj)), (b2 + 1, { cls := .type "tuple", data := .seq (((legsOf s1.heap.objs.size [(p1, l1), (p2', l2)]).map fun t => Value.ref t.it).map fun _ => Value.none).toArray }), (b2 + 2, { cls := .type "zip", dict := none, data := .fields #[.none, .bool false, .bool false, .ref b2, .ref (b2 + 1)], slots := #[] })], s3.heap.get? pp.1 = some pp.2 ∧ H3 pp.1 = none := fun pp hp => by
    have := I4.pin pp (by rw [← List.append_assoc]; exact List.mem_append_right _ hp)
    exact ⟨this.1, this.2.1⟩
  have I5 : Inv X pins σ H3 s3 := pins_less I4
  obtain ⟨k1, m1⟩ := pin (s1.heap.objs.size, o1) (by simp)
  obtain ⟨k2, m2⟩ := pin (s1.heap.objs.size + 1, o2) (by simp)
  obtain ⟨k3, m3⟩ := pin (b2, _) (.tail _ (.tail _ (.head _)))
  obtain ⟨k4, m4⟩ := pin (b2 + 1, _) (.tail _ (.tail _ (.tail _ (.head _))))
  obtain ⟨k5, m5⟩ := pin (b2 + 2, _) (.tail _ (.tail _ (.tail _ (.tail _ (.head _)))))
  have big : b2 + 2 < s3.heap.objs.size := Heap.lt_size k5
  refine call_zipN (args := [.own (b2 + 2) b2 (b2 + 1) .none, argOf (p3, l3)]) (by show 2 ≤ 1000; decide) (ct2 _ _) (cn2 _ _) (fun obj => F.args_object_init_3 obj _ _) (fun a ha => ?_) fun h4 b4 hb4 hz hTI hTO hk4 => wpAny_pyIter_zip hz ?_
  · simp only [List.mem_cons, List.not_mem_nil, or_false] at ha
    rcases ha with rfl | rfl
    · exact k5
    · exact s_3
  have hb4 : b4 = s3.heap.objs.size + 1 := hb4.trans (Heap.size_push ..)
  have hk5 : ∀ c o, s3.heap.get? c = some o → h4.get? c = some o := fun c o q => hk4 c o trivial (Heap.get?_push_of_some _ q)
  have I6 : Inv X pins σ H3 { s3 with heap := h4 } := I5.kept (t' := s3.toks) hk5
  have a3 : (⟨p3, s3.heap.objs.size, l3⟩ : Leg).At h4 0 := by
    have g : (heapOf s3.heap [.own (b2 + 2) b2 (b2 + 1) .none, argOf (p3, l3)]).get? s3.heap.objs.size = some (itO p3 l3) := Heap.get?_push_size _ rfl
    have g := hk4 _ _ trivial g
    cases p3 with
    | true => exact ⟨_, g, rfl, rfl⟩
    | false => exact ⟨_, g, rfl, rfl⟩
  have lay : LayZ (b4 + 2) b4 (b4 + 1) (b2 + 2) b2 (b2 + 1) s1.heap.objs.size ⟨p1, s1.heap.objs.size, l1⟩ ⟨p2', s1.heap.objs.size + 1, l2⟩ ⟨p3, s3.heap.objs.size, l3⟩ := by
    have ne : ∀ c, s1.heap.objs.size ≤ c → H3 c = none → l3 ≠ c := fun c hc hn q => by
      rcases n_3 with n | n
      · exact n (by show H3 l3 = none; rw [q]; exact hn)
      · have n : l3 < X.base.objs.size := n
        rw [q] at n
        exact absurd (Nat.lt_of_lt_of_le n (Nat.le_trans I1.ok.bsz I1.sz)) (Nat.not_lt.mpr hc)
    have e1 := ne _ (Nat.le_refl _) m1
    have e2 := ne _ (Nat.le_succ _) m2
    have e3 := ne _ (by rw [hbe]; exact Nat.le_add_right _ 2) m3
    have e4 := ne _ (by rw [hbe]; exact Nat.le_add_right _ 3) m4
    have e5 := ne _ (by rw [hbe]; exact Nat.le_add_right _ 4) m5
    refine ⟨?_, b_1, b_2, b_3, e1, e2, e3, e4, e5⟩
    dsimp only
    unfold Addr at *
    omega
  refine ⟨b4 + 2, [b4 + 2, b4, b4 + 1, b2 + 2, b2, b2 + 1, s1.heap.objs.size, s1.heap.objs.size + 1, s3.heap.objs.size], _, _, H3, rfl, I6, turn_zz (P := X.prog) (w := X.w) (K := X.K) lay, ?_, fun c hc => ?_, q3⟩
  · exact ⟨hz, hTI, ⟨_, hTO, rfl⟩, ⟨_, _, hk5 _ _ k5, .inl rfl⟩, hk5 _ _ k3, ⟨_, hk5 _ _ k4, rfl⟩, a1.to fun o q => hk5 _ _ (by rw [g1] at q; cases q; exact k1), a2.to fun o q => hk5 _ _ (by rw [g2] at q; cases q; exact k2), a3⟩
  · have old : ∀ c, s1.heap.objs.size ≤ c → H3 c = none → FpOk X pins H3 c := fun c h1 h2 => I1.fpOk h1 h2
    have fresh : ∀ c, s3.heap.objs.size ≤ c → FpOk X pins H3 c := fun c h1 => I5.fpOk h1 (I5.hok.fresh h1)
    simp only [List.mem_cons, List.not_mem_nil, or_false] at hc
    rcases hc with rfl | rfl | rfl | rfl | rfl | rfl | rfl | rfl | rfl
    · exact fresh _ (by rw [hb4]; exact Nat.le_add_right _ 3)
    · exact fresh _ (by rw [hb4]; exact Nat.le_add_right _ 1)
    · exact fresh _ (by rw [hb4]; exact Nat.le_add_right _ 2)
    · exact old _ (by rw [hbe]; exact Nat.le_add_right _ 4) m5
    · exact old _ (by rw [hbe]; exact Nat.le_add_right _ 2) m3
    · exact old _ (by rw [hbe]; exact Nat.le_add_right _ 3) m4
    · exact old _ (Nat.le_refl _) m1
    · exact old _ (Nat.le_succ _) m2
    · exact fresh _ (Nat.le_refl _)
end ZP
namespace DL
open PySem PySem.Spec L2
open PySem.W (Frag)
/-- the iterator gives these, each a new tuple that holds a new tuple -/
def IsItZ (K : Frag) (w : Wd) (xs : List PyData) (J : L2.It) : Prop := Walk J xs.length (fun H => ∀ a o, w.F a = some o → H a = some o)
  (fun i H x H' => ∃ d, xs[i]? = some d ∧ ∃ T U o o2, T ≠ U ∧ H T = none ∧ H U = none ∧ H' = upd (upd H T o) U o2 ∧ Dp K (upd (upd w.F T o) U o2) x d)
def DIZ (X : Cx) (W : WX) (tg it : Expr) (f : Ei) : Prop := PI X tg it fun σ H R => tG X.K W (IsItZ X.K) f σ H R
def zzD (xs ys zs : List PyData) : List PyData := ((xs.zip ys).zip zs).map fun p => .tuple [.tuple [p.1.1, p.1.2], p.2]
theorem zzD_len (xs ys zs : List PyData) : (zzD xs ys zs).length = min (min xs.length ys.length) zs.length := by unfold zzD; simp
theorem zzD_get {xs ys zs : List PyData} {i : Nat} {d e f : PyData} (h : xs[i]? = some d) (h' : ys[i]? = some e) (h'' : zs[i]? = some f) : (zzD xs ys zs)[i]? = some (.tuple [.tuple [d, e], f]) := by
  unfold zzD
  rw [List.getElem?_map, (List.getElem?_zip_eq_some (z := ((d, e), f))).mpr ⟨(List.getElem?_zip_eq_some (z := (d, e))).mpr ⟨h, h'⟩, h''⟩]
  rfl
theorem isItZ {K : Frag} {w : Wd} {xs ys zs : List PyData} {p q r : Bool × Addr} {vs us ts : List V} (d : DpAll K w.F vs xs) (d' : DpAll K w.F us ys) (d'' : DpAll K w.F ts zs)
    (h1 : ZP.SqB K w.F p.1 p.2 vs) (h2 : ZP.SqB K w.F q.1 q.2 us) (h3 : ZP.SqB K w.F r.1 r.2 ts) : IsItZ K w (zzD xs ys zs) (ZP.ItzZ K p q r) := by
  have l1 := d.len
  have l2 := d'.len
  have l3 := d''.len
  unfold IsItZ
  rw [zzD_len]
  refine ⟨fun i H hi hs => ⟨vs, us, ts, sqb_up hs h1, sqb_up hs h2, sqb_up hs h3, by omega, by omega, by omega⟩, fun H hs => ⟨vs, us, ts, sqb_up hs h1, sqb_up hs h2, sqb_up hs h3, by omega⟩, fun i H x H' hi hs y => ?_⟩
  obtain ⟨T, U, o1, o2, a, b, c, rfl, hT, hU, hTU, t1, t2, rfl, e1, e2, e3⟩ := y
  obtain ⟨z1, g1, k1⟩ := d.get' (e1 _ (sqb_up hs h1))
  obtain ⟨z2, g2, k2⟩ := d'.get' (e2 _ (sqb_up hs h2))
  obtain ⟨z3, g3, k3⟩ := d''.get' (e3 _ (sqb_up hs h3))
  have hF : w.F T = none := by
    cases q : w.F T with
    | none => rfl
    | some o => rw [hs _ _ q] at hT; cases hT
  have hF2 : w.F U = none := by
    cases q : w.F U with
    | none => rfl
    | some o => rw [hs _ _ q] at hU; cases hU
  have hle : ∀ (a' : Addr) (u : HO), w.F a' = some u → upd (upd w.F T (.frz o1 (.tup [a, b]))) U (.frz o2 (.tup [.ref T, c])) a' = some u := fun a' u q => by rw [upd_ne (ne_of_none q hF2), upd_ne (ne_of_none q hF)]; exact q
  refine ⟨_, zzD_get g1 g2 g3, T, U, _, _, hTU, hT, hU, rfl, .tup ⟨o2, t2, upd_same⟩ (.cons (.tup ⟨o1, t1, ?_⟩ (.cons (Dp.up hle _ _ k1) (.cons (Dp.up hle _ _ k2) .nil))) (.cons (Dp.up hle _ _ k3) .nil))⟩
  rw [upd_ne hTU, upd_same]
section
variable {X : Cx} {W : WX}
def zzI (f g k : Ev) : Ei := fun e M => (f e M).bind fun x M1 => (g e M1).bind fun y M2 => match zipOf x y with
  | some q => (k e M2).bind fun z M3 => match walkOf z with
    | some zs => .ok (zzD q.1 q.2 zs) M3
    | none => .st
  | none => .st
theorem di_zz {e e2 e3 : Expr} {f g k : Ev} {p p2 pos pos2 tpos : Pos} {elts : List Expr} {kk : Nat} (hg : Gl X "zip") (hm : X.mg "zip" = none) (ha : DE X W e f) (hb : DE X W e2 g) (hc : DE X W e3 k)
    (hs : starEach [.Call (.Name "zip" p2) [e, e2] [] pos2, e3] X.env = (false, eval (.Call (.Name "zip" p2) [e, e2] [] pos2) X.env) :: starEach [e3] X.env := by rfl) (hpl : (backTo pos (starEach [e3] X.env)).any (·.1) = false := by rfl)
    (hs2 : starEach [e, e2] X.env = (false, eval e X.env) :: starEach [e2] X.env := by rfl) (hs3 : starEach [e2] X.env = (false, eval e2 X.env) :: starEach [] X.env := by rfl) (hs4 : starEach [e3] X.env = (false, eval e3 X.env) :: starEach [] X.env := by rfl) (hpl2 : (backTo pos2 (starEach [e2] X.env)).any (·.1) = false := by rfl) :
    DIZ X W (.Tuple elts kk tpos) (.Call (.Name "zip" p) [.Call (.Name "zip" p2) [e, e2] [] pos2, e3] [] pos) (zzI f g k) :=
  PIweak (ZP.pi_zz hg hm (pa_cons ha (pa_cons hb pa_nil hs3) hs2) (pa_cons hc pa_nil hs4) hs hpl hs2 hpl2) fun σ H R ⟨w, e, M, r, re, p⟩ =>
    ⟨w, e, M, r, re, p.bind fun x M1 w1 v H1 l1 r1 rv p1 =>
      ⟨w1, e, M1, r1, re.up l1, p1.bind fun y M2 w2 u H2 l2 r2 ru p2 => by
        have rv := rv.up l2
        unfold zipOf at p2
        split at p2
        · rename_i q hq
          split at hq
          · rename_i xs ys h1 h2
            cases hq
            obtain ⟨a, vs, rfl, s1, d1⟩ := walk_at rv h1
            obtain ⟨b, us, rfl, s2, d2⟩ := walk_at ru h2
            obtain ⟨la, s1⟩ := sqb_of s1
            obtain ⟨lb, s2⟩ := sqb_of s2
            refine ⟨(la, a), (lb, b), vs, us, rfl, sqb_up r2.sub s1, sqb_up r2.sub s2, ⟨w2, e, M2, r2, (re.up l1).up l2, p2.bind fun z M3 w3 t H3 l3 r3 rt p3 => ?_⟩⟩
            split at p3
            · rename_i zs h3
              obtain ⟨c, ts, rfl, s3, d3⟩ := walk_at rt h3
              obtain ⟨lc, s3⟩ := sqb_of s3
              exact ⟨(lc, c), ts, rfl, sqb_up r3.sub s3, p3.at r3 (isItZ (p := (la, a)) (q := (lb, b)) (r := (lc, c)) (DpAll.up l3.2 _ _ d1) (DpAll.up l3.2 _ _ d2) d3 (sqb_up l3.2 s1) (sqb_up l3.2 s2) s3)⟩
            · exact p3.elim
          · cases hq
        · exact p2.elim⟩⟩
theorem ds_forZ {tg it : Expr} {body : List Stmt} {f : Ei} {γ : Tg} {g : Sv} {pos : Pos} (hp : PassesOwn (model X.prog X.w) X.A X.env X.xe) (hc : X.calm = true) (hi : DIZ X W tg it f) (hg : GD X tg γ) (hb : DSs X W body g)
    (hs : ∀ x, foldedSetIterable it X.env x = pure x := by intro _; rfl) : DS X W (.For tg it body [] pos) (forS f γ g) :=
  PSweak (ps_for hp hc hi hg hb hs) fun D σ H ⟨w, e, M, r, re, p⟩ => ⟨w, e, M, r, re, p.of re fun xs M1 w1 J H1 l1 r1 hit p1 => by
    refine for_it (g := tTg X.K false γ) (tb := tS X.K W g) (D := D) hit (fun i σ H => ∃ w2 e2 M2, w1.le w2 ∧ Rel X.K w2 M2 H ∧ RE X.K w2 e2 σ ∧ PostS X.K W w2 (forL γ g (xs.drop i) e2 M2) D) ⟨w1, e, M1, Wd.le_refl _, r1, re.up l1, p1⟩ (fun i σ H _ ⟨w2, e2, M2, l2, r2, _, _⟩ a o q => r2.sub _ _ (l2.2 _ _ q)) ?_ ?_
    · rintro i x σ H H' hi ⟨w2, e2, M2, l2, r2, re2, p2⟩ ⟨d, hd, hx⟩
      have e1 : xs.drop i = d :: xs.drop (i + 1) := by
        rw [List.drop_eq_getElem_cons hi]
        rw [List.getElem?_eq_getElem hi] at hd
        rw [Option.some.inj hd]
      rw [e1] at p2
      unfold forL at p2
      have go : ∀ w3, w2.le w3 → Rel X.K w3 M2 H' → Dp X.K w3.F x d → tTg X.K false γ x σ H' fun σ2 H2 =>
          tS X.K W g { D with
            nx := fun σ H => ∃ w2 e2 M2, w1.le w2 ∧ Rel X.K w2 M2 H ∧ RE X.K w2 e2 σ ∧ PostS X.K W w2 (forL γ g (xs.drop (i + 1)) e2 M2) D
            ct := fun σ H => ∃ w2 e2 M2, w1.le w2 ∧ Rel X.K w2 M2 H ∧ RE X.K w2 e2 σ ∧ PostS X.K W w2 (forL γ g (xs.drop (i + 1)) e2 M2) D
            bk := D.nx } σ2 H2 := fun w3 l3 r3 dx => by
        refine ⟨w3, e2, M2, .d d, r3, re2.up l3, .inr ⟨d, rfl, .inl dx⟩, ?_⟩
        cases q : γ (.d d) e2 M2 with
        | st => rw [q] at p2; exact p2.elim
        | er C fs M3 => rw [q] at p2; exact p2.elim
        | ok e3 M3 =>
          rw [q] at p2
          dsimp only at p2
          intro w4 σ4 H4 l4 r4 re4
          refine ⟨w4, e3, M3, r4, re4, ?_⟩
          have l14 : w1.le w4 := (l2.trans l3).trans l4
          have p2 := PostS.up (l3.trans l4) p2
          cases q2 : g e3 M3 with
          | st => rw [q2] at p2; exact p2.elim
          | er C fs e4 M4 => rw [q2] at p2; exact p2
          | go f e4 M4 =>
            rw [q2] at p2
            cases f with
            | nx => exact fun w5 σ5 H5 l5 r5 re5 => ⟨w5, e4, M4, l14.trans l5, r5, re5, PostS.up l5 p2⟩
            | ct => exact fun w5 σ5 H5 l5 r5 re5 => ⟨w5, e4, M4, l14.trans l5, r5, re5, PostS.up l5 p2⟩
            | bk => exact p2
            | rt x => exact p2
      obtain ⟨T, U, o, o2, hTU, hT, hU, rfl, dx⟩ := hx
      have hF := (r2.new hT).2
      have r3 := r2.alloc hT o
      have hU2 : upd H T o U = none := by rw [upd_ne (Ne.symm hTU)]; exact hU
      have hF2 := (r3.new hU2).2
      refine go ((w2.fz T o).fz U o2) ((Wd.le_fz hF).trans (Wd.le_fz hF2)) (r3.alloc hU2 o2) (Dp.up (fun a u q => ?_) _ _ dx)
      show upd (upd w2.F T o) U o2 a = some u
      by_cases ha : a = U
      · subst ha; rw [upd_same] at q ⊢; exact q
      · rw [upd_ne ha] at q ⊢
        by_cases ha : a = T
        · subst ha; rw [upd_same] at q ⊢; exact q
        · rw [upd_ne ha] at q ⊢; exact l2.2 _ _ q
    · rintro σ H ⟨w2, e2, M2, l2, r2, re2, p2⟩
      rw [List.drop_length] at p2
      exact p2.nx r2 re2⟩
end
theorem zzI_a {f g k : Ev} {e : Env} {M M1 M2 M3 : Mem} {x y z : Vl} {xs ys zs : List PyData} (h : f e M = .ok x M1) (h2 : g e M1 = .ok y M2) (h3 : k e M2 = .ok z M3) (hx : walkOf x = some xs) (hy : walkOf y = some ys) (hz : walkOf z = some zs) : zzI f g k e M = .ok (zzD xs ys zs) M3 := by
  unfold zzI zipOf
  rw [h, bind_ok, h2, bind_ok, hx, hy]
  dsimp only
  rw [h3, bind_ok, hz]
end DL
namespace ZP
open PySem PySem.Spec PyProof.Rows
open PySem.Sem (wp)
open PySem.Builtin.SmallTypes (nextOf)
theorem nolen_zip : typeLookup (.type "zip") "__len__" = pure none := by rw [typeLookup_type, builtinLookup_eq_fast]; kernel_rfl
theorem nohint_zip : typeLookup (.type "zip") "__length_hint__" = pure none := by rw [typeLookup_type, builtinLookup_eq_fast]; kernel_rfl
structure ItsZ (B : Nat) (L : List Src) (i : Nat) (Ts : List Addr) (h : Heap) : Prop where
  len : Ts.length = i
  inc : Ts.Pairwise (· < ·)
  ge : ∀ T ∈ Ts, B ≤ T ∧ T < h.objs.size
  at_ : ∀ (j : Nat) (T : Addr), Ts[j]? = some T → ∃ xs, isTup h T xs ∧ Vals3 j h L xs
abbrev lsO (Ts : List Addr) (c : Nat) : Obj := { cls := .type "list", dict := none, data := .seq (Ts.map Value.ref).toArray c, slots := #[] }
section
variable {P : Program} {w : World} {A : Around} {E : Value → Shared → Prop} {s : Shared} {z TI TO : Addr} {L : List Src} {B : Nat}
theorem pyIter_zipB {f0 : Value} {b : Bool} {Q : Value → Shared → Prop} (hz : IsZipB s.heap z TI TO f0 b) (h : Q (.ref z) s) : wpAny (model P w) A (pyIter (.ref z)) Q E s := by
  have hT : s.TypeIs (.ref z) "zip" := ⟨_, hz, rfl⟩
  refine wpAny_pyIter_slot hT F.slot_zip_iter (wpAny_call_entry F.slot_zip_iter hT F.entry_zip_iter ?_ (F.args_zip_iter_1 _))
  show wpAny _ _ (ret (.ref z)) _ _ s
  exact wpAny_pure ⟨_, rfl, "zip", _, hT, F.slot_zip_next.lookup, h⟩
theorem pyNext_st {i : Nat} {Q : Option Value → Shared → Prop} (hh : A.handled = none) (hL : ∀ S ∈ L, SrcOk P w B S) (hA : Aparts L) (O : Own z TI TO L)
    (bz : z < B ∧ TI < B ∧ TO < B) (hB : B ≤ s.heap.objs.size) (hl : L.length ≤ 1000) (h0 : L ≠ []) (st : zSt z TI TO L i s.heap)
    (hQ : i < least L → ∀ (h' : Heap) (xs : List Value) (T : Addr), zSt z TI TO L (i + 1) h' → Vals3 i h' L xs → isTup h' T xs → s.heap.objs.size ≤ T → T < h'.objs.size → Kept (fun c => c ≠ z ∧ c ≠ TO ∧ c ∉ fps L) s.heap h' → Q (some (.ref T)) { s with heap := h' })
    (hE : least L ≤ i → ∀ h', Kept (fun c => c ≠ z ∧ c ≠ TO ∧ c ∉ fps L) s.heap h' → Q none { s with heap := h' }) : wpAny (model P w) A (pyNext (.ref z)) Q E s := by
  obtain ⟨⟨f, b, q1, q2⟩, q3, ⟨old, q4, q5⟩, q6⟩ := st
  have hT : s.TypeIs (.ref z) "zip" := ⟨_, q1, rfl⟩
  unfold pyNext
  refine wpAny_bind (wpAny_attempt (wpAny_callSpecial?_slot (name := Str.ofString "__next__") hT F.slot_zip_next
    (wpAny_call_entry F.slot_zip_next hT F.entry_zip_next (next_all (fun _ => hh) hL hA O bz hB hl h0 q2 q1 q3 q4 q5 q6
      (fun q h' xs T f1 b1 old1 a1 a2 a3 a4 a5 a6 a7 a8 a9 a10 _ _ a13 => wpAny_pure (hQ ((least_lt h0).mpr q) h' xs T ⟨⟨f1, b1, a1, a2⟩, a3, ⟨old1, a4, a5⟩, a6⟩ a7 a8 a9 a10 a13)) (fun ⟨S, hS, hn⟩ h' e k he => ?_)) (F.args_zip_next_1 _))))
  obtain ⟨o, ho, hc⟩ := he
  refine wpAny_bind (wpAny_isInstance (T := "StopIteration") (b := true) ⟨o, ho, hc⟩ isSubtype_stop ?_)
  exact wpAny_pure (hE (Nat.le_of_not_lt fun q => absurd ((least_lt h0).mp q S hS) (Nat.not_lt.mpr hn)) _ k)
theorem extend_zip {R : Result → Shared → Prop} (hh : A.in1.handled = none) (hL : ∀ S ∈ L, SrcOk P w B S) (hA : Aparts L) (O : Own z TI TO L)
    (bz : z < B ∧ TI < B ∧ TO < B) (hl : L.length ≤ 1000) (h0 : L ≠ []) (hn : least L ≤ sizeLine) (S : Addr) (hS : S < B) (hSf : S ∉ z :: TI :: TO :: dms L) (res : Value) :
    ∀ (k i : Nat) (s : Shared) (Ts : List Addr) (c : Nat), least L - i = k → i ≤ least L → zSt z TI TO L i s.heap → B ≤ s.heap.objs.size → s.heap.get? S = some (lsO Ts c) → ItsZ B L i Ts s.heap →
    (∀ h' Ts' c', h'.get? S = some (lsO Ts' c') → ItsZ B L (least L) Ts' h' → Kept (fun c => c ∉ S :: z :: TO :: fps L) s.heap h' → R (.ok (.ret res)) { s with heap := h' }) →
    codeAny (model P w) A (.builtin "list.extend.loop" ⟨[.ref S, .ref z, res], []⟩) R s := by
  have hfp : ∀ c, c ∉ z :: TI :: TO :: dms L → c ≠ z ∧ c ≠ TO ∧ c ∉ fps L := fun c hc => by
    simp only [List.mem_cons, not_or] at hc
    refine ⟨hc.1, hc.2.2.1, fun q => hc.2.2.2 ?_⟩
    obtain ⟨T, hT, q⟩ := mem_fps.mp q
    exact mem_dms.mpr ⟨T, hT, (hL T hT).sub c q⟩
  have hfp2 : ∀ c, c ∉ z :: TO :: fps L → c ≠ z ∧ c ≠ TO ∧ c ∉ fps L := fun c hc => by
    simpa only [List.mem_cons, not_or] using hc
  have low : ∀ c ∈ z :: TI :: TO :: dms L, c < B := fun c hc => by
    rcases List.mem_cons.mp hc with q | hc
    · rw [q]; exact bz.1
    rcases List.mem_cons.mp hc with q | hc
    · rw [q]; exact bz.2.1
    rcases List.mem_cons.mp hc with q | hc
    · rw [q]; exact bz.2.2
    obtain ⟨T, hT, q⟩ := mem_dms.mp hc
    exact (hL T hT).low c q
  intro k
  induction k with
  | zero =>
    intro i s Ts c hk hi hst hB hS1 hacc hR
    have hin : i = least L := by omega
    subst hin
    refine codeAny_builtin F.entry_extend_loop ?_
    rw [Around.under_plainId F.plain_extend_loop _]
    show wpAny _ A.in1 (pyNext (.ref z) >>= _) _ _ s
    refine wpAny_bind (pyNext_st hh hL hA O bz hB hl h0 hst (fun q => absurd q (Nat.lt_irrefl _)) fun _ h' hk => ?_)
    have kB : Kept (fun c => B ≤ c) s.heap h' := hk.mono fun c hc => hfp c fun q => absurd (low c q) (Nat.not_lt.mpr hc)
    refine wpAny_pure (hR h' Ts c (hk _ _ (hfp S hSf) hS1) ⟨hacc.len, hacc.inc, fun T hT => ⟨(hacc.ge T hT).1, ?_⟩, fun j T hj => ?_⟩ (hk.mono fun c hc => hfp2 c fun q => hc (List.mem_cons_of_mem _ q)))
    · obtain ⟨j, hj⟩ := List.getElem?_of_mem hT
      obtain ⟨xs, q, _⟩ := hacc.at_ j T hj
      exact Heap.lt_size (kB _ _ (hacc.ge T hT).1 q)
    · obtain ⟨xs, q, v⟩ := hacc.at_ j T hj
      exact ⟨xs, kB _ _ (hacc.ge T (List.mem_of_getElem? hj)).1 q, v.keep kB hL⟩
  | succ k ih =>
    intro i s Ts c hk hi hst hB hS1 hacc hR
    have hlt : i < least L := by omega
    refine codeAny_builtin F.entry_extend_loop ?_
    rw [Around.under_plainId F.plain_extend_loop _]
    show wpAny _ A.in1 (pyNext (.ref z) >>= _) _ _ s
    refine wpAny_bind (pyNext_st hh hL hA O bz hB hl h0 hst (fun _ h' xs T st' v hT hle hTl hk' => ?_) fun q => absurd hlt (Nat.not_lt.mpr q))
    have kB : Kept (fun c => B ≤ c) s.heap h' := hk'.mono fun c hc => hfp c fun q => absurd (low c q) (Nat.not_lt.mpr hc)
    have hS2 := hk' _ _ (hfp S hSf) hS1
    show wpAny _ A.in1 (updateSeq S (·.push (.ref T)) >>= _) _ _ _
    refine wpAny_bind ?_
    refine wpAny_updateSeq hS2 rfl (wpAny_pure ⟨plainId_quiet F.plain_extend_loop _, ?_⟩) (by show ((Ts.map Value.ref).toArray).size ≤ sizeLine; simp [hacc.len]; omega) (by show (((Ts.map Value.ref).toArray).push (.ref T)).size ≤ sizeLine + 1; rw [Array.size_push]; simp [hacc.len]; omega)
    have sb : Heap.SameBut S h' (h'.update S (Obj.mapSeq (·.push (.ref T)))) := Heap.SameBut.update ..
    have kS : Kept (fun c => c ≠ S) h' (h'.update S (Obj.mapSeq (·.push (.ref T)))) := .same sb
    have kSB : Kept (fun c => B ≤ c) h' (h'.update S (Obj.mapSeq (·.push (.ref T)))) := kS.mono fun c hc q => absurd hS (Nat.not_lt.mpr (q ▸ hc))
    have sz : (h'.update S (Obj.mapSeq (·.push (.ref T)))).objs.size = h'.objs.size := sb.1
    have hg := Heap.get?_update_self (Obj.mapSeq (·.push (.ref T))) hS2 rfl
    have hst2 : zSt z TI TO L (i + 1) (h'.update S (Obj.mapSeq (·.push (.ref T)))) := by
      obtain ⟨⟨f, b, q1, q2⟩, q3, ⟨old, q4, q5⟩, q6⟩ := st'
      have ne : ∀ c ∈ z :: TI :: TO :: dms L, c ≠ S := fun c hc q => hSf (q ▸ hc)
      exact ⟨⟨f, b, kS _ _ (ne z (by simp)) q1, q2⟩, kS _ _ (ne TI (by simp)) q3, ⟨old, kS _ _ (ne TO (by simp)) q4, q5⟩, fun U hU => (hL U hU).keep _ h' _ (q6 U hU) fun c o hc e => kS c o (by
        rcases hc with hc | hc
        · exact ne c (by have := mem_dms.mpr ⟨U, hU, hc⟩; simp [this])
        · exact fun q => absurd hS (Nat.not_lt.mpr (q ▸ hc))) e⟩
    refine ih (i + 1) _ (Ts ++ [T]) (c + 1) (by omega) hlt hst2 (by show B ≤ (h'.update S _).objs.size; rw [sz]; exact Nat.le_of_lt (Nat.lt_of_le_of_lt (Nat.le_trans hB hle) hTl)) (by
      show (h'.update S _).get? S = _
      rw [hg]
      simp [Obj.mapSeq, lsO]) ⟨by rw [List.length_append, hacc.len]; rfl, ?_, ?_, ?_⟩ fun h'' Ts' c' g1 g2 g3 => hR h'' Ts' c' g1 g2 fun c o hc e => g3 c o hc (kS c o (fun q => hc (by simp [q])) (hk' c o (hfp2 c fun q => hc (List.mem_cons_of_mem _ q)) e))
    · exact List.pairwise_append.mpr ⟨hacc.inc, List.pairwise_singleton _ _, fun a ha b hb => by
        rw [List.mem_singleton.mp hb]
        exact Nat.lt_of_lt_of_le (hacc.ge a ha).2 hle⟩
    · intro U hU
      rcases List.mem_append.mp hU with q | q
      · refine ⟨(hacc.ge U q).1, ?_⟩
        rw [sz]
        exact Nat.lt_trans (Nat.lt_of_lt_of_le (hacc.ge U q).2 hle) hTl
      · rw [List.mem_singleton.mp q, sz]
        exact ⟨Nat.le_trans hB hle, hTl⟩
    · intro j U hj
      by_cases hji : j < Ts.length
      · rw [List.getElem?_append_left hji] at hj
        obtain ⟨ys, q, v'⟩ := hacc.at_ j U hj
        have := (hacc.ge U (List.mem_of_getElem? hj)).1
        exact ⟨ys, kSB _ _ this (kB _ _ this q), (v'.keep kB hL).keep kSB hL⟩
      · rw [List.getElem?_append_right (Nat.le_of_not_lt hji)] at hj
        have e : j = i := by
          have : j - Ts.length < [T].length := (List.getElem?_eq_some_iff.mp hj).1
          have h2 := hacc.len
          simp at this
          omega
        subst e
        rw [hacc.len, Nat.sub_self] at hj
        cases hj
        exact ⟨xs, kSB _ _ (Nat.le_trans hB hle) hT, v.keep kSB hL⟩
/-- the zip's own heap behind the drawing -/
theorem collect_zip {Q : List Value → Shared → Prop} (hh : A.handled = none) (hL : ∀ S ∈ L, SrcOk P w (s.heap.objs.size + 1) S) (hA : Aparts L) (O : Own z TI TO L)
    (bz : z < s.heap.objs.size ∧ TI < s.heap.objs.size ∧ TO < s.heap.objs.size) (bd : ∀ c ∈ dms L, c < s.heap.objs.size) (hl : L.length ≤ 1000) (h0 : L ≠ []) (hn : least L ≤ sizeLine) (st : zSt z TI TO L 0 s.heap)
    (hQ : ∀ h' Ts, ItsZ (s.heap.objs.size + 1) L (least L) Ts h' → Kept (fun c => c ∉ z :: TO :: fps L) s.heap h' → Q (Ts.map Value.ref) { s with heap := h' }) : wpAny (model P w) A (collect (.ref z)) Q E s := by
  have hh1 : A.in1.handled = none := hh
  have low : ∀ c ∈ z :: TI :: TO :: dms L, c < s.heap.objs.size := fun c hc => by
    rcases List.mem_cons.mp hc with q | hc
    · rw [q]; exact bz.1
    rcases List.mem_cons.mp hc with q | hc
    · rw [q]; exact bz.2.1
    rcases List.mem_cons.mp hc with q | hc
    · rw [q]; exact bz.2.2
    exact bd c hc
  have hSf : s.heap.objs.size ∉ z :: TI :: TO :: dms L := fun hm => Nat.lt_irrefl _ (low _ hm)
  have hSI : s.heap.objs.size ≠ z := fun e => hSf (by simp [e])
  obtain ⟨⟨f, b, q1, q2⟩, q3, ⟨old, q4, q5⟩, q6⟩ := id st
  have up0 : Kept (fun _ => True) s.heap (s.heap.push { cls := .type "list", data := .seq ([] : List Value).toArray }) := fun c o _ e => Heap.get?_push_of_some _ e
  have hT1 : ({ s with heap := s.heap.push { cls := .type "list", data := .seq ([] : List Value).toArray } } : Shared).TypeIs (.ref z) "zip" := ⟨_, up0 _ _ trivial q1, rfl⟩
  unfold collect
  refine wpAny_bind (wpAny_runValue (codeAny_builtin F.entry_proto_collect ?_))
  rw [Around.under_plainId F.plain_proto_collect _]
  show wpAny _ A.in1 (newList [] >>= fun l => again (.builtin "list.__iadd__" ⟨[l, .ref z], []⟩)) _ _ s
  refine wpAny_bind (wpAny_newObj_type ?_)
  refine wpAny_pure ⟨plainId_quiet F.plain_list_iadd _, codeAny_builtin F.entry_list_iadd ?_⟩
  rw [Around.under_plainId F.plain_list_iadd _]
  show wpAny _ A.in1 (Builtin.List.listExtendWith (.ref s.heap.objs.size) (.ref z) (.ref s.heap.objs.size)) _ _ _
  unfold Builtin.List.listExtendWith
  refine wpAny_bind (wpAny_typeOf hT1 ?_)
  have h1 : Builtin.List.listSameRef (.ref s.heap.objs.size) (.ref z) = false := by simp [Builtin.List.listSameRef, hSI]
  have h2 : (Value.type "zip" == Value.type "list") = false := by decide
  have h3 : (Value.type "zip" == Value.type "tuple") = false := by decide
  simp only [h1, h2, h3, Bool.or_false, Bool.false_eq_true, if_false]
  refine wpAny_bind (pyIter_zipB (up0 _ _ trivial q1) ?_)
  refine wpAny_bind (wpAny_holding ?_)
  unfold Builtin.List.listLengthHint
  refine wpAny_bind (wpAny_specialOf hT1 nolen_zip ?_)
  show wpAny _ A.in1 (specialOf (Value.ref z) (Str.ofString "__length_hint__") >>= _) _ _ _
  refine wpAny_bind (wpAny_specialOf hT1 nohint_zip ?_)
  refine wpAny_pure ?_
  show wpAny _ A.in1 (rule "list.extend.makes-room" >>= fun _ => Builtin.List.listTouch (.ref s.heap.objs.size) >>= fun _ =>
    again (.builtin "list.extend.loop" ⟨[.ref s.heap.objs.size, .ref z, .ref s.heap.objs.size], []⟩)) _ _ _
  refine wpAny_bind (wpAny_rule ?_)
  have hS₁ : (s.heap.push { cls := .type "list", data := .seq ([] : List Value).toArray }).get? s.heap.objs.size = some { cls := .type "list", data := .seq ([] : List Value).toArray } := Heap.get?_push_size _ rfl
  refine wpAny_bind ?_
  show wpAny _ A.in1 (updateSeq s.heap.objs.size (·.push .none) >>= fun _ => updateSeq s.heap.objs.size (·.pop)) _ _ _
  refine wpAny_bind (wpAny_updateSeq hS₁ rfl ?_)
  have hS₂ := Heap.get?_update_self (Obj.mapSeq (·.push Value.none)) hS₁ rfl
  refine wpAny_updateSeq hS₂ rfl ?_
  have hS₃ := Heap.get?_update_self (Obj.mapSeq (·.pop)) hS₂ rfl
  have oth : ∀ b o, b ≠ s.heap.objs.size → s.heap.get? b = some o →
      (((s.heap.push { cls := .type "list", data := .seq ([] : List Value).toArray }).update s.heap.objs.size (Obj.mapSeq (·.push Value.none))).update s.heap.objs.size (Obj.mapSeq (·.pop))).get? b = some o :=
    fun b o hb e => (Heap.get?_update_other _ _ (Ne.symm hb)).trans ((Heap.get?_update_other _ _ (Ne.symm hb)).trans (Heap.get?_push_of_some _ e))
  have szz : (((s.heap.push { cls := .type "list", data := .seq ([] : List Value).toArray }).update s.heap.objs.size (Obj.mapSeq (·.push Value.none))).update s.heap.objs.size (Obj.mapSeq (·.pop))).objs.size = s.heap.objs.size + 1 := by
    rw [(Heap.SameBut.update ..).1, (Heap.SameBut.update ..).1, Heap.size_push]
  have ne : ∀ c ∈ z :: TI :: TO :: dms L, c ≠ s.heap.objs.size := fun c hc => Nat.ne_of_lt (low c hc)
  have hst : zSt z TI TO L 0 (((s.heap.push { cls := .type "list", data := .seq ([] : List Value).toArray }).update s.heap.objs.size (Obj.mapSeq (·.push Value.none))).update s.heap.objs.size (Obj.mapSeq (·.pop))) :=
    ⟨⟨f, b, oth _ _ (ne z (by simp)) q1, q2⟩, oth _ _ (ne TI (by simp)) q3, ⟨old, oth _ _ (ne TO (by simp)) q4, q5⟩, fun U hU => (hL U hU).keep _ s.heap _ (q6 U hU) fun c o hc e => oth c o (by
      rcases hc with hc | hc
      · exact ne c (by have := mem_dms.mpr ⟨U, hU, hc⟩; simp [this])
      · exact fun q => absurd hc (by rw [q]; exact Nat.not_succ_le_self _)) e⟩
  refine wpAny_pure ⟨plainId_quiet F.plain_extend_loop _, extend_zip hh1 hL hA O ⟨Nat.lt_succ_of_lt bz.1, Nat.lt_succ_of_lt bz.2.1, Nat.lt_succ_of_lt bz.2.2⟩ hl h0 hn s.heap.objs.size (Nat.lt_succ_self _) hSf _ (least L) 0 _ [] _ rfl (Nat.zero_le _) hst (Nat.le_of_eq szz.symm) hS₃ ⟨rfl, .nil, fun T hT => (List.not_mem_nil hT).elim, fun j T hj => by simp at hj⟩ fun h' Ts c' g1 g2 g3 => ?_⟩
  show wpAny _ A (load s.heap.objs.size >>= _) _ _ _
  refine wpAny_bind (wpAny_load g1 ?_)
  have := hQ h' Ts g2 fun c o hc e => by
    have hcs : c ≠ s.heap.objs.size := Nat.ne_of_lt (Heap.lt_size e)
    exact g3 c o (fun q => by
      rcases List.mem_cons.mp q with q | q
      · exact hcs q
      · exact hc q) (oth c o hcs e)
  refine wpAny_pure ?_
  simpa using this
end
end ZP
namespace ZP
open PySem PySem.Spec PyProof.Rows
open PySem.Sem (wp)
section
variable {P : Program} {w : World} {A : Around} {E : Value → Shared → Prop} {s : Shared} {z TI TO : Addr} {L : List Src}
theorem code_tuple_new_zip {Q₁ : Value → Shared → Prop} (hh : A.handled = none) (hL : ∀ S ∈ L, SrcOk P w (s.heap.objs.size + 1) S) (hA : Aparts L) (O : Own z TI TO L)
    (bz : z < s.heap.objs.size ∧ TI < s.heap.objs.size ∧ TO < s.heap.objs.size) (bd : ∀ c ∈ dms L, c < s.heap.objs.size) (hl : L.length ≤ 1000) (h0 : L ≠ []) (hn : least L ≤ sizeLine) (st : zSt z TI TO L 0 s.heap)
    (h : ∀ h' Ts, ItsZ (s.heap.objs.size + 1) L (least L) Ts h' → Kept (fun c => c ∉ z :: TO :: fps L) s.heap h' → Q₁ (.ref h'.objs.size) { s with heap := h'.push { cls := .type "tuple", data := .seq (Ts.map Value.ref).toArray } }) :
    codeAny (model P w) A (.call (.builtin "tuple.__new__") ⟨[.type "tuple", .ref z], []⟩) (wants Q₁ E) s := by
  refine codeAny_of_tree ?_
  show wpAny _ A.in1 (do checkBuiltinCall "tuple.__new__" ⟨[.type "tuple", .ref z], []⟩; again (.builtin "tuple.__new__" ⟨[.type "tuple", .ref z], []⟩)) _ _ s
  refine wpAny_bind (wpAny_of_eq (F.newCall_tuple_1 _) (wpAny_pure ⟨plainId_quiet F.plain_tuple_new _, codeAny_builtin F.entry_tuple_new ?_⟩))
  rw [Around.under_plainId F.plain_tuple_new _]
  have hsub := sub_tuple_self
  have hinit := init_tuple_lookup
  have hmh := madeHere_tuple
  obtain ⟨⟨f, b, q1, q2⟩, _⟩ := id st
  have hTI : s.TypeIs (.ref z) "zip" := ⟨_, q1, rfl⟩
  have hh1 : A.in1.handled = none := hh
  wp_walk using wpAny_typeOf hTI, collect_zip (A := A.in1) hh1 hL hA O bz bd hl h0 hn st
  intro h' Ts hi hk
  show wpAny _ _ (Builtin.Tuple.tupleExact (Ts.map Value.ref).toArray >>= fun v => ret v) _ _ _
  unfold Builtin.Tuple.tupleExact
  refine wpAny_bind (wpAny_newObj_type ?_ (by show ((Ts.map Value.ref).toArray).size ≤ sizeLine; simp [hi.len]; exact hn))
  refine wpAny_pure ?_
  exact h h' Ts hi hk
theorem call_tuple_zip {Q : Value → Shared → Prop} (hh : A.handled = none) (hL : ∀ S ∈ L, SrcOk P w (s.heap.objs.size + 1) S) (hA : Aparts L) (O : Own z TI TO L)
    (bz : z < s.heap.objs.size ∧ TI < s.heap.objs.size ∧ TO < s.heap.objs.size) (bd : ∀ c ∈ dms L, c < s.heap.objs.size) (hl : L.length ≤ 1000) (h0 : L ≠ []) (hn : least L ≤ sizeLine) (st : zSt z TI TO L 0 s.heap)
    (hQ : ∀ h' Ts, ItsZ (s.heap.objs.size + 1) L (least L) Ts h' → Kept (fun c => c ∉ z :: TO :: fps L) s.heap h' → Q (.ref h'.objs.size) { s with heap := h'.push { cls := .type "tuple", data := .seq (Ts.map Value.ref).toArray } }) :
    wpAny (model P w) A (call (.type "tuple") [.ref z]) Q E s := by
  refine callType_codes (Q₁ := fun obj s₁ => s₁.TypeIs obj "tuple" ∧ Q obj s₁) F.called_tuple (F.typeCall_tuple_1 _) F.entry_object_init
    (code_tuple_new_zip (A := A.in1) hh hL hA O bz bd hl h0 hn st fun h' Ts hi hk => ⟨⟨_, Heap.get?_push_size _ rfl, rfl⟩, hQ h' Ts hi hk⟩) fun obj s₁ h₁ => ?_
  exact ⟨h₁.1, F.args_object_init_2 obj _, object_init_meets F.called_tuple.init.lookup F.called_tuple.made (by decide) P w A.in1 _ s₁ ⟨h₁.1, rfl, h₁.2⟩⟩
end
end ZP
namespace L2
open PySem PySem.Spec PyProof.Rows
section
variable {X : Cx} {pins : List (Addr × Obj)} {σ : St} {H : Hp} {s : Shared}
/-- an object that lies there is known from now on -/
theorem Inv.adopt {T : Addr} {ob : HO} (I : Inv X pins σ H s) (hf : FpOk X pins H T) (new : ObjOk X.prog X.w (upd H T ob) s.heap T ob) : Inv X pins σ (upd H T ob) s := by
  have hn : H T = none := hf.1
  refine I.step (h' := s.heap) (g' := s.gens) (d' := s.drawn) (t' := s.toks) (ch := [T]) (fun b hb => ?_) (fun b o _ _ _ e _ => e) (fun b o _ _ _ e _ => ⟨o.slots, e⟩)
    (fun b o hc _ n => ?_) (fun b o _ e => ⟨o, e⟩) (fun b xs e => ?_) (fun b o u e => ?_) (fun b ps e => ⟨#[], ?_⟩) (fun m hm => hm) (fun b u e => ?_) I.bare
  · rw [List.mem_singleton.mp hb]
    exact ⟨hf.2.2.2.1, hf.2.1, hf.2.2.2.2.1, hf.2.2.2.2.2⟩
  · rw [upd_ne (fun q => hc (by simp [q]))]; exact n
  · rw [upd_ne (ne_of_none e hn)]; exact e
  · rw [upd_ne (ne_of_none e hn)]; exact e
  · rw [upd_ne (ne_of_none e hn), e]; simp
  · by_cases hb : b = T
    · subst hb
      rw [upd_same] at e
      cases e
      exact new
    · rw [upd_ne hb] at e
      exact (I.hok b u e).stay (fun c v _ q => q) (fun c q => by rw [upd_ne (ne_of_none q hn)]; exact q) fun c xs q => by rw [upd_ne (ne_of_none q hn)]; exact q
end
end L2
namespace ZP
open PySem PySem.Spec PyProof.Rows L2
open DL (TupO NewT)
/-- new pairs, then a new tuple of them -/
def NewTs : List (V × V) → List V → Hp → VK → Prop
  | [], acc, H, Q => NewT acc H Q
  | p :: l, acc, H, Q => ∀ T o, TupO o → H T = none → NewTs l (acc ++ [.ref T]) (upd H T (.frz o (.tup [p.1, p.2]))) Q
theorem adopt_all {X : Cx} {pins : List (Addr × Obj)} {σ : L2.St} {s : Shared} {Q : VK} : ∀ (Ts : List Addr) (l : List (V × V)) (acc : List V) (H : Hp), Ts.length = l.length → Ts.Pairwise (· < ·) → (∀ T ∈ Ts, FpOk X pins H T) →
    (∀ (j : Nat) (T : Addr) (p : V × V), Ts[j]? = some T → l[j]? = some p → ∃ a b, isTup s.heap T [a, b] ∧ RelV p.1 a ∧ RelV p.2 b) → Inv X pins σ H s → NewTs l acc H Q → ∃ H', Inv X pins σ H' s ∧ NewT (acc ++ Ts.map V.ref) H' Q
  | [], [], acc, H, _, _, _, _, I, q => ⟨H, I, by rw [List.map_nil, List.append_nil]; exact q⟩
  | T :: Ts, p :: l, acc, H, hl, hi, hf, hp, I, q => by
    obtain ⟨a, b, h1, ra, rb⟩ := hp 0 T p rfl rfl
    have hT := hf T List.mem_cons_self
    obtain ⟨hlt, hi2⟩ := List.pairwise_cons.mp hi
    have I2 := I.adopt (ob := .frz { cls := .type "tuple", data := .seq [a, b].toArray } (.tup [p.1, p.2])) hT ⟨h1, by show 2 ≤ sizeLine; decide, _, .cons ra (.cons rb .nil), ⟨_, h1, rfl, _, rfl⟩⟩
    obtain ⟨H', I3, q3⟩ := adopt_all Ts l (acc ++ [.ref T]) _ (by simpa using hl) hi2 (fun U hU => by
      obtain ⟨f1, f2⟩ := hf U (List.mem_cons_of_mem _ hU)
      refine ⟨?_, f2⟩
      rw [upd_ne (Nat.ne_of_gt (hlt U hU))]
      exact f1) (fun j U r h1 h2 => hp (j + 1) U r (by simpa using h1) (by simpa using h2)) I2 (q T _ ⟨rfl, rfl⟩ hT.1)
    exact ⟨H', I3, by rw [List.map_cons]; rw [List.append_assoc] at q3; exact q3⟩
theorem vals_of_refs : ∀ Ts : List Addr, Vals (Ts.map V.ref) (Ts.map Value.ref)
  | [] => .nil
  | T :: Ts => .cons rfl (vals_of_refs Ts)
def tTZ (K : PySem.W.Frag) (ta : TA) : TE := fun σ H Q => ta σ H fun vs H1 => ∃ (p q : Bool × Addr) (xs ys : List V), vs = [.ref p.2, .ref q.2] ∧ SqB K H1 p.1 p.2 xs ∧ SqB K H1 q.1 q.2 ys ∧ NewTs (xs.zip ys) [] H1 Q
theorem pe_tupZip {X : Cx} {e1 e2 : Expr} {ta : TA} {p p2 pos pos2 : Pos} (hc : X.calm = true) (hg : Gl X "zip") (hm : X.mg "zip" = none) (hgt : Gl X "tuple") (hmt : X.mg "tuple" = none) (ha : PA X [e1, e2] ta)
    (hs : starEach [.Call (.Name "zip" p2) [e1, e2] [] pos2] X.env = (false, eval (.Call (.Name "zip" p2) [e1, e2] [] pos2) X.env) :: starEach [] X.env := by rfl)
    (hs2 : starEach [e1, e2] X.env = (false, eval e1 X.env) :: starEach [e2] X.env := by rfl) (hpl2 : (backTo pos2 (starEach [e2] X.env)).any (·.1) = false := by rfl) :
    PE X (.Call (.Name "tuple" p) [.Call (.Name "zip" p2) [e1, e2] [] pos2] [] pos) (tTZ X.K ta) := by
  constructor
  intro pins s σ H Q I h
  refine Call_ (ld_blt I hgt hmt boot_tuple (callWith_type1 (args_cons ?_ hs) hs))
  refine Call_ (ld_blt I hg hm PyProof.Rows.boot_zip (PyProof.Rows.callWith_type1 (thn (ha.run pos2 pins s σ H _ I h) fun us s1 ⟨vs, H1, I1, r1, q1⟩ => ?_) hs2 hpl2))
  obtain ⟨⟨p1, l1⟩, ⟨p2', l2⟩, xs, ys, ev, x1, x2, q⟩ := q1
  subst ev
  obtain rfl : us = [.ref l1, .ref l2] := vals_refs (as := [(p1, l1), (p2', l2)]) r1
  obtain ⟨s_1, b_1, -⟩ := sq_is I1 (p := (p1, l1)) x1
  obtain ⟨s_2, b_2, -⟩ := sq_is I1 (p := (p2', l2)) x2
  obtain ⟨c1, c2, c3, c4, c5, c6⟩ := legs_ok (b0 := s1.heap.objs.size) [(p1, l1), (p2', l2)] s1.heap fun p hp => by
    simp only [List.mem_cons, List.not_mem_nil, or_false] at hp
    rcases hp with rfl | rfl
    · exact b_1
    · exact b_2
  refine call_zipN (args := [(p1, l1), (p2', l2)].map argOf) (by show 2 ≤ 1000; decide) (ct2 _ _) (cn2 _ _) (fun obj => F.args_object_init_3 obj _ _) (fun a ha => ?_) fun h2 b2 hbe hz2 hTI2 hTO2 hk2 => ?_
  · obtain ⟨p, hp, rfl⟩ := List.mem_map.mp ha
    simp only [List.mem_cons, List.not_mem_nil, or_false] at hp
    rcases hp with rfl | rfl
    · exact s_1
    · exact s_2
  rw [c1] at hTI2 hTO2
  rw [c2] at hbe
  obtain ⟨a1, -⟩ := c3 ⟨p1, s1.heap.objs.size, l1⟩ (by simp [legsOf])
  obtain ⟨a2, -⟩ := c3 ⟨p2', s1.heap.objs.size + 1, l2⟩ (by simp [legsOf])
  have hbe : b2 = s1.heap.objs.size + 2 := hbe
  have a1 := a1.to fun o q => hk2 _ o trivial q
  have a2 := a2.to fun o q => hk2 _ o trivial q
  have hka : ∀ c o, s1.heap.get? c = some o → h2.get? c = some o := fun c o q => hk2 c o trivial (heapOf_kept _ _ _ _ trivial q)
  have I2 : Inv X pins σ H1 { s1 with heap := h2 } := I1.kept (t' := s1.toks) hka
  obtain ⟨v1, r1', p_1⟩ := SqB.obj I2 x1
  obtain ⟨v2, r2', p_2⟩ := SqB.obj I2 x2
  have lv1 := r1'.length
  have lv2 := r2'.length
  have big : b2 + 2 < h2.objs.size := Heap.lt_size hz2
  have hlv1 : v1.length ≤ sizeLine := by
    rw [← lv1]
    cases p1 with
    | true => exact (I2.list (show SqL X.K H1 l1 xs from x1)).choose_spec.2.2
    | false => exact (I2.tuple (show SqT X.K H1 l1 xs from x1)).choose_spec.2.2
  let t1 : Leg := ⟨p1, s1.heap.objs.size, l1⟩
  let t2 : Leg := ⟨p2', s1.heap.objs.size + 1, l2⟩
  have b_1' : @LT.lt Nat _ l1 s1.heap.objs.size := b_1
  have b_2' : @LT.lt Nat _ l2 s1.heap.objs.size := b_2
  have big' : s1.heap.objs.size + 4 < h2.objs.size := by rw [hbe] at big; exact big
  have k1 : SrcOk X.prog X.w (h2.objs.size + 1) (sq t1 v1) := seqSrc_ok (by show s1.heap.objs.size < h2.objs.size + 1; omega) (by show @LT.lt Nat _ l1 (h2.objs.size + 1); omega) (Nat.ne_of_lt b_1)
  have k2 : SrcOk X.prog X.w (h2.objs.size + 1) (sq t2 v2) := seqSrc_ok (by show s1.heap.objs.size + 1 < h2.objs.size + 1; omega) (by show @LT.lt Nat _ l2 (h2.objs.size + 1); omega) (Nat.ne_of_lt (Nat.lt_succ_of_lt b_2))
  have ap : Aparts [sq t1 v1, sq t2 v2] := .cons (fun T hT c => by
    rw [List.mem_singleton.mp hT, sq_fp, sq_dm, sq_fp, sq_dm]
    simp only [List.mem_cons, List.not_mem_nil, or_false, t1, t2]
    unfold Addr at *
    omega) (.cons (fun T hT => (List.not_mem_nil hT).elim) .nil)
  have nin : ∀ c : Nat, s1.heap.objs.size + 2 ≤ c → c ∉ (sq t1 v1).dm ∧ c ∉ (sq t2 v2).dm := fun c hc => by
    rw [sq_dm, sq_dm]
    simp only [List.mem_cons, List.not_mem_nil, or_false, t1, t2]
    unfold Addr at *
    omega
  have hbn : (b2 : Nat) = s1.heap.objs.size + 2 := hbe
  have O : Own (b2 + 2) b2 (b2 + 1) [sq t1 v1, sq t2 v2] := ⟨by simp, by simp, by simp,
    fun S => two_mem (p := fun S => b2 + 2 ∉ S.dm) (nin _ (by unfold Addr at *; omega)).1 (nin _ (by unfold Addr at *; omega)).2,
    fun S => two_mem (p := fun S => b2 ∉ S.dm) (nin _ (by unfold Addr at *; omega)).1 (nin _ (by unfold Addr at *; omega)).2,
    fun S => two_mem (p := fun S => b2 + 1 ∉ S.dm) (nin _ (by unfold Addr at *; omega)).1 (nin _ (by unfold Addr at *; omega)).2⟩
  refine args_nil ?_
  refine call_tuple_zip (s := { s1 with heap := h2 }) (z := b2 + 2) (TI := b2) (TO := b2 + 1) (L := [sq t1 v1, sq t2 v2]) (I2.ok.hd hc) (fun S => two_mem (p := fun S => SrcOk X.prog X.w (h2.objs.size + 1) S) k1 k2) ap O ⟨big, Heap.lt_size hTI2, Heap.lt_size hTO2⟩ (fun c hcm => ?_) (by show 2 ≤ 1000; decide) (by simp) (by show min v1.length v2.length ≤ sizeLine; exact Nat.le_trans (Nat.min_le_left _ _) hlv1) ⟨⟨_, _, hz2, .inl rfl⟩, hTI2, ⟨_, hTO2, rfl⟩, fun S => two_mem (p := fun S => S.st 0 h2) (seq_st a1 p_1) (seq_st a2 p_2)⟩ fun h3 Ts hi hk => ?_
  · have hcm : c ∈ [t1.it, t1.l, t2.it, t2.l] := hcm
    simp only [List.mem_cons, List.not_mem_nil, or_false, t1, t2] at hcm
    show c < h2.objs.size
    unfold Addr at *
    omega
  -- what is known of the new heap
  have fpm : ∀ c, c ∈ (b2 + 2) :: (b2 + 1) :: fps [sq t1 v1, sq t2 v2] → s1.heap.objs.size ≤ c := fun c hcm => by
    have hcm : c ∈ [b2 + 2, b2 + 1, s1.heap.objs.size, s1.heap.objs.size + 1] := hcm
    simp only [List.mem_cons, List.not_mem_nil, or_false] at hcm
    unfold Addr at *
    omega
  have hk3 : ∀ c o, s1.heap.get? c = some o → h3.get? c = some o := fun c o e => hk c o (fun q => absurd (Heap.lt_size e) (Nat.not_lt.mpr (fpm c q))) (hka c o e)
  have I3 : Inv X pins σ H1 { s1 with heap := h3 } := I1.kept (t' := s1.toks) hk3
  have hn : least [sq t1 v1, sq t2 v2] = min v1.length v2.length := rfl
  obtain ⟨H', I4, q4⟩ := adopt_all (X := X) (pins := pins) (σ := σ) (s := { s1 with heap := h3 }) Ts (xs.zip ys) [] H1 (by rw [hi.len, hn, List.length_zip, lv1, lv2]) hi.inc (fun T hT => I1.fpOk (Nat.le_trans (by show s1.heap.objs.size ≤ h2.objs.size + 1; omega) (hi.ge T hT).1) (I1.hok.fresh (Nat.le_trans (by show s1.heap.objs.size ≤ h2.objs.size + 1; omega) (hi.ge T hT).1))) (fun j T pr hj hp => by
    obtain ⟨us, hT, v⟩ := hi.at_ j T hj
    obtain ⟨g1, g2⟩ := List.getElem?_zip_eq_some.mp hp
    cases v with
    | cons ra v =>
      cases v with
      | cons rb v =>
        cases v
        rename_i xa xb
        have ra : v1.toArray[j]? = some xa := ra
        have rb : v2.toArray[j]? = some xb := rb
        obtain ⟨x, hx, rx⟩ := vals_back (i := j) r1' (by simpa using ra)
        obtain ⟨y, hy, ry⟩ := vals_back (i := j) r2' (by simpa using rb)
        rw [g1] at hx
        rw [g2] at hy
        cases hx
        cases hy
        exact ⟨xa, xb, hT, rx, ry⟩) I3 q
  exact DL.tup_laid I4 (vals_of_refs Ts) (by rw [List.length_map, hi.len, hn]; exact Nat.le_trans (Nat.min_le_left _ _) hlv1) q4
end ZP
namespace DL
open PySem PySem.Spec L2
open PySem.W (Frag)
theorem DpAll.snoc {K : Frag} {F : Hp} : ∀ {vs : List V} {ds : List PyData} {v : V} {d : PyData}, DpAll K F vs ds → Dp K F v d → DpAll K F (vs ++ [v]) (ds ++ [d])
  | _, _, _, _, .nil, h => .cons h .nil
  | _, _, _, _, .cons h t, k => .cons h (DpAll.snoc t k)
theorem newTs_of {K : Frag} {E : XK} {M : Mem} {Q : VK} : ∀ {vs us : List V} {xs ys : List PyData} {acc : List V} {accd : List PyData} {w : Wd} {H : Hp}, DpAll K w.F vs xs → DpAll K w.F us ys → DpAll K w.F acc accd → Rel K w M H →
    Post K E (RV K) w (.ok (.d (.tuple (accd ++ zipD xs ys))) M) Q → ZP.NewTs (vs.zip us) acc H Q
  | [], us, [], ys, acc, accd, w, H, _, _, d, r, p => by
    have e : accd ++ zipD [] ys = accd := by show accd ++ [] = accd; rw [List.append_nil]
    rw [e] at p
    exact newT_of r d p
  | v :: vs, [], x :: xs, [], acc, accd, w, H, _, _, d, r, p => by
    have e : accd ++ zipD (x :: xs) [] = accd := by show accd ++ [] = accd; rw [List.append_nil]
    rw [e] at p
    exact newT_of r d p
  | v :: vs, u :: us, x :: xs, y :: ys, acc, accd, w, H, .cons d1 t1, .cons d2 t2, d, r, p => fun T o ho hT => by
    have hF := (r.new hT).2
    have le : w.le (w.fz T (.frz o (.tup [v, u]))) := Wd.le_fz hF
    have up : ∀ a o', w.F a = some o' → (w.fz T (.frz o (.tup [v, u]))).F a = some o' := le.2
    have e : accd ++ zipD (x :: xs) (y :: ys) = (accd ++ [.tuple [x, y]]) ++ zipD xs ys := by rw [List.append_assoc]; rfl
    rw [e] at p
    exact newTs_of (DpAll.up up _ _ t1) (DpAll.up up _ _ t2) ((DpAll.up up _ _ d).snoc (.tup ⟨o, ho, upd_same⟩ (.cons (Dp.up up _ _ d1) (.cons (Dp.up up _ _ d2) .nil)))) (r.alloc hT _) (Post.up le p)
section
variable {X : Cx} {W : WX}
def tzE (f g : Ev) : Ev := fun e M => (f e M).bind fun x M1 => (g e M1).bind fun y M2 => match zipOf x y with
  | some q => .ok (.d (.tuple (zipD q.1 q.2))) M2
  | none => .st
theorem de_tupZip {e e2 : Expr} {f g : Ev} {p p2 pos pos2 : Pos} (hca : X.calm = true) (hg : Gl X "zip") (hm : X.mg "zip" = none) (hgt : Gl X "tuple") (hmt : X.mg "tuple" = none) (ha : DE X W e f) (hb : DE X W e2 g)
    (hs : starEach [.Call (.Name "zip" p2) [e, e2] [] pos2] X.env = (false, eval (.Call (.Name "zip" p2) [e, e2] [] pos2) X.env) :: starEach [] X.env := by rfl)
    (hs2 : starEach [e, e2] X.env = (false, eval e X.env) :: starEach [e2] X.env := by rfl) (hs3 : starEach [e2] X.env = (false, eval e2 X.env) :: starEach [] X.env := by rfl) (hpl2 : (backTo pos2 (starEach [e2] X.env)).any (·.1) = false := by rfl) :
    DE X W (.Call (.Name "tuple" p) [.Call (.Name "zip" p2) [e, e2] [] pos2] [] pos) (tzE f g) :=
  PEweak (ZP.pe_tupZip hca hg hm hgt hmt (pa_cons ha (pa_cons hb pa_nil hs3) hs2) hs hs2 hpl2) fun σ H Q ⟨w, e, M, r, re, p⟩ =>
    ⟨w, e, M, r, re, p.bind fun x M1 w1 v H1 l1 r1 rv p1 =>
      ⟨w1, e, M1, r1, re.up l1, p1.bind fun y M2 w2 u H2 l2 r2 ru p2 => by
        have rv := rv.up l2
        unfold zipOf at p2
        split at p2
        · rename_i q hq
          split at hq
          · rename_i xs ys h1 h2
            cases hq
            obtain ⟨a, vs, rfl, s1, d1⟩ := walk_at rv h1
            obtain ⟨b, us, rfl, s2, d2⟩ := walk_at ru h2
            obtain ⟨la, s1⟩ := sqb_of s1
            obtain ⟨lb, s2⟩ := sqb_of s2
            exact ⟨(la, a), (lb, b), vs, us, rfl, sqb_up r2.sub s1, sqb_up r2.sub s2, newTs_of d1 d2 .nil r2 p2⟩
          · cases hq
        · exact p2.elim⟩⟩
end
theorem tzE_a {f g : Ev} {e : Env} {M M1 M2 : Mem} {x y : Vl} {xs ys : List PyData} (h : f e M = .ok x M1) (h2 : g e M1 = .ok y M2) (hx : walkOf x = some xs) (hy : walkOf y = some ys) : tzE f g e M = .ok (.d (.tuple (zipD xs ys))) M2 := by
  unfold tzE zipOf
  rw [h, bind_ok, h2, bind_ok, hx, hy]
end DL
namespace DL
open PySem PySem.Spec L2
section
variable {X : Cx} {pos : Pos} {vs : List Nat}
theorem gv_seq {es : List Expr} {k n : Nat} {δ : Tgs} (hc : X.calm = true) (h : GVs X vs es δ) (hn : (assignEach es X.env).length = n := by rfl) (hst : (assignEach es X.env).findIdx? (·.1) = none := by rfl) : GVb false X vs (.Tuple es k pos) (seqT n δ) :=
  PGweak (pg_seq hc h hn hst) fun v σ H Q ⟨w, e, M, x, r, re, rv, p⟩ => by
    unfold seqT at p
    split at p
    · rename_i xs hx
      split at p
      · rename_i hl
        obtain ⟨q, us, rfl, hs, d⟩ := seq_at r rv.v hx
        exact ⟨q, us, rfl, hs.symm, by rw [d.len]; exact hl, w, e, M, xs, r, re, d, p⟩
      · exact p.elim
    · exact p.elim
end
end DL
namespace DL.K34
open PySem PySem.Spec L2 DL
def top (i : Nat) : Stmt := PySem.Challenge.pw_tollround_k34_wishes_that_are_met.main.body.getD i (.Pass ⟨0, 0, 0, 0⟩)
abbrev s_OtherPeople_init : Stmt := initSt (top 1)
theorem sc_OtherPeople_init : FnScope ["self", "many"] ["self", "many"] (defScope s_OtherPeople_init) := ⟨rfl, rfl, rfl, by decide +kernel, rfl, by decide +kernel, by decide +kernel⟩
structure Xs (P : Program) (w : World) (K : Frag) (mg : Str → Option Value) (base : Heap) : Prop where
  e_OtherPeople : ErrF P w K mg base "OtherPeople" "many" "ValueError" "ValueError.__new__" "ValueError.__init__" (mroB "ValueError")
  m_OtherPeople_OtherPeople : PySem.W.exmOne K (.ref (He.ga K "OtherPeople")) (.ref (He.ga K "OtherPeople")) = some true
structure Gs (mg : Str → Option Value) : Prop where
  b_len : mg "len" = none
  b_zip : mg "zip" = none
  b_all : mg "all" = none
  b_abs : mg "abs" = none
  b_int : mg "int" = none
  b_tuple : mg "tuple" = none
  b_list : mg "list" = none
  b_isinstance : mg "isinstance" = none
  b_str : mg "str" = none
  b_bool : mg "bool" = none
  b_range : mg "range" = none
  b_repr : mg "repr" = none
  b_min : mg "min" = none
abbrev s_check_wish : Stmt := top 4
theorem sc_check_wish : FnScope ["state", "wish"] ["state", "wish"] (defScope s_check_wish) := ⟨rfl, rfl, rfl, by decide +kernel, rfl, by decide +kernel, by decide +kernel⟩
def g_check_wish : Sv := (ifS (opT neV (callE lenV (consA (getV 1) nilA)) (callE lenV (consA (op2 ixV (getV 0) (cst (.d (.int 0)))) nilA))) (fun _ _ => .st) nopS)
def m_check_wish : Fn := defM 2 0 g_check_wish
abbrev s_are_met : Stmt := top 5
theorem sc_are_met : FnScope ["wished", "found", "own", "number"] ["wished", "found"] (defScope s_are_met) := ⟨rfl, rfl, rfl, by decide +kernel, rfl, by decide +kernel, by decide +kernel⟩
def g_are_met : Sv := (retS (callE allV (consA (datE (lcE [2, 3] (zipI (getV 0) (getV 1)) (tupT 2 (consT (setT 2) (consT (setT 3) nilT))) (fun _ M => .ok true M) (orE (op2 isV (getV 2) (cst (.d .none))) (op2 eqV (getV 2) (getV 3))))) nilA)))
def m_are_met : Fn := defM 4 0 g_are_met
abbrev s_meets : Stmt := top 3
theorem sc_meets : FnScope ["state", "wish", "seats", "purses", "wished_seats", "wished_purses", "seat", "_", "coins"] ["state", "wish"] (defScope s_meets) := ⟨rfl, rfl, rfl, by decide +kernel, rfl, by decide +kernel, by decide +kernel⟩
def g_meets : Sv := (seqS (dropS (callF 2 m_check_wish (consA (getV 0) (consA (getV 1) nilA)))) (seqS (asgS (getV 0) (seqT 2 (consT (setT 2) (consT (setT 3) nilT)))) (seqS (setS 4 (datE (lcE [6, 7] (seqI (getV 1)) (seqT 2 (consT (setT 6) (consT (setT 7) nilT))) (fun _ M => .ok true M) (getV 6)))) (seqS (setS 5 (datE (lcE [7, 8] (seqI (getV 1)) (seqT 2 (consT (setT 7) (consT (setT 8) nilT))) (fun _ M => .ok true M) (getV 8)))) (retS (andE (callF 2 m_are_met (consA (getV 4) (consA (getV 2) nilA))) (callF 2 m_are_met (consA (getV 5) (consA (getV 3) nilA)))))))))
def m_meets : Fn := defM 9 0 g_meets
abbrev s_box : Stmt := top 7
theorem sc_box : FnScope ["_law_script", "_law_k", "_law_cell"] ["_law_script", "_law_k"] (defScope s_box) := ⟨rfl, rfl, rfl, by decide +kernel, rfl, by decide +kernel, by decide +kernel⟩
abbrev s_take : Stmt := top 8
theorem sc_take : FnScope ["_law_box_here", "_law_below", "_law_found", "_law_once"] ["_law_box_here", "_law_below"] (defScope s_take) := ⟨rfl, rfl, rfl, by decide +kernel, rfl, by decide +kernel, by decide +kernel⟩
abbrev s_pick : Stmt := top 9
theorem sc_pick : FnScope ["_law_box_here", "_law_some"] ["_law_box_here", "_law_some"] (defScope s_pick) := ⟨rfl, rfl, rfl, by decide +kernel, rfl, by decide +kernel, by decide +kernel⟩
abbrev s_same : Stmt := top 10
theorem sc_same : FnScope ["_law_found", "_law_due", "_law_mine", "_law_its"] ["_law_found", "_law_due"] (defScope s_same) := ⟨rfl, rfl, rfl, by decide +kernel, rfl, by decide +kernel, by decide +kernel⟩
abbrev s_strewn : Stmt := top 11
theorem sc_strewn : FnScope ["_law_box_here", "_law_some", "_law_left", "_law_found", "_law_turn"] ["_law_box_here", "_law_some"] (defScope s_strewn) := ⟨rfl, rfl, rfl, by decide +kernel, rfl, by decide +kernel, by decide +kernel⟩
abbrev s_lists : Stmt := top 12
theorem sc_lists : FnScope ["_law_matter", "_law_piece"] ["_law_matter"] (defScope s_lists) := ⟨rfl, rfl, rfl, by decide +kernel, rfl, by decide +kernel, by decide +kernel⟩
abbrev s_some_pose : Stmt := top 13
theorem sc_some_pose : FnScope ["_law_box_here", "_law_count", "_law_top", "_law_spots", "_law_who"] ["_law_box_here", "_law_count", "_law_top"] (defScope s_some_pose) := ⟨rfl, rfl, rfl, by decide +kernel, rfl, by decide +kernel, by decide +kernel⟩
abbrev s_l_meets : Stmt := top 14
theorem sc_l_meets : FnScope ["_law_pose", "_law_hope", "_law_spot", "_law_bag", "_law_spot_due", "_law_bag_due"] ["_law_pose", "_law_hope"] (defScope s_l_meets) := ⟨rfl, rfl, rfl, by decide +kernel, rfl, by decide +kernel, by decide +kernel⟩
def g_l_meets : Sv := (seqS (forS (zzI (op2 ixV (getV 0) (cst (.d (.int 0)))) (op2 ixV (getV 0) (cst (.d (.int 1)))) (getV 1)) (tupT 2 (consT (tupT 2 (consT (setT 2) (consT (setT 3) nilT))) (consT (tupT 2 (consT (setT 4) (consT (setT 5) nilT))) nilT))) (ifS (orT (andT (opT isntV (getV 4) (cst (.d .none))) (opT neV (getV 2) (getV 4))) (andT (opT isntV (getV 5) (cst (.d .none))) (opT neV (getV 3) (getV 5)))) (retS (cst (.d (.bool false)))) nopS)) (retS (cst (.d (.bool true)))))
def m_l_meets : Fn := defM 6 0 g_l_meets
abbrev s_right : Stmt := top 15
theorem sc_right : FnScope ["_law_box_here", "_law_count", "_law_pose", "_law_kept", "_law_soft", "_law_turn", "_law_hope", "_law_spot", "_law_bag", "_law_odd", "_law_due", "_law_told", "_law_full"] ["_law_box_here"] (defScope s_right) := ⟨rfl, rfl, rfl, by decide +kernel, rfl, by decide +kernel, by decide +kernel⟩
def g_right : Sv := (seqS (setS 1 (op2 addV (cst (.d (.int 2))) (callF 2 (B.m_take 10) (consA (getV 0) (consA (cst (.d (.int 11))) nilA))))) (seqS (setS 2 (callF 3 B.m_some_pose (consA (getV 0) (consA (getV 1) (consA (callF 2 B.m_pick (consA (getV 0) (consA (datE (dispE (consA (cst (.d (.int 1))) (consA (cst (.d (.int 9))) (consA (op2 mulV (cst (.d (.int 8))) (op2 powV (cst (.d (.int 10))) (cst (.d (.int 38))))) nilA))))) nilA))) nilA))))) (seqS (parS 3 4 (consA (callE reprV (consA (getV 2) nilA)) (consA (callF 1 (C.m_lists 6) (consA (getV 2) nilA)) nilA))) (seqS (forS (rngI1 (cst (.d (.int 8)))) (setT 5) (seqS (setS 6 (newE (dispE nilA))) (seqS (forS (zipI (op2 ixV (getV 2) (cst (.d (.int 0)))) (op2 ixV (getV 2) (cst (.d (.int 1))))) (tupT 2 (consT (setT 7) (consT (setT 8) nilT))) (seqS (setS 9 (op2 eqV (callF 2 (B.m_take 10) (consA (getV 0) (consA (op2 mulV (cst (.d (.int 6))) (op2 addV (cst (.d (.int 1))) (getV 5))) nilA))) (cst (.d (.int 0))))) (seqS (setS 7 (ifE (notT (tstE (getV 9))) (callF 2 B.m_pick (consA (getV 0) (consA (datE (dispE (consA (getV 7) (consA (cst (.d .none)) nilA)))) nilA))) (callF 2 (B.m_take 10) (consA (getV 0) (consA (op2 addV (getV 1) (cst (.d (.int 2)))) nilA))))) (dropS (methE appM (getV 6) (consA (tupE (consA (getV 7) (consA (callF 2 B.m_pick (consA (getV 0) (consA (datE (dispE (consA (getV 8) (consA (cst (.d .none)) (consA (op2 addV (getV 8) (callE intV (consA (op2 eqV (callF 2 (B.m_take 10) (consA (getV 0) (consA (cst (.d (.int 20))) nilA))) (cst (.d (.int 0)))) nilA))) nilA))))) nilA))) nilA))) nilA)))))) (seqS (freeze 6) (seqS (parS 10 6 (consA (callF 2 m_l_meets (consA (getV 2) (consA (getV 6) nilA))) (consA (callE tupleV (consA (getV 6) nilA)) nilA))) (seqS (setS 11 (datE (dispE (consA (callF 2 m_meets (consA (getV 2) (consA (getV 6) nilA))) (consA (callK 0 2 [1, 0] m_meets nilA (consA (callF 1 (C.m_lists 6) (consA (getV 6) nilA)) (consA (getV 4) nilA))) (consA (callF 2 m_meets (consA (getV 4) (consA (getV 6) nilA))) nilA)))))) (ifS (notT (tstE (callF 2 (B.m_same 6) (consA (getV 11) (consA (datE (repE (datE (dispE (consA (getV 10) nilA))) (cst (.d (.int 3))))) nilA))))) (retS (cst (.d (.bool false)))) nopS))))))) (seqS (setS 12 (tzE (op2 ixV (getV 2) (cst (.d (.int 0)))) (op2 ixV (getV 2) (cst (.d (.int 1)))))) (seqS (setS 11 (datE (dispE (consA (callF 2 m_meets (consA (getV 2) (consA (getV 12) nilA))) (consA (callF 2 m_meets (consA (getV 2) (consA (op2 mulT2V (tupE (consA (tupE (consA (cst (.d .none)) (consA (cst (.d .none)) nilA))) nilA)) (getV 1)) nilA))) nilA))))) (retS (andE (callF 2 (B.m_same 6) (consA (getV 11) (consA (datE (dispE (consA (cst (.d (.bool true))) (consA (cst (.d (.bool true))) nilA)))) nilA))) (andE (op2 eqV (callE reprV (consA (getV 2) nilA)) (getV 3)) (op2 eqV (getV 4) (callF 1 (C.m_lists 6) (consA (getV 2) nilA))))))))))))
def m_right : Fn := defM 13 0 g_right
abbrev s_law : Stmt := top 16
theorem sc_law : FnScope ["_law_script", "_law_k"] ["_law_script"] (defScope s_law) := ⟨rfl, rfl, rfl, by decide +kernel, rfl, by decide +kernel, by decide +kernel⟩
def g_law : Sv := (retS (callE allV (consA (datE (lcE [1] (rngI1 (op2 addV (cst (.d (.int 1))) (callE minV (consA (cst (.d (.int 3))) (consA (callE lenV (consA (getV 0) nilA)) nilA))))) (setT 1) (fun _ M => .ok true M) (callF 1 m_right (consA (callF 2 B.m_box (consA (getV 0) (consA (getV 1) nilA))) nilA)))) nilA)))
def m_law : Fn := defM 2 0 g_law
end DL.K34
namespace DL
namespace B
open PySem PySem.Spec L2 DL DL.C
end B
end DL
namespace DL
namespace B
open PySem PySem.Spec L2 DL DL.C
end B
end DL
namespace DL
namespace B
open PySem PySem.Spec L2 DL DL.C
end B
end DL
namespace DL
namespace B
open PySem PySem.Spec L2 DL DL.C
/-- ends, gains and needs of a row -/
abbrev oE (n : Nat) (cs : List Nat) : List Nat := backL (opL n cs).1
abbrev oG (n : Nat) (cs : List Nat) : List Int := (opL n cs).2.1
abbrev oN (n : Nat) (cs : List Nat) : List Int := (opL n cs).2.2
theorem inv_back {n : Nat} {P : List Nat} (h : P.Perm (List.range n)) : Inv2 P (backL P) := by
  have hst : Stt n P (List.replicate n 0) := ⟨h, by simp, fun p hp => by rw [List.eq_of_mem_replicate hp]; exact Int.le_refl _⟩
  exact ⟨backL_len, fun k x hx => back_at hst hx⟩
end B
end DL
namespace DL
namespace B
open PySem PySem.Spec L2 DL DL.C
end B
end DL
namespace DL
namespace B
open PySem PySem.Spec L2 DL DL.C
end B
end DL
namespace DL
namespace B
open PySem PySem.Spec L2 DL
open DL.C (Bx getM Bx.mono)
theorem take_step (i n m : Nat) (M : Mem) (o : MO) (sp : Int) (self : Fn) (hM : M[i]? = some o) (hB : Bx n o) (hn : n + 1 ≤ 2 ^ 46) (hm : n + 1 ≤ m) (h0 : 0 < sp) (h1 : sp ≤ 10 ^ 70)
    (hs : 10000000 < sp → ∃ v1 o1 v2 o2, self [.h i, .d (.int 10000000)] M = .ok (.d (.int v1)) (M.set i o1) ∧ self [.h i, .d (.int ((sp - 1) / 10000000 + 1))] (M.set i o1) = .ok (.d (.int v2)) (M.set i o2) ∧ Bx m o2) :
    ∃ v o', defM 4 0 (g_take self) [.h i, .d (.int sp)] M = .ok (.d (.int v)) (M.set i o') ∧ Bx m o' ∧ 0 ≤ v ∧ v < sp := by
  obtain ⟨a, b, c, rfl, ha, hb, hb2, hc, hc2⟩ := hB
  have i0 : atI [PyData.int a, .int b, .int c] 0 = some (.int a) := rfl
  have i1 : atI [PyData.int a, .int b, .int c] 1 = some (.int b) := rfl
  have i2 : atI [PyData.int a, .int b, .int c] 2 = some (.int c) := rfl
  have p0 : ixN [PyData.int a, .int b, .int c].length 0 = some 0 := rfl
  have p2 : ixN [PyData.int a, .int b, .int c].length 2 = some 2 := rfl
  have hv : ∀ x : Int, 0 ≤ x % sp ∧ x % sp < sp := fun x => ⟨Int.emod_nonneg _ (by omega), Int.emod_lt_of_pos _ h0⟩
  unfold g_take
  by_cases h : 0 < a
  · simp only [defM, startE, seqS_a, setS_a, bindS_ok, bindS_er, then_nx, then_rt, then_er, ifS_a, ifK_t, ifK_f, retS_a, dropS_a, asgS_a, asK_a, goG_ok, subT_a, nopS_a, getV_0, getV_s, cst_a, op2_a, o2a_ok, o2b_ok, opT_a, oTa_ok, oTb_ok, consA_a, cAa_ok, cAb_ok, nilA_a, callF_a, cFa_ok, callE_a, cEa_ok, newE_a, nwa_ok, datE_a, dta_ok, dispE_a, tupE_a, tpa_ok, asDs_a, datas, bind_ok, pur_ok, bool_b, leave_d, leave_nx, leave_er, ifE_a, ifa_t, ifa_f, notT_a, nta_ok, andT_a, ana_t, ana_f, orT_a, ora_t, ora_f, tstE_a, tsa_b, andE_a, aEa_t, aEa_f, orE_a, oEa_t, oEa_f, notE_a, nEa_ok, add_ii, sub_ii, gt_ii, lt_ii, ge_ii, le_ii, setT_a, consT_a, cTa_ok, nilT_a, tupT_a, seqT_t, seqT_l, forS_a, List.map_cons, List.map_nil, List.length_cons, List.length_nil, Nat.reduceAdd, Nat.reduceSub, Nat.zero_add, Nat.add_zero, List.replicate, List.cons_append, List.nil_append, List.append_nil, List.getElem?_cons_zero, List.getElem?_cons_succ, List.set_cons_zero, List.set_cons_succ, List.getElem?_nil, Option.map_some, Option.map_none, Option.bind_some, if_true, if_false, ite_true, ite_false, eq_self_iff_true, and_self, and_true, true_and, decide_true, decide_false, Bool.false_eq_true, Bool.not_true, Bool.not_false, sizeLine, Nat.reducePow, Nat.reduceLeDiff, Nat.zero_le, pow_7, pow_18, pow_40, ixV_h hM i0, h, mod_ii h0, fdiv_ii h0 (by omega), putV_h hM p0]
    refine ⟨a % sp, _, ?_, ⟨a / sp, b, c, rfl, ?_, hb, hb2, hc, by omega⟩, hv _⟩
    · rw [take_all (by simp)]
      try rfl
    · exact Int.ediv_nonneg ha (by omega)
  · by_cases hsp : 10000000 < sp
    · obtain ⟨v1, o1, v2, o2, e1, e2, hB2⟩ := hs hsp
      have hmul : mulV (.d (.int 10000000)) (.d (.int v2)) (M.set i o2) = .ok (.d (.int (10000000 * v2))) (M.set i o2) := mul_ii (.inl (by decide))
      simp only [defM, startE, seqS_a, setS_a, bindS_ok, bindS_er, then_nx, then_rt, then_er, ifS_a, ifK_t, ifK_f, retS_a, dropS_a, asgS_a, asK_a, goG_ok, subT_a, nopS_a, getV_0, getV_s, cst_a, op2_a, o2a_ok, o2b_ok, opT_a, oTa_ok, oTb_ok, consA_a, cAa_ok, cAb_ok, nilA_a, callF_a, cFa_ok, callE_a, cEa_ok, newE_a, nwa_ok, datE_a, dta_ok, dispE_a, tupE_a, tpa_ok, asDs_a, datas, bind_ok, pur_ok, bool_b, leave_d, leave_nx, leave_er, ifE_a, ifa_t, ifa_f, notT_a, nta_ok, andT_a, ana_t, ana_f, orT_a, ora_t, ora_f, tstE_a, tsa_b, andE_a, aEa_t, aEa_f, orE_a, oEa_t, oEa_f, notE_a, nEa_ok, add_ii, sub_ii, gt_ii, lt_ii, ge_ii, le_ii, setT_a, consT_a, cTa_ok, nilT_a, tupT_a, seqT_t, seqT_l, forS_a, List.map_cons, List.map_nil, List.length_cons, List.length_nil, Nat.reduceAdd, Nat.reduceSub, Nat.zero_add, Nat.add_zero, List.replicate, List.cons_append, List.nil_append, List.append_nil, List.getElem?_cons_zero, List.getElem?_cons_succ, List.set_cons_zero, List.set_cons_succ, List.getElem?_nil, Option.map_some, Option.map_none, Option.bind_some, if_true, if_false, ite_true, ite_false, eq_self_iff_true, and_self, and_true, true_and, decide_true, decide_false, Bool.false_eq_true, Bool.not_true, Bool.not_false, sizeLine, Nat.reducePow, Nat.reduceLeDiff, Nat.zero_le, pow_7, pow_18, pow_40, ixV_h hM i0, h, hsp, e1, fdiv_ii (show (0 : Int) < 10000000 by decide) (by decide), e2, hmul, mod_ii h0]
      refine ⟨(v1 + 10000000 * v2) % sp, o2, ?_, hB2, hv _⟩
      rw [take_all (by simp)]
    · have j1 : atI [PyData.int a, .int b, .int (c + 1)] 1 = some (.int b) := rfl
      have j2 : atI [PyData.int a, .int b, .int (c + 1)] 2 = some (.int (c + 1)) := rfl
      have hM' := getM (o' := .lst [.int a, .int b, .int (c + 1)]) hM
      have hmul : mulV (.d (.int 48271)) (.d (.int (c + 1))) (M.set i (.lst [.int a, .int b, .int (c + 1)])) = .ok (.d (.int (48271 * (c + 1)))) (M.set i (.lst [.int a, .int b, .int (c + 1)])) := mul_ii (.inl (by decide))
      have hpow : powV (.d (.int (b + 48271 * (c + 1)))) (.d (.int 5)) (M.set i (.lst [.int a, .int b, .int (c + 1)])) = .ok (.d (.int ((b + 48271 * (c + 1)) ^ 5))) (M.set i (.lst [.int a, .int b, .int (c + 1)])) := pow_ii (by decide) (by decide) (by omega)
      generalize hq : (b + 48271 * (c + 1)) ^ 5 % 2147483647 = q at *
      have hq1 : 0 ≤ q := by omega
      have hq2 : q < 2147483647 := by omega
      simp only [defM, startE, seqS_a, setS_a, bindS_ok, bindS_er, then_nx, then_rt, then_er, ifS_a, ifK_t, ifK_f, retS_a, dropS_a, asgS_a, asK_a, goG_ok, subT_a, nopS_a, getV_0, getV_s, cst_a, op2_a, o2a_ok, o2b_ok, opT_a, oTa_ok, oTb_ok, consA_a, cAa_ok, cAb_ok, nilA_a, callF_a, cFa_ok, callE_a, cEa_ok, newE_a, nwa_ok, datE_a, dta_ok, dispE_a, tupE_a, tpa_ok, asDs_a, datas, bind_ok, pur_ok, bool_b, leave_d, leave_nx, leave_er, ifE_a, ifa_t, ifa_f, notT_a, nta_ok, andT_a, ana_t, ana_f, orT_a, ora_t, ora_f, tstE_a, tsa_b, andE_a, aEa_t, aEa_f, orE_a, oEa_t, oEa_f, notE_a, nEa_ok, add_ii, sub_ii, gt_ii, lt_ii, ge_ii, le_ii, setT_a, consT_a, cTa_ok, nilT_a, tupT_a, seqT_t, seqT_l, forS_a, List.map_cons, List.map_nil, List.length_cons, List.length_nil, Nat.reduceAdd, Nat.reduceSub, Nat.zero_add, Nat.add_zero, List.replicate, List.cons_append, List.nil_append, List.append_nil, List.getElem?_cons_zero, List.getElem?_cons_succ, List.set_cons_zero, List.set_cons_succ, List.getElem?_nil, Option.map_some, Option.map_none, Option.bind_some, if_true, if_false, ite_true, ite_false, eq_self_iff_true, and_self, and_true, true_and, decide_true, decide_false, Bool.false_eq_true, Bool.not_true, Bool.not_false, sizeLine, Nat.reducePow, Nat.reduceLeDiff, Nat.zero_le, pow_7, pow_18, pow_40, ixV_h hM i0, ixV_h hM i1, ixV_h hM i2, h, hsp, mod_ii h0, putV_h hM p2, ixV_h hM' j1, ixV_h hM' j2, hmul, hpow, mod_ii (show (0 : Int) < 2147483647 by decide), hq, mod_ii (show (0 : Int) < 30011 by decide), mul_ii (.inl (show -(2 ^ 64) < q ∧ q < 2 ^ 64 by omega)), mul_ii (i := c + 1) (.inr (show -(2 ^ 64) < (7919 : Int) ∧ (7919 : Int) < 2 ^ 64 by decide)), mod_ii (show (0 : Int) < 2147483629 by decide), fdiv_ii (show (0 : Int) < 64 by decide) (by decide)]
      refine ⟨((q * (q % 30011 + 7) + (c + 1) * 7919) % 2147483629 / 64 % sp), .lst [.int a, .int b, .int (c + 1)], ?_, ⟨a, b, c + 1, rfl, ha, hb, hb2, by omega, by omega⟩, hv _⟩
      rw [take_all (by simp)]
theorem take_ok : ∀ (f n i : Nat) (M : Mem) (o : MO) (sp : Int), M[i]? = some o → Bx n o → n + 2 ^ f ≤ 2 ^ 45 → 0 < sp → sp ≤ 10 ^ (7 * (f + 1)) → f < 10 →
    ∃ v o', m_take (f + 1) [.h i, .d (.int sp)] M = .ok (.d (.int v)) (M.set i o') ∧ Bx (n + 2 ^ f) o' ∧ 0 ≤ v ∧ v < sp := by
  intro f
  induction f with
  | zero =>
    intro n i M o sp hM hB hn h0 h1 hf
    exact take_step i n (n + 2 ^ 0) M o sp (m_take 0) hM hB (by omega) (by omega) h0 (by omega) (fun h => by omega)
  | succ f ih =>
    intro n i M o sp hM hB hn h0 h1 hf
    have hp : 0 < 2 ^ f := Nat.pow_pos (by decide)
    have hp2 : 2 ^ (f + 1) = 2 ^ f + 2 ^ f := by rw [Nat.pow_succ]; omega
    have hT : (10 : Int) ^ (7 * (f + 1 + 1)) = 10 ^ (7 * (f + 1)) * 10000000 := by
      rw [show 7 * (f + 1 + 1) = 7 * (f + 1) + 7 by omega, Int.pow_add]
      rfl
    have hT2 : (10000000 : Int) ≤ 10 ^ (7 * (f + 1)) := by
      have : (10 : Nat) ^ 7 ≤ 10 ^ (7 * (f + 1)) := Nat.pow_le_pow_right (by decide) (by omega)
      have e : ((10 ^ (7 * (f + 1)) : Nat) : Int) = (10 : Int) ^ (7 * (f + 1)) := by simp
      omega
    have hT3 : (10 : Int) ^ (7 * (f + 1 + 1)) ≤ 10 ^ 70 := by
      have : (10 : Nat) ^ (7 * (f + 1 + 1)) ≤ 10 ^ 70 := Nat.pow_le_pow_right (by decide) (by omega)
      have e : ((10 ^ (7 * (f + 1 + 1)) : Nat) : Int) = (10 : Int) ^ (7 * (f + 1 + 1)) := by simp
      omega
    refine take_step i n (n + 2 ^ (f + 1)) M o sp (m_take (f + 1)) hM hB (by omega) (by omega) h0 (by omega) (fun hs => ?_)
    obtain ⟨v1, o1, e1, B1, k1, _⟩ := ih n i M o 10000000 hM hB (by omega) (by decide) hT2 (by omega)
    obtain ⟨v2, o2, e2, B2, k2, _⟩ := ih (n + 2 ^ f) i (M.set i o1) o1 ((sp - 1) / 10000000 + 1) (getM hM) B1 (by omega) (by omega) (by omega) (by omega)
    rw [List.set_set] at e2
    exact ⟨v1, o1, v2, o2, e1, e2, by rw [hp2, ← Nat.add_assoc]; exact B2⟩
/-- one draw -/
theorem take10 {n i : Nat} {M : Mem} {o : MO} {sp : Int} (hM : M[i]? = some o) (hB : Bx n o) (hn : n ≤ 2 ^ 44) (h0 : 0 < sp) (h1 : sp ≤ 10 ^ 70) :
    ∃ v o', m_take 10 [.h i, .d (.int sp)] M = .ok (.d (.int v)) (M.set i o') ∧ Bx (n + 512) o' ∧ 0 ≤ v ∧ v < sp :=
  take_ok 9 n i M o sp hM hB (by omega) h0 h1 (by omega)
theorem pick_ok {n i : Nat} {M : Mem} {o : MO} {xs : List PyData} (hM : M[i]? = some o) (hB : Bx n o) (hn : n ≤ 2 ^ 44) (h0 : xs ≠ []) (h1 : xs.length ≤ 2 ^ 60) :
    ∃ d o', m_pick [.h i, .d (.list xs)] M = .ok (.d d) (M.set i o') ∧ Bx (n + 512) o' ∧ d ∈ xs := by
  have hl : 0 < xs.length := List.length_pos_iff.mpr h0
  obtain ⟨v, o', e, B, k1, k2⟩ := take10 (sp := (xs.length : Nat)) hM hB hn (by omega) (by omega)
  obtain ⟨k, rfl⟩ := Int.eq_ofNat_of_zero_le k1
  have hk : k < xs.length := by omega
  refine ⟨xs[k], o', ?_, B, List.getElem_mem hk⟩
  unfold m_pick g_pick
  simp only [defM, startE, seqS_a, setS_a, bindS_ok, bindS_er, then_nx, then_rt, then_er, ifS_a, ifK_t, ifK_f, retS_a, dropS_a, asgS_a, asK_a, goG_ok, subT_a, nopS_a, getV_0, getV_s, cst_a, op2_a, o2a_ok, o2b_ok, opT_a, oTa_ok, oTb_ok, consA_a, cAa_ok, cAb_ok, nilA_a, callF_a, cFa_ok, callE_a, cEa_ok, newE_a, nwa_ok, datE_a, dta_ok, dispE_a, tupE_a, tpa_ok, asDs_a, datas, bind_ok, pur_ok, bool_b, leave_d, leave_nx, leave_er, ifE_a, ifa_t, ifa_f, notT_a, nta_ok, andT_a, ana_t, ana_f, orT_a, ora_t, ora_f, tstE_a, tsa_b, andE_a, aEa_t, aEa_f, orE_a, oEa_t, oEa_f, notE_a, nEa_ok, add_ii, sub_ii, gt_ii, lt_ii, ge_ii, le_ii, setT_a, consT_a, cTa_ok, nilT_a, tupT_a, seqT_t, seqT_l, forS_a, List.map_cons, List.map_nil, List.length_cons, List.length_nil, Nat.reduceAdd, Nat.reduceSub, Nat.zero_add, Nat.add_zero, List.replicate, List.cons_append, List.nil_append, List.append_nil, List.getElem?_cons_zero, List.getElem?_cons_succ, List.set_cons_zero, List.set_cons_succ, List.getElem?_nil, Option.map_some, Option.map_none, Option.bind_some, if_true, if_false, ite_true, ite_false, eq_self_iff_true, and_self, and_true, true_and, decide_true, decide_false, Bool.false_eq_true, Bool.not_true, Bool.not_false, sizeLine, Nat.reducePow, Nat.reduceLeDiff, Nat.zero_le, pow_7, pow_18, pow_40, len_l, e, ixV_l (atI_nat hk)]
  rw [take_all (by simp)]
theorem box_ok {ns : List Int} {k : Nat} (hk : k ≤ 1000) (hl : ns.length ≤ 1000) {M : Mem} : ∃ o, m_box [.s (ns.map PyData.int), .d (.int (k : Nat))] M = .ok (.h M.length) (M ++ [o]) ∧ Bx 0 o := by
  have key : ∀ c : Int, ∃ o, (∀ (v : Ev) , v = v) ∧ Bx 0 o ∧ o = .lst [.int ((if c < 0 then -c else c) * (if (decide (1000000000000000000 ≤ (if c < 0 then -c else c))) = true then (1 : Int) else 0)), .int (c % 2147483629 + 7919 * (k : Int) + 55), .int 0] := fun c => by
    refine ⟨_, fun _ => rfl, ⟨_, _, _, rfl, Int.mul_nonneg (by split <;> omega) (by split <;> omega), by omega, by omega, by omega, by omega⟩, rfl⟩
  by_cases h : k < ns.length
  · obtain ⟨c, hc⟩ := get_some h
    have hix : ∀ N : Mem, ixV (.s (ns.map PyData.int)) (.d (.int (k : Nat))) N = .ok (.d (.int c)) N := fun N => ixV_s (atI_some (by rw [List.getElem?_map, hc]; rfl))
    have hlt : (k : Int) < ((ns.length : Nat) : Int) := by omega
    obtain ⟨o, _, B, rfl⟩ := key c
    refine ⟨_, ?_, B⟩
    generalize hA : (if c < 0 then -c else c) = A
    generalize hb : (if (decide (1000000000000000000 ≤ A)) = true then (1 : Int) else 0) = b
    have hb0 : 0 ≤ b ∧ b ≤ 1 := by rw [← hb]; split <;> omega
    unfold m_box g_box
    simp only [defM, startE, seqS_a, setS_a, bindS_ok, bindS_er, then_nx, then_rt, then_er, ifS_a, ifK_t, ifK_f, retS_a, dropS_a, asgS_a, asK_a, goG_ok, subT_a, nopS_a, getV_0, getV_s, cst_a, op2_a, o2a_ok, o2b_ok, opT_a, oTa_ok, oTb_ok, consA_a, cAa_ok, cAb_ok, nilA_a, callF_a, cFa_ok, callE_a, cEa_ok, newE_a, nwa_ok, datE_a, dta_ok, dispE_a, tupE_a, tpa_ok, asDs_a, datas, bind_ok, pur_ok, bool_b, leave_d, leave_nx, leave_er, ifE_a, ifa_t, ifa_f, notT_a, nta_ok, andT_a, ana_t, ana_f, orT_a, ora_t, ora_f, tstE_a, tsa_b, andE_a, aEa_t, aEa_f, orE_a, oEa_t, oEa_f, notE_a, nEa_ok, add_ii, sub_ii, gt_ii, lt_ii, ge_ii, le_ii, setT_a, consT_a, cTa_ok, nilT_a, tupT_a, seqT_t, seqT_l, forS_a, List.map_cons, List.map_nil, List.length_cons, List.length_nil, Nat.reduceAdd, Nat.reduceSub, Nat.zero_add, Nat.add_zero, List.replicate, List.cons_append, List.nil_append, List.append_nil, List.getElem?_cons_zero, List.getElem?_cons_succ, List.set_cons_zero, List.set_cons_succ, List.getElem?_nil, Option.map_some, Option.map_none, Option.bind_some, if_true, if_false, ite_true, ite_false, eq_self_iff_true, and_self, and_true, true_and, decide_true, decide_false, Bool.false_eq_true, Bool.not_true, Bool.not_false, sizeLine, Nat.reducePow, Nat.reduceLeDiff, Nat.zero_le, pow_7, pow_18, pow_40, len_s, List.length_map, hlt, hix, abs_i, int_b, hA, hb, mul_ii (i := A) (j := b) (.inr (by omega)), mod_ii (show (0 : Int) < 2147483629 by decide), mul_ii (i := 7919) (j := (k : Int)) (.inl (by decide))]
    rw [leave_h (by omega), take_all (by simp)]
  · have hlt : ¬ (k : Int) < ((ns.length : Nat) : Int) := by omega
    obtain ⟨o, _, B, rfl⟩ := key 0
    refine ⟨_, ?_, B⟩
    generalize hA : (if (0 : Int) < 0 then -(0 : Int) else 0) = A
    generalize hb : (if (decide (1000000000000000000 ≤ A)) = true then (1 : Int) else 0) = b
    have hb0 : 0 ≤ b ∧ b ≤ 1 := by rw [← hb]; split <;> omega
    have hab : ∀ N : Mem, DL.absV [.d (.int 0)] N = .ok (.d (.int A)) N := fun N => by rw [abs_i, hA]
    unfold m_box g_box
    simp only [defM, startE, seqS_a, setS_a, bindS_ok, bindS_er, then_nx, then_rt, then_er, ifS_a, ifK_t, ifK_f, retS_a, dropS_a, asgS_a, asK_a, goG_ok, subT_a, nopS_a, getV_0, getV_s, cst_a, op2_a, o2a_ok, o2b_ok, opT_a, oTa_ok, oTb_ok, consA_a, cAa_ok, cAb_ok, nilA_a, callF_a, cFa_ok, callE_a, cEa_ok, newE_a, nwa_ok, datE_a, dta_ok, dispE_a, tupE_a, tpa_ok, asDs_a, datas, bind_ok, pur_ok, bool_b, leave_d, leave_nx, leave_er, ifE_a, ifa_t, ifa_f, notT_a, nta_ok, andT_a, ana_t, ana_f, orT_a, ora_t, ora_f, tstE_a, tsa_b, andE_a, aEa_t, aEa_f, orE_a, oEa_t, oEa_f, notE_a, nEa_ok, add_ii, sub_ii, gt_ii, lt_ii, ge_ii, le_ii, setT_a, consT_a, cTa_ok, nilT_a, tupT_a, seqT_t, seqT_l, forS_a, List.map_cons, List.map_nil, List.length_cons, List.length_nil, Nat.reduceAdd, Nat.reduceSub, Nat.zero_add, Nat.add_zero, List.replicate, List.cons_append, List.nil_append, List.append_nil, List.getElem?_cons_zero, List.getElem?_cons_succ, List.set_cons_zero, List.set_cons_succ, List.getElem?_nil, Option.map_some, Option.map_none, Option.bind_some, if_true, if_false, ite_true, ite_false, eq_self_iff_true, and_self, and_true, true_and, decide_true, decide_false, Bool.false_eq_true, Bool.not_true, Bool.not_false, sizeLine, Nat.reducePow, Nat.reduceLeDiff, Nat.zero_le, pow_7, pow_18, pow_40, len_s, List.length_map, hlt, hab, int_b, hb, mul_ii (i := A) (j := b) (.inr (by omega)), mod_ii (show (0 : Int) < 2147483629 by decide), mul_ii (i := 7919) (j := (k : Int)) (.inl (by decide))]
    rw [leave_h (by omega), take_all (by simp)]
end B
end DL
namespace DL
namespace B
open PySem PySem.Spec L2 DL
open DL.C (Bx getM Bx.mono)
theorem strewn_ok {n i : Nat} {M : Mem} {o : MO} {xs : List PyData} (hM : M[i]? = some o) (hB : Bx n o) (hn : n + 512 * xs.length ≤ 2 ^ 44) (hl : xs.length ≤ 2 ^ 20) :
    ∃ ys o', m_strewn [.h i, .d (.list xs)] M = .ok (.d (.list ys)) (M.set i o') ∧ Bx (n + 512 * xs.length) o' ∧ ys.Perm xs := by
  have hsz : sizeLine = 2 ^ 24 := rfl
  have hi := lt_of_get hM
  have hrl : (rangeD 0 (xs.length : Int)).length = xs.length := by rw [rangeD_nat]; simp
  obtain ⟨e', M', el, o', left, found, v4, rfl, rfl, B', hll, P⟩ := forL_all (γ := setT 4) (g := (dropS (methE appM (getV 3) (consA (methE popM (getV 2) (consA (callF 2 (m_take 10) (consA (getV 0) (consA (callE lenV (consA (getV 2) nilA)) nilA))) nilA)) nilA))))
    (fun j e N => ∃ (o' : MO) (left found : List PyData) (v4 : Option Vl), e = [some (.h i), some (.d (.list xs)), some (.h M.length), some (.h (M.length + 1)), v4] ∧ N = M.set i o' ++ [.lst left, .lst found] ∧ Bx (n + 512 * j) o' ∧ left.length + j = xs.length ∧ (found ++ left).Perm xs)
    (xs := rangeD 0 (xs.length : Int)) (e := [some (.h i), some (.d (.list xs)), some (.h M.length), some (.h (M.length + 1)), none]) (M := M ++ [.lst xs, .lst []])
    (by
      rintro j z e N hz ⟨o', left, found, v4, rfl, rfl, B, hll, P⟩
      have hj : j < xs.length := by rw [← hrl]; exact lt_of_getL hz
      have hfl : found.length ≤ xs.length := by have := P.length_eq; rw [List.length_append] at this; omega
      have hM2 : (M.set i o' ++ [.lst left, .lst found])[i]? = some o' := ga_get hi
      obtain ⟨v, o1, e, B1, k1, k2⟩ := take10 (sp := (left.length : Nat)) hM2 B (by omega) (by omega) (by omega)
      obtain ⟨k, rfl⟩ := Int.eq_ofNat_of_zero_le k1
      have hk : k < left.length := by omega
      rw [ga_set hi] at e
      have pop := pop_at (i := M.length) (M := M.set i o1 ++ [.lst left, .lst found]) hk (by omega)
      rw [m2_sa (by simp)] at pop
      have app := app_at (i := M.length + 1) (xs := found) (y := left[k]) (M := M.set i o1 ++ [.lst (left.eraseIdx k), .lst found]) (by omega)
      rw [m2_sb (by simp)] at app
      have hlen : lenV [.h M.length] (M.set i o' ++ [.lst left, .lst found]) = _ := len_h (m2_a (by simp))
      have inner : (methE popM (getV 2) (consA (callF 2 (m_take 10) (consA (getV 0) (consA (callE lenV (consA (getV 2) nilA)) nilA))) nilA)) [some (.h i), some (.d (.list xs)), some (.h M.length), some (.h (M.length + 1)), some (.d z)] (M.set i o' ++ [.lst left, .lst found]) = .ok (.d left[k]) (M.set i o1 ++ [.lst (left.eraseIdx k), .lst found]) := by
        rw [methE_at (i := M.length) (xs0 := left) (xs := left) (ys := [.d (.int (k : Nat))]) (M2 := M.set i o1 ++ [.lst left, .lst found]) (by simp only [defM, startE, seqS_a, setS_a, bindS_ok, bindS_er, then_nx, then_rt, then_er, ifS_a, ifK_t, ifK_f, retS_a, dropS_a, asgS_a, asK_a, goG_ok, subT_a, nopS_a, getV_0, getV_s, cst_a, op2_a, o2a_ok, o2b_ok, opT_a, oTa_ok, oTb_ok, consA_a, cAa_ok, cAb_ok, nilA_a, callF_a, cFa_ok, callE_a, cEa_ok, newE_a, nwa_ok, datE_a, dta_ok, dispE_a, tupE_a, tpa_ok, asDs_a, datas, bind_ok, pur_ok, bool_b, leave_d, leave_nx, leave_er, ifE_a, ifa_t, ifa_f, notT_a, nta_ok, andT_a, ana_t, ana_f, orT_a, ora_t, ora_f, tstE_a, tsa_b, andE_a, aEa_t, aEa_f, orE_a, oEa_t, oEa_f, notE_a, nEa_ok, add_ii, sub_ii, gt_ii, lt_ii, ge_ii, le_ii, setT_a, consT_a, cTa_ok, nilT_a, tupT_a, seqT_t, seqT_l, forS_a, List.map_cons, List.map_nil, List.length_cons, List.length_nil, Nat.reduceAdd, Nat.reduceSub, Nat.zero_add, Nat.add_zero, List.replicate, List.cons_append, List.nil_append, List.append_nil, List.getElem?_cons_zero, List.getElem?_cons_succ, List.set_cons_zero, List.set_cons_succ, List.getElem?_nil, Option.map_some, Option.map_none, Option.bind_some, if_true, if_false, ite_true, ite_false, eq_self_iff_true, and_self, and_true, true_and, decide_true, decide_false, Bool.false_eq_true, Bool.not_true, Bool.not_false, sizeLine, Nat.reducePow, Nat.reduceLeDiff, Nat.zero_le, pow_7, pow_18, pow_40]) (m2_a (by simp)) (by simp only [defM, startE, seqS_a, setS_a, bindS_ok, bindS_er, then_nx, then_rt, then_er, ifS_a, ifK_t, ifK_f, retS_a, dropS_a, asgS_a, asK_a, goG_ok, subT_a, nopS_a, getV_0, getV_s, cst_a, op2_a, o2a_ok, o2b_ok, opT_a, oTa_ok, oTb_ok, consA_a, cAa_ok, cAb_ok, nilA_a, callF_a, cFa_ok, callE_a, cEa_ok, newE_a, nwa_ok, datE_a, dta_ok, dispE_a, tupE_a, tpa_ok, asDs_a, datas, bind_ok, pur_ok, bool_b, leave_d, leave_nx, leave_er, ifE_a, ifa_t, ifa_f, notT_a, nta_ok, andT_a, ana_t, ana_f, orT_a, ora_t, ora_f, tstE_a, tsa_b, andE_a, aEa_t, aEa_f, orE_a, oEa_t, oEa_f, notE_a, nEa_ok, add_ii, sub_ii, gt_ii, lt_ii, ge_ii, le_ii, setT_a, consT_a, cTa_ok, nilT_a, tupT_a, seqT_t, seqT_l, forS_a, List.map_cons, List.map_nil, List.length_cons, List.length_nil, Nat.reduceAdd, Nat.reduceSub, Nat.zero_add, Nat.add_zero, List.replicate, List.cons_append, List.nil_append, List.append_nil, List.getElem?_cons_zero, List.getElem?_cons_succ, List.set_cons_zero, List.set_cons_succ, List.getElem?_nil, Option.map_some, Option.map_none, Option.bind_some, if_true, if_false, ite_true, ite_false, eq_self_iff_true, and_self, and_true, true_and, decide_true, decide_false, Bool.false_eq_true, Bool.not_true, Bool.not_false, sizeLine, Nat.reducePow, Nat.reduceLeDiff, Nat.zero_le, pow_7, pow_18, pow_40, hlen, e]) (m2_a (by simp)), pop]
        rfl
      have outer : (methE appM (getV 3) (consA (methE popM (getV 2) (consA (callF 2 (m_take 10) (consA (getV 0) (consA (callE lenV (consA (getV 2) nilA)) nilA))) nilA)) nilA)) [some (.h i), some (.d (.list xs)), some (.h M.length), some (.h (M.length + 1)), some (.d z)] (M.set i o' ++ [.lst left, .lst found]) = .ok (.d .none) (M.set i o1 ++ [.lst (left.eraseIdx k), .lst (found ++ [left[k]])]) := by
        rw [methE_at (i := M.length + 1) (xs0 := found) (xs := found) (ys := [.d left[k]]) (M2 := M.set i o1 ++ [.lst (left.eraseIdx k), .lst found]) (by simp only [defM, startE, seqS_a, setS_a, bindS_ok, bindS_er, then_nx, then_rt, then_er, ifS_a, ifK_t, ifK_f, retS_a, dropS_a, asgS_a, asK_a, goG_ok, subT_a, nopS_a, getV_0, getV_s, cst_a, op2_a, o2a_ok, o2b_ok, opT_a, oTa_ok, oTb_ok, consA_a, cAa_ok, cAb_ok, nilA_a, callF_a, cFa_ok, callE_a, cEa_ok, newE_a, nwa_ok, datE_a, dta_ok, dispE_a, tupE_a, tpa_ok, asDs_a, datas, bind_ok, pur_ok, bool_b, leave_d, leave_nx, leave_er, ifE_a, ifa_t, ifa_f, notT_a, nta_ok, andT_a, ana_t, ana_f, orT_a, ora_t, ora_f, tstE_a, tsa_b, andE_a, aEa_t, aEa_f, orE_a, oEa_t, oEa_f, notE_a, nEa_ok, add_ii, sub_ii, gt_ii, lt_ii, ge_ii, le_ii, setT_a, consT_a, cTa_ok, nilT_a, tupT_a, seqT_t, seqT_l, forS_a, List.map_cons, List.map_nil, List.length_cons, List.length_nil, Nat.reduceAdd, Nat.reduceSub, Nat.zero_add, Nat.add_zero, List.replicate, List.cons_append, List.nil_append, List.append_nil, List.getElem?_cons_zero, List.getElem?_cons_succ, List.set_cons_zero, List.set_cons_succ, List.getElem?_nil, Option.map_some, Option.map_none, Option.bind_some, if_true, if_false, ite_true, ite_false, eq_self_iff_true, and_self, and_true, true_and, decide_true, decide_false, Bool.false_eq_true, Bool.not_true, Bool.not_false, sizeLine, Nat.reducePow, Nat.reduceLeDiff, Nat.zero_le, pow_7, pow_18, pow_40]) (m2_b (by simp)) (by simp only [defM, startE, seqS_a, setS_a, bindS_ok, bindS_er, then_nx, then_rt, then_er, ifS_a, ifK_t, ifK_f, retS_a, dropS_a, asgS_a, asK_a, goG_ok, subT_a, nopS_a, getV_0, getV_s, cst_a, op2_a, o2a_ok, o2b_ok, opT_a, oTa_ok, oTb_ok, consA_a, cAa_ok, cAb_ok, nilA_a, callF_a, cFa_ok, callE_a, cEa_ok, newE_a, nwa_ok, datE_a, dta_ok, dispE_a, tupE_a, tpa_ok, asDs_a, datas, bind_ok, pur_ok, bool_b, leave_d, leave_nx, leave_er, ifE_a, ifa_t, ifa_f, notT_a, nta_ok, andT_a, ana_t, ana_f, orT_a, ora_t, ora_f, tstE_a, tsa_b, andE_a, aEa_t, aEa_f, orE_a, oEa_t, oEa_f, notE_a, nEa_ok, add_ii, sub_ii, gt_ii, lt_ii, ge_ii, le_ii, setT_a, consT_a, cTa_ok, nilT_a, tupT_a, seqT_t, seqT_l, forS_a, List.map_cons, List.map_nil, List.length_cons, List.length_nil, Nat.reduceAdd, Nat.reduceSub, Nat.zero_add, Nat.add_zero, List.replicate, List.cons_append, List.nil_append, List.append_nil, List.getElem?_cons_zero, List.getElem?_cons_succ, List.set_cons_zero, List.set_cons_succ, List.getElem?_nil, Option.map_some, Option.map_none, Option.bind_some, if_true, if_false, ite_true, ite_false, eq_self_iff_true, and_self, and_true, true_and, decide_true, decide_false, Bool.false_eq_true, Bool.not_true, Bool.not_false, sizeLine, Nat.reducePow, Nat.reduceLeDiff, Nat.zero_le, pow_7, pow_18, pow_40, inner]) (m2_b (by simp)), app]
        rfl
      have hle : (left.eraseIdx k).length + 1 = left.length := by rw [List.length_eraseIdx]; simp [hk]; omega
      refine ⟨[some (.h i), some (.d (.list xs)), some (.h M.length), some (.h (M.length + 1)), some (.d z)], M.set i o' ++ [.lst left, .lst found], [some (.h i), some (.d (.list xs)), some (.h M.length), some (.h (M.length + 1)), some (.d z)], M.set i o1 ++ [.lst (left.eraseIdx k), .lst (found ++ [left[k]])], ?_, ?_, o1, left.eraseIdx k, found ++ [left[k]], _, rfl, rfl, B1.mono (by omega), by omega, ?_⟩
      · simp only [defM, startE, seqS_a, setS_a, bindS_ok, bindS_er, then_nx, then_rt, then_er, ifS_a, ifK_t, ifK_f, retS_a, dropS_a, asgS_a, asK_a, goG_ok, subT_a, nopS_a, getV_0, getV_s, cst_a, op2_a, o2a_ok, o2b_ok, opT_a, oTa_ok, oTb_ok, consA_a, cAa_ok, cAb_ok, nilA_a, callF_a, cFa_ok, callE_a, cEa_ok, newE_a, nwa_ok, datE_a, dta_ok, dispE_a, tupE_a, tpa_ok, asDs_a, datas, bind_ok, pur_ok, bool_b, leave_d, leave_nx, leave_er, ifE_a, ifa_t, ifa_f, notT_a, nta_ok, andT_a, ana_t, ana_f, orT_a, ora_t, ora_f, tstE_a, tsa_b, andE_a, aEa_t, aEa_f, orE_a, oEa_t, oEa_f, notE_a, nEa_ok, add_ii, sub_ii, gt_ii, lt_ii, ge_ii, le_ii, setT_a, consT_a, cTa_ok, nilT_a, tupT_a, seqT_t, seqT_l, forS_a, List.map_cons, List.map_nil, List.length_cons, List.length_nil, Nat.reduceAdd, Nat.reduceSub, Nat.zero_add, Nat.add_zero, List.replicate, List.cons_append, List.nil_append, List.append_nil, List.getElem?_cons_zero, List.getElem?_cons_succ, List.set_cons_zero, List.set_cons_succ, List.getElem?_nil, Option.map_some, Option.map_none, Option.bind_some, if_true, if_false, ite_true, ite_false, eq_self_iff_true, and_self, and_true, true_and, decide_true, decide_false, Bool.false_eq_true, Bool.not_true, Bool.not_false, sizeLine, Nat.reducePow, Nat.reduceLeDiff, Nat.zero_le, pow_7, pow_18, pow_40]
      · simp only [defM, startE, seqS_a, setS_a, bindS_ok, bindS_er, then_nx, then_rt, then_er, ifS_a, ifK_t, ifK_f, retS_a, dropS_a, asgS_a, asK_a, goG_ok, subT_a, nopS_a, getV_0, getV_s, cst_a, op2_a, o2a_ok, o2b_ok, opT_a, oTa_ok, oTb_ok, consA_a, cAa_ok, cAb_ok, nilA_a, callF_a, cFa_ok, callE_a, cEa_ok, newE_a, nwa_ok, datE_a, dta_ok, dispE_a, tupE_a, tpa_ok, asDs_a, datas, bind_ok, pur_ok, bool_b, leave_d, leave_nx, leave_er, ifE_a, ifa_t, ifa_f, notT_a, nta_ok, andT_a, ana_t, ana_f, orT_a, ora_t, ora_f, tstE_a, tsa_b, andE_a, aEa_t, aEa_f, orE_a, oEa_t, oEa_f, notE_a, nEa_ok, add_ii, sub_ii, gt_ii, lt_ii, ge_ii, le_ii, setT_a, consT_a, cTa_ok, nilT_a, tupT_a, seqT_t, seqT_l, forS_a, List.map_cons, List.map_nil, List.length_cons, List.length_nil, Nat.reduceAdd, Nat.reduceSub, Nat.zero_add, Nat.add_zero, List.replicate, List.cons_append, List.nil_append, List.append_nil, List.getElem?_cons_zero, List.getElem?_cons_succ, List.set_cons_zero, List.set_cons_succ, List.getElem?_nil, Option.map_some, Option.map_none, Option.bind_some, if_true, if_false, ite_true, ite_false, eq_self_iff_true, and_self, and_true, true_and, decide_true, decide_false, Bool.false_eq_true, Bool.not_true, Bool.not_false, sizeLine, Nat.reducePow, Nat.reduceLeDiff, Nat.zero_le, pow_7, pow_18, pow_40, outer]
      · rw [List.append_assoc]
        exact (List.Perm.append_left _ (perm_erase left k hk)).trans P)
    ⟨o, xs, [], none, rfl, by rw [List.getElem?_eq_getElem hi] at hM; cases hM; simp, by simpa using hB, by omega, by simp⟩
  rw [hrl] at B' hll
  obtain rfl : left = [] := List.length_eq_zero_iff.mp (by omega)
  rw [List.append_nil] at P
  refine ⟨found, o', ?_, B', P⟩
  have par : parS 2 3 (consA (newE (listE (getV 1))) (consA (newE (dispE nilA)) nilA)) [some (.h i), some (.d (.list xs)), none, none, none] M
      = .go .nx [some (.h i), some (.d (.list xs)), some (.h M.length), some (.h (M.length + 1)), none] (M ++ [.lst xs, .lst []]) := by
    simp only [defM, startE, seqS_a, setS_a, bindS_ok, bindS_er, then_nx, then_rt, then_er, ifS_a, ifK_t, ifK_f, retS_a, dropS_a, asgS_a, asK_a, goG_ok, subT_a, nopS_a, getV_0, getV_s, cst_a, op2_a, o2a_ok, o2b_ok, opT_a, oTa_ok, oTb_ok, consA_a, cAa_ok, cAb_ok, nilA_a, callF_a, cFa_ok, callE_a, cEa_ok, newE_a, nwa_ok, datE_a, dta_ok, dispE_a, tupE_a, tpa_ok, asDs_a, datas, bind_ok, pur_ok, bool_b, leave_d, leave_nx, leave_er, ifE_a, ifa_t, ifa_f, notT_a, nta_ok, andT_a, ana_t, ana_f, orT_a, ora_t, ora_f, tstE_a, tsa_b, andE_a, aEa_t, aEa_f, orE_a, oEa_t, oEa_f, notE_a, nEa_ok, add_ii, sub_ii, gt_ii, lt_ii, ge_ii, le_ii, setT_a, consT_a, cTa_ok, nilT_a, tupT_a, seqT_t, seqT_l, forS_a, List.map_cons, List.map_nil, List.length_cons, List.length_nil, Nat.reduceAdd, Nat.reduceSub, Nat.zero_add, Nat.add_zero, List.replicate, List.cons_append, List.nil_append, List.append_nil, List.getElem?_cons_zero, List.getElem?_cons_succ, List.set_cons_zero, List.set_cons_succ, List.getElem?_nil, Option.map_some, Option.map_none, Option.bind_some, if_true, if_false, ite_true, ite_false, eq_self_iff_true, and_self, and_true, true_and, decide_true, decide_false, Bool.false_eq_true, Bool.not_true, Bool.not_false, sizeLine, Nat.reducePow, Nat.reduceLeDiff, Nat.zero_le, pow_7, pow_18, pow_40, parS_a, listE_a (f := getV 1) (x := .d (.list xs)) (xs := xs) (e := [some (.h i), some (.d (.list xs)), none, none, none]) (M := M) (M1 := M) (by simp only [defM, startE, seqS_a, setS_a, bindS_ok, bindS_er, then_nx, then_rt, then_er, ifS_a, ifK_t, ifK_f, retS_a, dropS_a, asgS_a, asK_a, goG_ok, subT_a, nopS_a, getV_0, getV_s, cst_a, op2_a, o2a_ok, o2b_ok, opT_a, oTa_ok, oTb_ok, consA_a, cAa_ok, cAb_ok, nilA_a, callF_a, cFa_ok, callE_a, cEa_ok, newE_a, nwa_ok, datE_a, dta_ok, dispE_a, tupE_a, tpa_ok, asDs_a, datas, bind_ok, pur_ok, bool_b, leave_d, leave_nx, leave_er, ifE_a, ifa_t, ifa_f, notT_a, nta_ok, andT_a, ana_t, ana_f, orT_a, ora_t, ora_f, tstE_a, tsa_b, andE_a, aEa_t, aEa_f, orE_a, oEa_t, oEa_f, notE_a, nEa_ok, add_ii, sub_ii, gt_ii, lt_ii, ge_ii, le_ii, setT_a, consT_a, cTa_ok, nilT_a, tupT_a, seqT_t, seqT_l, forS_a, List.map_cons, List.map_nil, List.length_cons, List.length_nil, Nat.reduceAdd, Nat.reduceSub, Nat.zero_add, Nat.add_zero, List.replicate, List.cons_append, List.nil_append, List.append_nil, List.getElem?_cons_zero, List.getElem?_cons_succ, List.set_cons_zero, List.set_cons_succ, List.getElem?_nil, Option.map_some, Option.map_none, Option.bind_some, if_true, if_false, ite_true, ite_false, eq_self_iff_true, and_self, and_true, true_and, decide_true, decide_false, Bool.false_eq_true, Bool.not_true, Bool.not_false, sizeLine, Nat.reducePow, Nat.reduceLeDiff, Nat.zero_le, pow_7, pow_18, pow_40]) rfl, List.length_append, List.append_assoc]
  have hr : (rngI1 (callE lenV (consA (getV 2) nilA))) [some (.h i), some (.d (.list xs)), some (.h M.length), some (.h (M.length + 1)), none] (M ++ [.lst xs, .lst []]) = .ok (rangeD 0 (xs.length : Int)) (M ++ [.lst xs, .lst []]) := rngI1_a (by simp only [defM, startE, seqS_a, setS_a, bindS_ok, bindS_er, then_nx, then_rt, then_er, ifS_a, ifK_t, ifK_f, retS_a, dropS_a, asgS_a, asK_a, goG_ok, subT_a, nopS_a, getV_0, getV_s, cst_a, op2_a, o2a_ok, o2b_ok, opT_a, oTa_ok, oTb_ok, consA_a, cAa_ok, cAb_ok, nilA_a, callF_a, cFa_ok, callE_a, cEa_ok, newE_a, nwa_ok, datE_a, dta_ok, dispE_a, tupE_a, tpa_ok, asDs_a, datas, bind_ok, pur_ok, bool_b, leave_d, leave_nx, leave_er, ifE_a, ifa_t, ifa_f, notT_a, nta_ok, andT_a, ana_t, ana_f, orT_a, ora_t, ora_f, tstE_a, tsa_b, andE_a, aEa_t, aEa_f, orE_a, oEa_t, oEa_f, notE_a, nEa_ok, add_ii, sub_ii, gt_ii, lt_ii, ge_ii, le_ii, setT_a, consT_a, cTa_ok, nilT_a, tupT_a, seqT_t, seqT_l, forS_a, List.map_cons, List.map_nil, List.length_cons, List.length_nil, Nat.reduceAdd, Nat.reduceSub, Nat.zero_add, Nat.add_zero, List.replicate, List.cons_append, List.nil_append, List.append_nil, List.getElem?_cons_zero, List.getElem?_cons_succ, List.set_cons_zero, List.set_cons_succ, List.getElem?_nil, Option.map_some, Option.map_none, Option.bind_some, if_true, if_false, ite_true, ite_false, eq_self_iff_true, and_self, and_true, true_and, decide_true, decide_false, Bool.false_eq_true, Bool.not_true, Bool.not_false, sizeLine, Nat.reducePow, Nat.reduceLeDiff, Nat.zero_le, pow_7, pow_18, pow_40, len_h (m2_a (M := M) (a := .lst xs) (b := .lst []) rfl)]) (by omega)
  have fz := freeze_at (i := 3) (e := [some (.h i), some (.d (.list xs)), some (.h M.length), some (.h (M.length + 1)), v4]) (M := M.set i o' ++ [.lst [], .lst found]) rfl (m2_b (by simp))
  rw [m2_sb (by simp)] at fz
  unfold m_strewn g_strewn
  simp only [defM, startE, seqS_a, setS_a, bindS_ok, bindS_er, then_nx, then_rt, then_er, ifS_a, ifK_t, ifK_f, retS_a, dropS_a, asgS_a, asK_a, goG_ok, subT_a, nopS_a, getV_0, getV_s, cst_a, op2_a, o2a_ok, o2b_ok, opT_a, oTa_ok, oTb_ok, consA_a, cAa_ok, cAb_ok, nilA_a, callF_a, cFa_ok, callE_a, cEa_ok, newE_a, nwa_ok, datE_a, dta_ok, dispE_a, tupE_a, tpa_ok, asDs_a, datas, bind_ok, pur_ok, bool_b, leave_d, leave_nx, leave_er, ifE_a, ifa_t, ifa_f, notT_a, nta_ok, andT_a, ana_t, ana_f, orT_a, ora_t, ora_f, tstE_a, tsa_b, andE_a, aEa_t, aEa_f, orE_a, oEa_t, oEa_f, notE_a, nEa_ok, add_ii, sub_ii, gt_ii, lt_ii, ge_ii, le_ii, setT_a, consT_a, cTa_ok, nilT_a, tupT_a, seqT_t, seqT_l, forS_a, List.map_cons, List.map_nil, List.length_cons, List.length_nil, Nat.reduceAdd, Nat.reduceSub, Nat.zero_add, Nat.add_zero, List.replicate, List.cons_append, List.nil_append, List.append_nil, List.getElem?_cons_zero, List.getElem?_cons_succ, List.set_cons_zero, List.set_cons_succ, List.getElem?_nil, Option.map_some, Option.map_none, Option.bind_some, if_true, if_false, ite_true, ite_false, eq_self_iff_true, and_self, and_true, true_and, decide_true, decide_false, Bool.false_eq_true, Bool.not_true, Bool.not_false, sizeLine, Nat.reducePow, Nat.reduceLeDiff, Nat.zero_le, pow_7, pow_18, pow_40, par, hr, el, fz]
  rw [List.take_append_of_le_length (by simp), take_all (by simp)]
end B
end DL
namespace DL
namespace B
open PySem PySem.Spec L2 DL
open DL.C (Bx getM Bx.mono)
theorem pose_ok {n0 i n : Nat} {M : Mem} {o : MO} {top : Int} (hM : M[i]? = some o) (hB : Bx n0 o) (hn0 : n0 + 2000 * n ≤ 2 ^ 44) (hn : n ≤ 1000) (ht : 0 ≤ top) (ht2 : top ≤ 10 ^ 60) :
    ∃ ss ps o', m_some_pose [.h i, .d (.int (n : Nat)), .d (.int top)] M = .ok (.d (stD ss ps)) (M.set i o') ∧ Bx (n0 + 2000 * n) o' ∧ StOk n top ss ps := by
  have hsz : sizeLine = 2 ^ 24 := rfl
  have hrl : (rangeD 0 (n : Int)).length = n := by rw [rangeD_nat]; simp
  obtain ⟨ys, o1, e1, B1, P1⟩ := strewn_ok (xs := rangeD 0 (n : Int)) hM hB (by rw [hrl]; omega) (by rw [hrl]; omega)
  rw [hrl] at B1
  rw [rangeD_nat] at P1
  obtain ⟨ss, hss, rfl⟩ := perm_nats P1
  obtain ⟨zs, M2, e2, ⟨o2, rfl, B2⟩, hzl, hz⟩ := lcL_all (γ := setT 4) (t := fun _ M => .ok true M) (h := callF 2 (m_take 10) (consA (getV 0) (consA (op2 addV (getV 2) (cst (.d (.int 1)))) nilA)))
    (ew := [some (.h i), some (.d (.int (n : Nat))), some (.d (.int top)), some (.d (.list (ss.map nD))), none])
    (fun k N => ∃ o', N = M.set i o' ∧ Bx (n0 + 512 * n + 512 * k) o') (fun _ _ y => ∃ p : Int, y = .int p ∧ 0 ≤ p ∧ p ≤ top) (rangeD 0 (n : Int)) 0 [] (M.set i o1) (Nat.zero_le _) (by rw [hrl]; simp; omega)
    (by
      rintro k x N hx ⟨o', rfl, B⟩
      have hkn : k < n := by
        have := lt_of_getL hx
        omega
      obtain ⟨u, o3, e3, B3, k1, k2⟩ := take10 (sp := top + 1) (getM (o' := o') hM) B (by omega) (by omega) (by omega)
      rw [List.set_set] at e3
      refine ⟨[some (.h i), some (.d (.int (n : Nat))), some (.d (.int top)), some (.d (.list (ss.map nD))), some (.d x)], M.set i o', M.set i o', .int u, M.set i o3, rfl, rfl, ?_, ⟨o3, rfl, B3.mono (by omega)⟩, u, rfl, k1, by omega⟩
      simp only [defM, startE, seqS_a, setS_a, bindS_ok, bindS_er, then_nx, then_rt, then_er, ifS_a, ifK_t, ifK_f, retS_a, dropS_a, asgS_a, asK_a, goG_ok, subT_a, nopS_a, getV_0, getV_s, cst_a, op2_a, o2a_ok, o2b_ok, opT_a, oTa_ok, oTb_ok, consA_a, cAa_ok, cAb_ok, nilA_a, callF_a, cFa_ok, callE_a, cEa_ok, newE_a, nwa_ok, datE_a, dta_ok, dispE_a, tupE_a, tpa_ok, asDs_a, datas, bind_ok, pur_ok, bool_b, leave_d, leave_nx, leave_er, ifE_a, ifa_t, ifa_f, notT_a, nta_ok, andT_a, ana_t, ana_f, orT_a, ora_t, ora_f, tstE_a, tsa_b, andE_a, aEa_t, aEa_f, orE_a, oEa_t, oEa_f, notE_a, nEa_ok, add_ii, sub_ii, gt_ii, lt_ii, ge_ii, le_ii, setT_a, consT_a, cTa_ok, nilT_a, tupT_a, seqT_t, seqT_l, forS_a, List.map_cons, List.map_nil, List.length_cons, List.length_nil, Nat.reduceAdd, Nat.reduceSub, Nat.zero_add, Nat.add_zero, List.replicate, List.cons_append, List.nil_append, List.append_nil, List.getElem?_cons_zero, List.getElem?_cons_succ, List.set_cons_zero, List.set_cons_succ, List.getElem?_nil, Option.map_some, Option.map_none, Option.bind_some, if_true, if_false, ite_true, ite_false, eq_self_iff_true, and_self, and_true, true_and, decide_true, decide_false, Bool.false_eq_true, Bool.not_true, Bool.not_false, sizeLine, Nat.reducePow, Nat.reduceLeDiff, Nat.zero_le, pow_7, pow_18, pow_40, e3])
    ⟨o1, rfl, B1.mono (by omega)⟩
  rw [List.drop_zero, List.nil_append] at e2
  rw [Nat.sub_zero, hrl] at hzl
  obtain ⟨ps, rfl, hps⟩ := ints_of (ys := zs) (Q := fun p => 0 ≤ p ∧ p ≤ top) (fun y hy => by
    obtain ⟨k, hk⟩ := List.getElem?_of_mem hy
    have hkl := lt_of_getL hk
    have hkr : k < (rangeD 0 (n : Int)).length := by omega
    exact hz k _ y (by rw [Nat.zero_add]; exact List.getElem?_eq_getElem hkr) hk)
  rw [hrl] at B2
  refine ⟨ss, ps, o2, ?_, B2.mono (by omega), ⟨hss, by simpa using hzl, hps⟩⟩
  have hlc : (lcE [4] (rngI1 (getV 1)) (setT 4) (fun _ M => .ok true M) (callF 2 (m_take 10) (consA (getV 0) (consA (op2 addV (getV 2) (cst (.d (.int 1)))) nilA)))) [some (.h i), some (.d (.int (n : Nat))), some (.d (.int top)), some (.d (.list (ss.map nD))), none] (M.set i o1) = .ok (ps.map PyData.int) (M.set i o2) := by
    rw [lcE_at (rngI1_a (M1 := M.set i o1) (i := (n : Int)) (by simp only [defM, startE, seqS_a, setS_a, bindS_ok, bindS_er, then_nx, then_rt, then_er, ifS_a, ifK_t, ifK_f, retS_a, dropS_a, asgS_a, asK_a, goG_ok, subT_a, nopS_a, getV_0, getV_s, cst_a, op2_a, o2a_ok, o2b_ok, opT_a, oTa_ok, oTb_ok, consA_a, cAa_ok, cAb_ok, nilA_a, callF_a, cFa_ok, callE_a, cEa_ok, newE_a, nwa_ok, datE_a, dta_ok, dispE_a, tupE_a, tpa_ok, asDs_a, datas, bind_ok, pur_ok, bool_b, leave_d, leave_nx, leave_er, ifE_a, ifa_t, ifa_f, notT_a, nta_ok, andT_a, ana_t, ana_f, orT_a, ora_t, ora_f, tstE_a, tsa_b, andE_a, aEa_t, aEa_f, orE_a, oEa_t, oEa_f, notE_a, nEa_ok, add_ii, sub_ii, gt_ii, lt_ii, ge_ii, le_ii, setT_a, consT_a, cTa_ok, nilT_a, tupT_a, seqT_t, seqT_l, forS_a, List.map_cons, List.map_nil, List.length_cons, List.length_nil, Nat.reduceAdd, Nat.reduceSub, Nat.zero_add, Nat.add_zero, List.replicate, List.cons_append, List.nil_append, List.append_nil, List.getElem?_cons_zero, List.getElem?_cons_succ, List.set_cons_zero, List.set_cons_succ, List.getElem?_nil, Option.map_some, Option.map_none, Option.bind_some, if_true, if_false, ite_true, ite_false, eq_self_iff_true, and_self, and_true, true_and, decide_true, decide_false, Bool.false_eq_true, Bool.not_true, Bool.not_false, sizeLine, Nat.reducePow, Nat.reduceLeDiff, Nat.zero_le, pow_7, pow_18, pow_40]) (by omega))]
    exact e2
  unfold m_some_pose g_some_pose
  simp only [defM, startE, seqS_a, setS_a, bindS_ok, bindS_er, then_nx, then_rt, then_er, ifS_a, ifK_t, ifK_f, retS_a, dropS_a, asgS_a, asK_a, goG_ok, subT_a, nopS_a, getV_0, getV_s, cst_a, op2_a, o2a_ok, o2b_ok, opT_a, oTa_ok, oTb_ok, consA_a, cAa_ok, cAb_ok, nilA_a, callF_a, cFa_ok, callE_a, cEa_ok, newE_a, nwa_ok, datE_a, dta_ok, dispE_a, tupE_a, tpa_ok, asDs_a, datas, bind_ok, pur_ok, bool_b, leave_d, leave_nx, leave_er, ifE_a, ifa_t, ifa_f, notT_a, nta_ok, andT_a, ana_t, ana_f, orT_a, ora_t, ora_f, tstE_a, tsa_b, andE_a, aEa_t, aEa_f, orE_a, oEa_t, oEa_f, notE_a, nEa_ok, add_ii, sub_ii, gt_ii, lt_ii, ge_ii, le_ii, setT_a, consT_a, cTa_ok, nilT_a, tupT_a, seqT_t, seqT_l, forS_a, List.map_cons, List.map_nil, List.length_cons, List.length_nil, Nat.reduceAdd, Nat.reduceSub, Nat.zero_add, Nat.add_zero, List.replicate, List.cons_append, List.nil_append, List.append_nil, List.getElem?_cons_zero, List.getElem?_cons_succ, List.set_cons_zero, List.set_cons_succ, List.getElem?_nil, Option.map_some, Option.map_none, Option.bind_some, if_true, if_false, ite_true, ite_false, eq_self_iff_true, and_self, and_true, true_and, decide_true, decide_false, Bool.false_eq_true, Bool.not_true, Bool.not_false, sizeLine, Nat.reducePow, Nat.reduceLeDiff, Nat.zero_le, pow_7, pow_18, pow_40, rgE1_a (f := getV 1) (e := [some (.h i), some (.d (.int (n : Nat))), some (.d (.int top)), none, none]) (M := M) (M1 := M) (i := (n : Int)) rfl (by omega) (by omega), e1, tup_l, hlc]
  rw [take_all (by simp)]
end B
end DL
namespace DL
namespace B
open PySem PySem.Spec L2 DL
end B
end DL
namespace DL
namespace B
open PySem PySem.Spec L2 DL
open DL.C (Bx getM Bx.mono)
theorem isi_s {x : PyData} {M : Mem} (hx : isDic x = false) : isiV [.d x, .t "str"] M = .ok (.d (.bool (match x with | .str _ => true | _ => false))) M := by
  cases x <;> first | rfl | cases hx
theorem eq_nn' {M : Mem} : eqV (.d .none) (.d .none) M = .ok (.d (.bool true)) M := rfl
theorem same_ok : ∀ (f : Nat) (x : PyData) (M : Mem), It f x → m_same (f + 1) [.d x, .d x] M = .ok (.d (.bool true)) M := by
  have leaf : ∀ (self : Fn) (x : PyData) (M : Mem), leafB x = true → defM 4 0 (g_same self) [.d x, .d x] M = .ok (.d (.bool true)) M := by
    intro self x M hx
    unfold g_same
    cases x with
    | int i =>
      simp only [defM, startE, seqS_a, setS_a, bindS_ok, bindS_er, then_nx, then_rt, then_er, ifS_a, ifK_t, ifK_f, retS_a, dropS_a, asgS_a, asK_a, goG_ok, subT_a, nopS_a, getV_0, getV_s, cst_a, op2_a, o2a_ok, o2b_ok, opT_a, oTa_ok, oTb_ok, consA_a, cAa_ok, cAb_ok, nilA_a, callF_a, cFa_ok, callE_a, cEa_ok, newE_a, nwa_ok, datE_a, dta_ok, dispE_a, tupE_a, tpa_ok, asDs_a, datas, bind_ok, pur_ok, bool_b, leave_d, leave_nx, leave_er, ifE_a, ifa_t, ifa_f, notT_a, nta_ok, andT_a, ana_t, ana_f, orT_a, ora_t, ora_f, tstE_a, tsa_b, andE_a, aEa_t, aEa_f, orE_a, oEa_t, oEa_f, notE_a, nEa_ok, add_ii, sub_ii, gt_ii, lt_ii, ge_ii, le_ii, setT_a, consT_a, cTa_ok, nilT_a, tupT_a, seqT_t, seqT_l, forS_a, List.map_cons, List.map_nil, List.length_cons, List.length_nil, Nat.reduceAdd, Nat.reduceSub, Nat.zero_add, Nat.add_zero, List.replicate, List.cons_append, List.nil_append, List.append_nil, List.getElem?_cons_zero, List.getElem?_cons_succ, List.set_cons_zero, List.set_cons_succ, List.getElem?_nil, Option.map_some, Option.map_none, Option.bind_some, if_true, if_false, ite_true, ite_false, eq_self_iff_true, and_self, and_true, true_and, decide_true, decide_false, Bool.false_eq_true, Bool.not_true, Bool.not_false, sizeLine, Nat.reducePow, Nat.reduceLeDiff, Nat.zero_le, pow_7, pow_18, pow_40, isiT_lt (f := getV 1) (e := [some (.d (.int i)), some (.d (.int i)), none, none]) (M := M) (M1 := M) (x := (.int i)) rfl rfl, isSq, isi_s (x := (.int i)) rfl, isi_i (x := (.int i)) rfl, isi_b (x := (.int i)) rfl, eq_ii, eq_bb, eq_ss, is_n, beq_self_eq_true]
      rw [take_all (by simp)]
    | bool i =>
      simp only [defM, startE, seqS_a, setS_a, bindS_ok, bindS_er, then_nx, then_rt, then_er, ifS_a, ifK_t, ifK_f, retS_a, dropS_a, asgS_a, asK_a, goG_ok, subT_a, nopS_a, getV_0, getV_s, cst_a, op2_a, o2a_ok, o2b_ok, opT_a, oTa_ok, oTb_ok, consA_a, cAa_ok, cAb_ok, nilA_a, callF_a, cFa_ok, callE_a, cEa_ok, newE_a, nwa_ok, datE_a, dta_ok, dispE_a, tupE_a, tpa_ok, asDs_a, datas, bind_ok, pur_ok, bool_b, leave_d, leave_nx, leave_er, ifE_a, ifa_t, ifa_f, notT_a, nta_ok, andT_a, ana_t, ana_f, orT_a, ora_t, ora_f, tstE_a, tsa_b, andE_a, aEa_t, aEa_f, orE_a, oEa_t, oEa_f, notE_a, nEa_ok, add_ii, sub_ii, gt_ii, lt_ii, ge_ii, le_ii, setT_a, consT_a, cTa_ok, nilT_a, tupT_a, seqT_t, seqT_l, forS_a, List.map_cons, List.map_nil, List.length_cons, List.length_nil, Nat.reduceAdd, Nat.reduceSub, Nat.zero_add, Nat.add_zero, List.replicate, List.cons_append, List.nil_append, List.append_nil, List.getElem?_cons_zero, List.getElem?_cons_succ, List.set_cons_zero, List.set_cons_succ, List.getElem?_nil, Option.map_some, Option.map_none, Option.bind_some, if_true, if_false, ite_true, ite_false, eq_self_iff_true, and_self, and_true, true_and, decide_true, decide_false, Bool.false_eq_true, Bool.not_true, Bool.not_false, sizeLine, Nat.reducePow, Nat.reduceLeDiff, Nat.zero_le, pow_7, pow_18, pow_40, isiT_lt (f := getV 1) (e := [some (.d (.bool i)), some (.d (.bool i)), none, none]) (M := M) (M1 := M) (x := (.bool i)) rfl rfl, isSq, isi_s (x := (.bool i)) rfl, isi_i (x := (.bool i)) rfl, isi_b (x := (.bool i)) rfl, eq_ii, eq_bb, eq_ss, is_n, beq_self_eq_true]
      rw [take_all (by simp)]
    | str i =>
      simp only [defM, startE, seqS_a, setS_a, bindS_ok, bindS_er, then_nx, then_rt, then_er, ifS_a, ifK_t, ifK_f, retS_a, dropS_a, asgS_a, asK_a, goG_ok, subT_a, nopS_a, getV_0, getV_s, cst_a, op2_a, o2a_ok, o2b_ok, opT_a, oTa_ok, oTb_ok, consA_a, cAa_ok, cAb_ok, nilA_a, callF_a, cFa_ok, callE_a, cEa_ok, newE_a, nwa_ok, datE_a, dta_ok, dispE_a, tupE_a, tpa_ok, asDs_a, datas, bind_ok, pur_ok, bool_b, leave_d, leave_nx, leave_er, ifE_a, ifa_t, ifa_f, notT_a, nta_ok, andT_a, ana_t, ana_f, orT_a, ora_t, ora_f, tstE_a, tsa_b, andE_a, aEa_t, aEa_f, orE_a, oEa_t, oEa_f, notE_a, nEa_ok, add_ii, sub_ii, gt_ii, lt_ii, ge_ii, le_ii, setT_a, consT_a, cTa_ok, nilT_a, tupT_a, seqT_t, seqT_l, forS_a, List.map_cons, List.map_nil, List.length_cons, List.length_nil, Nat.reduceAdd, Nat.reduceSub, Nat.zero_add, Nat.add_zero, List.replicate, List.cons_append, List.nil_append, List.append_nil, List.getElem?_cons_zero, List.getElem?_cons_succ, List.set_cons_zero, List.set_cons_succ, List.getElem?_nil, Option.map_some, Option.map_none, Option.bind_some, if_true, if_false, ite_true, ite_false, eq_self_iff_true, and_self, and_true, true_and, decide_true, decide_false, Bool.false_eq_true, Bool.not_true, Bool.not_false, sizeLine, Nat.reducePow, Nat.reduceLeDiff, Nat.zero_le, pow_7, pow_18, pow_40, isiT_lt (f := getV 1) (e := [some (.d (.str i)), some (.d (.str i)), none, none]) (M := M) (M1 := M) (x := (.str i)) rfl rfl, isSq, isi_s (x := (.str i)) rfl, isi_i (x := (.str i)) rfl, isi_b (x := (.str i)) rfl, eq_ii, eq_bb, eq_ss, is_n, beq_self_eq_true]
      rw [take_all (by simp)]
    | none =>
      simp only [defM, startE, seqS_a, setS_a, bindS_ok, bindS_er, then_nx, then_rt, then_er, ifS_a, ifK_t, ifK_f, retS_a, dropS_a, asgS_a, asK_a, goG_ok, subT_a, nopS_a, getV_0, getV_s, cst_a, op2_a, o2a_ok, o2b_ok, opT_a, oTa_ok, oTb_ok, consA_a, cAa_ok, cAb_ok, nilA_a, callF_a, cFa_ok, callE_a, cEa_ok, newE_a, nwa_ok, datE_a, dta_ok, dispE_a, tupE_a, tpa_ok, asDs_a, datas, bind_ok, pur_ok, bool_b, leave_d, leave_nx, leave_er, ifE_a, ifa_t, ifa_f, notT_a, nta_ok, andT_a, ana_t, ana_f, orT_a, ora_t, ora_f, tstE_a, tsa_b, andE_a, aEa_t, aEa_f, orE_a, oEa_t, oEa_f, notE_a, nEa_ok, add_ii, sub_ii, gt_ii, lt_ii, ge_ii, le_ii, setT_a, consT_a, cTa_ok, nilT_a, tupT_a, seqT_t, seqT_l, forS_a, List.map_cons, List.map_nil, List.length_cons, List.length_nil, Nat.reduceAdd, Nat.reduceSub, Nat.zero_add, Nat.add_zero, List.replicate, List.cons_append, List.nil_append, List.append_nil, List.getElem?_cons_zero, List.getElem?_cons_succ, List.set_cons_zero, List.set_cons_succ, List.getElem?_nil, Option.map_some, Option.map_none, Option.bind_some, if_true, if_false, ite_true, ite_false, eq_self_iff_true, and_self, and_true, true_and, decide_true, decide_false, Bool.false_eq_true, Bool.not_true, Bool.not_false, sizeLine, Nat.reducePow, Nat.reduceLeDiff, Nat.zero_le, pow_7, pow_18, pow_40, isiT_lt (f := getV 1) (e := [some (.d .none), some (.d .none), none, none]) (M := M) (M1 := M) (x := .none) rfl rfl, isSq, isi_s (x := .none) rfl, isi_i (x := .none) rfl, isi_b (x := .none) rfl, eq_ii, eq_bb, eq_ss, eq_nn', is_n, beq_self_eq_true]
      rw [take_all (by simp)]
    | _ => cases hx
  intro f
  induction f with
  | zero => exact fun x M h => leaf _ x M h
  | succ f ih =>
    rintro x M (h | ⟨xs, hx, hl, hz⟩)
    · exact leaf _ x M h
    · have hw : zipOf (.d x) (.d x) = some (xs, xs) := by rcases hx with rfl | rfl <;> rfl
      have hs : isSq x = true := by rcases hx with rfl | rfl <;> rfl
      have hd : isDic x = false := by rcases hx with rfl | rfl <;> rfl
      have hlen : lenV [.d x] M = .ok (.d (.int (xs.length : Nat))) M := by rcases hx with rfl | rfl <;> rfl
      have hlc : lcE [2, 3] (zipI (getV 0) (getV 1)) (tupT 2 (consT (setT 2) (consT (setT 3) nilT))) (fun _ M => .ok true M) (callF 2 (m_same (f + 1)) (consA (getV 2) (consA (getV 3) nilA))) [some (.d x), some (.d x), none, none] M = .ok ((zipD xs xs).map fun _ => .bool true) M := by
        rw [lcE_at (zipI_a (x := .d x) (y := .d x) (M1 := M) (M2 := M) (by simp only [defM, startE, seqS_a, setS_a, bindS_ok, bindS_er, then_nx, then_rt, then_er, ifS_a, ifK_t, ifK_f, retS_a, dropS_a, asgS_a, asK_a, goG_ok, subT_a, nopS_a, getV_0, getV_s, cst_a, op2_a, o2a_ok, o2b_ok, opT_a, oTa_ok, oTb_ok, consA_a, cAa_ok, cAb_ok, nilA_a, callF_a, cFa_ok, callE_a, cEa_ok, newE_a, nwa_ok, datE_a, dta_ok, dispE_a, tupE_a, tpa_ok, asDs_a, datas, bind_ok, pur_ok, bool_b, leave_d, leave_nx, leave_er, ifE_a, ifa_t, ifa_f, notT_a, nta_ok, andT_a, ana_t, ana_f, orT_a, ora_t, ora_f, tstE_a, tsa_b, andE_a, aEa_t, aEa_f, orE_a, oEa_t, oEa_f, notE_a, nEa_ok, add_ii, sub_ii, gt_ii, lt_ii, ge_ii, le_ii, setT_a, consT_a, cTa_ok, nilT_a, tupT_a, seqT_t, seqT_l, forS_a, List.map_cons, List.map_nil, List.length_cons, List.length_nil, Nat.reduceAdd, Nat.reduceSub, Nat.zero_add, Nat.add_zero, List.replicate, List.cons_append, List.nil_append, List.append_nil, List.getElem?_cons_zero, List.getElem?_cons_succ, List.set_cons_zero, List.set_cons_succ, List.getElem?_nil, Option.map_some, Option.map_none, Option.bind_some, if_true, if_false, ite_true, ite_false, eq_self_iff_true, and_self, and_true, true_and, decide_true, decide_false, Bool.false_eq_true, Bool.not_true, Bool.not_false, sizeLine, Nat.reducePow, Nat.reduceLeDiff, Nat.zero_le, pow_7, pow_18, pow_40]) (by simp only [defM, startE, seqS_a, setS_a, bindS_ok, bindS_er, then_nx, then_rt, then_er, ifS_a, ifK_t, ifK_f, retS_a, dropS_a, asgS_a, asK_a, goG_ok, subT_a, nopS_a, getV_0, getV_s, cst_a, op2_a, o2a_ok, o2b_ok, opT_a, oTa_ok, oTb_ok, consA_a, cAa_ok, cAb_ok, nilA_a, callF_a, cFa_ok, callE_a, cEa_ok, newE_a, nwa_ok, datE_a, dta_ok, dispE_a, tupE_a, tpa_ok, asDs_a, datas, bind_ok, pur_ok, bool_b, leave_d, leave_nx, leave_er, ifE_a, ifa_t, ifa_f, notT_a, nta_ok, andT_a, ana_t, ana_f, orT_a, ora_t, ora_f, tstE_a, tsa_b, andE_a, aEa_t, aEa_f, orE_a, oEa_t, oEa_f, notE_a, nEa_ok, add_ii, sub_ii, gt_ii, lt_ii, ge_ii, le_ii, setT_a, consT_a, cTa_ok, nilT_a, tupT_a, seqT_t, seqT_l, forS_a, List.map_cons, List.map_nil, List.length_cons, List.length_nil, Nat.reduceAdd, Nat.reduceSub, Nat.zero_add, Nat.add_zero, List.replicate, List.cons_append, List.nil_append, List.append_nil, List.getElem?_cons_zero, List.getElem?_cons_succ, List.set_cons_zero, List.set_cons_succ, List.getElem?_nil, Option.map_some, Option.map_none, Option.bind_some, if_true, if_false, ite_true, ite_false, eq_self_iff_true, and_self, and_true, true_and, decide_true, decide_false, Bool.false_eq_true, Bool.not_true, Bool.not_false, sizeLine, Nat.reducePow, Nat.reduceLeDiff, Nat.zero_le, pow_7, pow_18, pow_40]) hw)]
        have := lcL_map (γ := tupT 2 (consT (setT 2) (consT (setT 3) nilT))) (t := fun _ M => .ok true M) (h := callF 2 (m_same (f + 1)) (consA (getV 2) (consA (getV 3) nilA))) (ew := ewipe [some (.d x), some (.d x), none, none] [2, 3]) (M := M) (fun _ => .bool true) (zipD xs xs) [] (by have : sizeLine = 2 ^ 24 := rfl; rw [zipD_len]; simp; omega) (fun z hz' => by
          obtain ⟨y, hy, rfl⟩ := zipD_self hz'
          refine ⟨[some (.d x), some (.d x), some (.d y), some (.d y)], ?_, rfl, ?_⟩
          · show tupT 2 _ _ [some (.d x), some (.d x), none, none] M = _
            simp only [defM, startE, seqS_a, setS_a, bindS_ok, bindS_er, then_nx, then_rt, then_er, ifS_a, ifK_t, ifK_f, retS_a, dropS_a, asgS_a, asK_a, goG_ok, subT_a, nopS_a, getV_0, getV_s, cst_a, op2_a, o2a_ok, o2b_ok, opT_a, oTa_ok, oTb_ok, consA_a, cAa_ok, cAb_ok, nilA_a, callF_a, cFa_ok, callE_a, cEa_ok, newE_a, nwa_ok, datE_a, dta_ok, dispE_a, tupE_a, tpa_ok, asDs_a, datas, bind_ok, pur_ok, bool_b, leave_d, leave_nx, leave_er, ifE_a, ifa_t, ifa_f, notT_a, nta_ok, andT_a, ana_t, ana_f, orT_a, ora_t, ora_f, tstE_a, tsa_b, andE_a, aEa_t, aEa_f, orE_a, oEa_t, oEa_f, notE_a, nEa_ok, add_ii, sub_ii, gt_ii, lt_ii, ge_ii, le_ii, setT_a, consT_a, cTa_ok, nilT_a, tupT_a, seqT_t, seqT_l, forS_a, List.map_cons, List.map_nil, List.length_cons, List.length_nil, Nat.reduceAdd, Nat.reduceSub, Nat.zero_add, Nat.add_zero, List.replicate, List.cons_append, List.nil_append, List.append_nil, List.getElem?_cons_zero, List.getElem?_cons_succ, List.set_cons_zero, List.set_cons_succ, List.getElem?_nil, Option.map_some, Option.map_none, Option.bind_some, if_true, if_false, ite_true, ite_false, eq_self_iff_true, and_self, and_true, true_and, decide_true, decide_false, Bool.false_eq_true, Bool.not_true, Bool.not_false, sizeLine, Nat.reducePow, Nat.reduceLeDiff, Nat.zero_le, pow_7, pow_18, pow_40]
          · simp only [defM, startE, seqS_a, setS_a, bindS_ok, bindS_er, then_nx, then_rt, then_er, ifS_a, ifK_t, ifK_f, retS_a, dropS_a, asgS_a, asK_a, goG_ok, subT_a, nopS_a, getV_0, getV_s, cst_a, op2_a, o2a_ok, o2b_ok, opT_a, oTa_ok, oTb_ok, consA_a, cAa_ok, cAb_ok, nilA_a, callF_a, cFa_ok, callE_a, cEa_ok, newE_a, nwa_ok, datE_a, dta_ok, dispE_a, tupE_a, tpa_ok, asDs_a, datas, bind_ok, pur_ok, bool_b, leave_d, leave_nx, leave_er, ifE_a, ifa_t, ifa_f, notT_a, nta_ok, andT_a, ana_t, ana_f, orT_a, ora_t, ora_f, tstE_a, tsa_b, andE_a, aEa_t, aEa_f, orE_a, oEa_t, oEa_f, notE_a, nEa_ok, add_ii, sub_ii, gt_ii, lt_ii, ge_ii, le_ii, setT_a, consT_a, cTa_ok, nilT_a, tupT_a, seqT_t, seqT_l, forS_a, List.map_cons, List.map_nil, List.length_cons, List.length_nil, Nat.reduceAdd, Nat.reduceSub, Nat.zero_add, Nat.add_zero, List.replicate, List.cons_append, List.nil_append, List.append_nil, List.getElem?_cons_zero, List.getElem?_cons_succ, List.set_cons_zero, List.set_cons_succ, List.getElem?_nil, Option.map_some, Option.map_none, Option.bind_some, if_true, if_false, ite_true, ite_false, eq_self_iff_true, and_self, and_true, true_and, decide_true, decide_false, Bool.false_eq_true, Bool.not_true, Bool.not_false, sizeLine, Nat.reducePow, Nat.reduceLeDiff, Nat.zero_le, pow_7, pow_18, pow_40, ih y M (hz y hy)])
        exact this
      unfold m_same g_same
      simp only [defM, startE, seqS_a, setS_a, bindS_ok, bindS_er, then_nx, then_rt, then_er, ifS_a, ifK_t, ifK_f, retS_a, dropS_a, asgS_a, asK_a, goG_ok, subT_a, nopS_a, getV_0, getV_s, cst_a, op2_a, o2a_ok, o2b_ok, opT_a, oTa_ok, oTb_ok, consA_a, cAa_ok, cAb_ok, nilA_a, callF_a, cFa_ok, callE_a, cEa_ok, newE_a, nwa_ok, datE_a, dta_ok, dispE_a, tupE_a, tpa_ok, asDs_a, datas, bind_ok, pur_ok, bool_b, leave_d, leave_nx, leave_er, ifE_a, ifa_t, ifa_f, notT_a, nta_ok, andT_a, ana_t, ana_f, orT_a, ora_t, ora_f, tstE_a, tsa_b, andE_a, aEa_t, aEa_f, orE_a, oEa_t, oEa_f, notE_a, nEa_ok, add_ii, sub_ii, gt_ii, lt_ii, ge_ii, le_ii, setT_a, consT_a, cTa_ok, nilT_a, tupT_a, seqT_t, seqT_l, forS_a, List.map_cons, List.map_nil, List.length_cons, List.length_nil, Nat.reduceAdd, Nat.reduceSub, Nat.zero_add, Nat.add_zero, List.replicate, List.cons_append, List.nil_append, List.append_nil, List.getElem?_cons_zero, List.getElem?_cons_succ, List.set_cons_zero, List.set_cons_succ, List.getElem?_nil, Option.map_some, Option.map_none, Option.bind_some, if_true, if_false, ite_true, ite_false, eq_self_iff_true, and_self, and_true, true_and, decide_true, decide_false, Bool.false_eq_true, Bool.not_true, Bool.not_false, sizeLine, Nat.reducePow, Nat.reduceLeDiff, Nat.zero_le, pow_7, pow_18, pow_40, isiT_lt (f := getV 1) (e := [some (.d x), some (.d x), none, none]) (M := M) (M1 := M) (x := x) rfl hd, hs, isi_l (x := x) hd, isi_t (x := x) hd, ne_bb, beq_self_eq_true, hlen, eq_ii, hlc, all_true]
      rw [take_all (by simp)]
end B
end DL
namespace DL
open PySem PySem.Spec L2
def sK (E : List Nat) (k : Nat) (ss : List Nat) : List Nat := ss.map fun a => fI E k a
def pK (E : List Nat) (G : List Int) (k : Nat) (ss : List Nat) (ps : List Int) : List Int := (ss.zip ps).map fun z => z.2 + cI E G k z.1
section
variable {n : Nat} {cs P E : List Nat} {G N : List Int}
theorem Paid.le {ss : List Nat} {ps : List Int} {k j : Nat} (h : Paid E G N ss ps k) (hj : j ≤ k) : Paid E G N ss ps j := fun i x a p m hi => h i x a p m (by omega)
/-- what is behind k passes -/
theorem OneP.run (O : OneP n cs P G N) (V : Inv2 P E) (h2 : 2 ≤ n) {ss : List Nat} {ps : List Int} (h : Stt n ss ps) {k : Nat} (H : Paid E G N ss ps k) : Run n ss ps (repR cs k) (sK E k ss) (pK E G k ss ps) := by
  obtain ⟨s, p, R, S, C⟩ := O.many V h2 h k H
  obtain ⟨h1, _⟩ := R.ok h h2
  have e1 : s = sK E k ss := by
    apply ext_of
    intro j
    unfold sK
    by_cases hj : j < n
    · obtain ⟨a, ha⟩ := get_some (show j < ss.length by rw [h.slen]; exact hj)
      rw [S j a ha, List.getElem?_map, ha]
      rfl
    · rw [List.getElem?_eq_none (by have := h1.slen; omega), List.getElem?_eq_none (by simp; have := h.slen; omega)]
  have e2 : p = pK E G k ss ps := by
    apply ext_of
    intro j
    unfold pK
    by_cases hj : j < n
    · obtain ⟨a, ha⟩ := get_some (show j < ss.length by rw [h.slen]; exact hj)
      obtain ⟨q, hq⟩ := get_some (show j < ps.length by rw [h.len]; exact hj)
      rw [C j a q ha hq, List.getElem?_map, (List.getElem?_zip_eq_some (z := (a, q))).mpr ⟨ha, hq⟩]
      rfl
    · rw [List.getElem?_eq_none (by have := h1.len; omega), List.getElem?_eq_none (by simp; have := h.slen; have := h.len; omega)]
  rw [← e1, ← e2]
  exact R
theorem OneP.stt (O : OneP n cs P G N) (V : Inv2 P E) (h2 : 2 ≤ n) {ss : List Nat} {ps : List Int} (h : Stt n ss ps) {k : Nat} (H : Paid E G N ss ps k) : Stt n (sK E k ss) (pK E G k ss ps) ∧ Lot ss ps (sK E k ss) (pK E G k ss ps) := (O.run V h2 h H).ok h h2
theorem repR_add (cs : List Nat) (i : Nat) : ∀ j, repR cs (i + j) = repR cs i ++ repR cs j
  | 0 => by rw [Nat.add_zero]; show _ = repR cs i ++ []; rw [List.append_nil]
  | j + 1 => by
    show repR cs (i + j) ++ cs = repR cs i ++ (repR cs j ++ cs)
    rw [repR_add cs i j, List.append_assoc]
/-- a run of k + j passes is one of k passes, then one of j -/
theorem OneP.split (O : OneP n cs P G N) (V : Inv2 P E) (h2 : 2 ≤ n) {ss : List Nat} {ps : List Int} (h : Stt n ss ps) {k j : Nat} (H : Paid E G N ss ps (k + j)) : Run n (sK E k ss) (pK E G k ss ps) (repR cs j) (sK E (k + j) ss) (pK E G (k + j) ss ps) ∧ Paid E G N (sK E k ss) (pK E G k ss ps) j := by
  have R := O.run V h2 h H
  rw [repR_add] at R
  obtain ⟨s1, p1, R1, R2⟩ := Run.splitP R
  obtain ⟨e1, e2⟩ := R1.det h h2 (O.run V h2 h (H.le (Nat.le_add_right _ _)))
  subst e1 e2
  have h1 := (O.stt V h2 h (H.le (Nat.le_add_right k j))).1
  exact ⟨R2, O.paid V h2 h1 j _ _ R2⟩
end
end DL
namespace DL
open PySem PySem.Spec L2
namespace B
open PySem PySem.Spec L2 DL
open DL.C (Bx getM Bx.mono)
end B
end DL
namespace DL
open PySem PySem.Spec L2
theorem gd_nats {cs : List Nat} (hc : ∀ c ∈ cs, c ≤ 10 ^ 60) : gd (10 ^ 60) 1 (.list (cs.map nD)) = true := gd_mkl fun y hy => by
  obtain ⟨c, h, rfl⟩ := List.mem_map.mp hy
  have := hc c h
  show gd (10 ^ 60) 0 (.int (c : Nat)) = true
  unfold gd
  exact decide_eq_true (by omega)
theorem gd_soft {n : Nat} {ss : List Nat} {ps : List Int} (h : Stt n ss ps) (hn : n ≤ 1000) (hS : ∀ p ∈ ps, p ≤ 10 ^ 60) : gd (10 ^ 60) 2 (softD ss ps) = true := by
  refine gd_mkl fun y hy => ?_
  rcases List.mem_cons.mp hy with rfl | hy
  · exact gd_nats fun c hc => by have := List.mem_range.mp (h.perm.mem_iff.mp hc); omega
  · rcases List.mem_cons.mp hy with rfl | hy
    · refine gd_mkl fun z hz => ?_
      obtain ⟨p, hp, rfl⟩ := List.mem_map.mp hz
      have := h.nn p hp
      have := hS p hp
      unfold gd
      exact decide_eq_true (by omega)
    · cases hy
theorem min_ii' {i j : Int} {M : Mem} : minV [.d (.int i), .d (.int j)] M = .ok (.d (.int (min i j))) M := by
  show Res.ok (Vl.d (.int (if j < i then j else i))) M = _
  have : (if j < i then j else i) = min i j := by split <;> omega
  rw [this]
namespace B
open PySem PySem.Spec L2 DL
section
variable {n m j a : Nat} {cs ss : List Nat} {ps : List Int} {r : PyData}
/-- where the passes stop: the pass behind the m-th, the exchange j, the person a -/
structure Halt (n : Nat) (cs ss : List Nat) (ps : List Int) (m j a : Nat) : Prop where
  ex : ∃ (c : Nat) (s1 : List Nat) (p1 : List Int), Paid (oE n cs) (oG n cs) (oN n cs) ss ps m ∧ cs[j]? = some c ∧ Run n (sK (oE n cs) m ss) (pK (oE n cs) (oG n cs) m ss ps) (cs.take j) s1 p1 ∧ s1[a]? = some c ∧ p1[a]? = some 0
def Ever (n : Nat) (cs ss : List Nat) (ps : List Int) : Prop := ∀ k, Paid (oE n cs) (oG n cs) (oN n cs) ss ps k
theorem Halt.no (H : Halt n cs ss ps m j a) (h : Stt n ss ps) (h2 : 2 ≤ n) (hc : ∀ c ∈ cs, c < n) : ¬ Paid (oE n cs) (oG n cs) (oN n cs) ss ps (m + 1) := by
  intro P1
  obtain ⟨c, s1, p1, P0, hj, R, ha, h0⟩ := H.ex
  have O := opL_ok h2 _ cs rfl hc
  have V := inv_back O.perm
  obtain ⟨s3, p3, R1, R2⟩ := Run.splitP (O.run V h2 h P1 : Run n ss ps (repR cs m ++ cs) _ _)
  obtain ⟨e1, e2⟩ := R1.det h h2 (O.run V h2 h P0)
  subst e1 e2
  obtain ⟨h1, _⟩ := R1.ok h h2
  obtain ⟨s4, p4, R4⟩ := R2.upto (j + 1)
  rw [List.take_succ, hj] at R4
  obtain ⟨s5, p5, R5, X⟩ := Run.last (l := cs.take j) (c := c) R4
  obtain ⟨e1, e2⟩ := R5.det h1 h2 R
  subst e1 e2
  obtain ⟨h5, _⟩ := R5.ok h1 h2
  obtain ⟨x, y, p, q, a1, _, a3, a4, _⟩ := X.ex
  have := h5.inj a1 ha
  subst this
  rw [a3] at h0
  cases h0
  omega
theorem Halt.many (H : Halt n cs ss ps m j a) (h : Stt n ss ps) (h2 : 2 ≤ n) (hc : ∀ c ∈ cs, c < n) : minDD (manyL n (oE n cs) (oG n cs) (oN n cs) ss ps) = nD m := by
  have no := H.no h h2 hc
  obtain ⟨c, s1, p1, P0, _⟩ := H.ex
  have O := opL_ok h2 _ cs rfl hc
  have hE : EP n (oE n cs) := EP.of O.perm (inv_back O.perm)
  rcases many_spec (G := oG n cs) (N := oN n cs) hE O.nl h with ⟨_, H⟩ | ⟨k, e, H1, H2⟩
  · exact absurd (H _) no
  · have : k = m := by
      by_cases h1 : m < k
      · exact absurd (H1.le h1) no
      · by_cases h3 : k < m
        · exact absurd (P0.le h3) H2
        · omega
    rw [e, this]
theorem Ever.many (H : Ever n cs ss ps) (h : Stt n ss ps) (h2 : 2 ≤ n) (hc : ∀ c ∈ cs, c < n) : minDD (manyL n (oE n cs) (oG n cs) (oN n cs) ss ps) = .none := by
  have O := opL_ok h2 _ cs rfl hc
  have hE : EP n (oE n cs) := EP.of O.perm (inv_back O.perm)
  rcases many_spec (G := oG n cs) (N := oN n cs) hE O.nl h with ⟨e, _⟩ | ⟨k, e, H1, H2⟩
  · exact e
  · exact absurd (H _) H2
end
/-- the law's own loop: one box more than numbers of the script, k + 1 at most -/
def lawG (k : Int) (right : Fn) : Sv := (retS (callE allV (consA (datE (lcE [1] (rngI1 (op2 addV (cst (.d (.int 1))) (callE minV (consA (cst (.d (.int k))) (consA (callE lenV (consA (getV 0) nilA)) nilA))))) (setT 1) (fun _ M => .ok true M) (callF 1 right (consA (callF 2 B.m_box (consA (getV 0) (consA (getV 1) nilA))) nilA)))) nilA)))
theorem law_gen {right : Fn} {k : Nat} (hk : k ≤ 60) (hright : ∀ (i : Nat) (M : Mem) (o : MO), M[i]? = some o → DL.C.Bx 0 o → ∃ o', right [.h i] M = .ok (.d (.bool true)) (M.set i o'))
    (ns : List Int) (hn : ns.length ≤ 63) : ∃ M, defM 2 0 (lawG k right) [.s (ns.map PyData.int)] [] = .ok (.d (.bool true)) M := by
  have hsz : sizeLine = 2 ^ 24 := rfl
  have hr : (rngI1 (op2 addV (cst (.d (.int 1))) (callE minV (consA (cst (.d (.int (k : Nat)))) (consA (callE lenV (consA (getV 0) nilA)) nilA))))) [some (.s (ns.map PyData.int)), none] [] = .ok (rangeD 0 (((1 + min k ns.length : Nat)) : Int)) [] := by
    refine rngI1_a ?_ (by omega)
    have e : (1 : Int) + min (k : Int) (((ns.map PyData.int).length : Nat) : Int) = ((1 + min k ns.length : Nat) : Int) := by
      rw [List.length_map]
      omega
    simp only [defM, startE, seqS_a, setS_a, bindS_ok, bindS_er, then_nx, then_rt, then_er, ifS_a, ifK_t, ifK_f, retS_a, dropS_a, asgS_a, asK_a, goG_ok, subT_a, nopS_a, getV_0, getV_s, cst_a, op2_a, o2a_ok, o2b_ok, opT_a, oTa_ok, oTb_ok, consA_a, cAa_ok, cAb_ok, nilA_a, callF_a, cFa_ok, callE_a, cEa_ok, newE_a, nwa_ok, datE_a, dta_ok, dispE_a, tupE_a, tpa_ok, asDs_a, datas, bind_ok, pur_ok, bool_b, leave_d, leave_nx, leave_er, ifE_a, ifa_t, ifa_f, notT_a, nta_ok, andT_a, ana_t, ana_f, orT_a, ora_t, ora_f, tstE_a, tsa_b, andE_a, aEa_t, aEa_f, orE_a, oEa_t, oEa_f, notE_a, nEa_ok, add_ii, sub_ii, gt_ii, lt_ii, ge_ii, le_ii, setT_a, consT_a, cTa_ok, nilT_a, tupT_a, seqT_t, seqT_l, forS_a, List.map_cons, List.map_nil, List.length_cons, List.length_nil, Nat.reduceAdd, Nat.reduceSub, Nat.zero_add, Nat.add_zero, List.replicate, List.cons_append, List.nil_append, List.append_nil, List.getElem?_cons_zero, List.getElem?_cons_succ, List.set_cons_zero, List.set_cons_succ, List.getElem?_nil, Option.map_some, Option.map_none, Option.bind_some, if_true, if_false, ite_true, ite_false, eq_self_iff_true, and_self, and_true, true_and, decide_true, decide_false, Bool.false_eq_true, Bool.not_true, Bool.not_false, sizeLine, Nat.reducePow, Nat.reduceLeDiff, Nat.zero_le, pow_7, pow_18, pow_40, len_s, min_ii', e]
  have hrl : (rangeD 0 (((1 + min k ns.length : Nat)) : Int)).length = 1 + min k ns.length := by rw [rangeD_nat]; simp
  have hrg : ∀ (j : Nat) (x : PyData), (rangeD 0 (((1 + min k ns.length : Nat)) : Int))[j]? = some x → x = nD j := fun j x h => by
    rw [rangeD_nat, List.getElem?_map] at h
    obtain ⟨y, hy, rfl⟩ := Option.map_eq_some_iff.mp h
    obtain ⟨_, e⟩ := List.getElem?_eq_some_iff.mp hy
    rw [List.getElem_range] at e
    rw [e]
  obtain ⟨ys, M', e, _, hl, hP⟩ := lcL_all (γ := setT 1) (t := fun _ M => .ok true M) (h := callF 1 right (consA (callF 2 B.m_box (consA (getV 0) (consA (getV 1) nilA))) nilA)) (ew := [some (.s (ns.map PyData.int)), none])
    (fun _ _ => True) (fun _ _ y => y = .bool true) (rangeD 0 (((1 + min k ns.length : Nat)) : Int)) 0 [] [] (Nat.zero_le _) (by rw [hrl]; simp; omega)
    (by
      intro j x N hx _
      have hj := lt_of_getL hx
      obtain rfl := hrg j x hx
      obtain ⟨o, e1, B⟩ := box_ok (ns := ns) (k := j) (by omega) (by omega) (M := N)
      obtain ⟨o', e2⟩ := hright N.length (N ++ [o]) o (m1_a rfl) B
      rw [m1_sa rfl] at e2
      refine ⟨[some (.s (ns.map PyData.int)), some (.d (nD j))], N, N, .bool true, N ++ [o'], by simp only [defM, startE, seqS_a, setS_a, bindS_ok, bindS_er, then_nx, then_rt, then_er, ifS_a, ifK_t, ifK_f, retS_a, dropS_a, asgS_a, asK_a, goG_ok, subT_a, nopS_a, getV_0, getV_s, cst_a, op2_a, o2a_ok, o2b_ok, opT_a, oTa_ok, oTb_ok, consA_a, cAa_ok, cAb_ok, nilA_a, callF_a, cFa_ok, callE_a, cEa_ok, newE_a, nwa_ok, datE_a, dta_ok, dispE_a, tupE_a, tpa_ok, asDs_a, datas, bind_ok, pur_ok, bool_b, leave_d, leave_nx, leave_er, ifE_a, ifa_t, ifa_f, notT_a, nta_ok, andT_a, ana_t, ana_f, orT_a, ora_t, ora_f, tstE_a, tsa_b, andE_a, aEa_t, aEa_f, orE_a, oEa_t, oEa_f, notE_a, nEa_ok, add_ii, sub_ii, gt_ii, lt_ii, ge_ii, le_ii, setT_a, consT_a, cTa_ok, nilT_a, tupT_a, seqT_t, seqT_l, forS_a, List.map_cons, List.map_nil, List.length_cons, List.length_nil, Nat.reduceAdd, Nat.reduceSub, Nat.zero_add, Nat.add_zero, List.replicate, List.cons_append, List.nil_append, List.append_nil, List.getElem?_cons_zero, List.getElem?_cons_succ, List.set_cons_zero, List.set_cons_succ, List.getElem?_nil, Option.map_some, Option.map_none, Option.bind_some, if_true, if_false, ite_true, ite_false, eq_self_iff_true, and_self, and_true, true_and, decide_true, decide_false, Bool.false_eq_true, Bool.not_true, Bool.not_false, sizeLine, Nat.reducePow, Nat.reduceLeDiff, Nat.zero_le, pow_7, pow_18, pow_40], rfl, ?_, trivial, rfl⟩
      simp only [defM, startE, seqS_a, setS_a, bindS_ok, bindS_er, then_nx, then_rt, then_er, ifS_a, ifK_t, ifK_f, retS_a, dropS_a, asgS_a, asK_a, goG_ok, subT_a, nopS_a, getV_0, getV_s, cst_a, op2_a, o2a_ok, o2b_ok, opT_a, oTa_ok, oTb_ok, consA_a, cAa_ok, cAb_ok, nilA_a, callF_a, cFa_ok, callE_a, cEa_ok, newE_a, nwa_ok, datE_a, dta_ok, dispE_a, tupE_a, tpa_ok, asDs_a, datas, bind_ok, pur_ok, bool_b, leave_d, leave_nx, leave_er, ifE_a, ifa_t, ifa_f, notT_a, nta_ok, andT_a, ana_t, ana_f, orT_a, ora_t, ora_f, tstE_a, tsa_b, andE_a, aEa_t, aEa_f, orE_a, oEa_t, oEa_f, notE_a, nEa_ok, add_ii, sub_ii, gt_ii, lt_ii, ge_ii, le_ii, setT_a, consT_a, cTa_ok, nilT_a, tupT_a, seqT_t, seqT_l, forS_a, List.map_cons, List.map_nil, List.length_cons, List.length_nil, Nat.reduceAdd, Nat.reduceSub, Nat.zero_add, Nat.add_zero, List.replicate, List.cons_append, List.nil_append, List.append_nil, List.getElem?_cons_zero, List.getElem?_cons_succ, List.set_cons_zero, List.set_cons_succ, List.getElem?_nil, Option.map_some, Option.map_none, Option.bind_some, if_true, if_false, ite_true, ite_false, eq_self_iff_true, and_self, and_true, true_and, decide_true, decide_false, Bool.false_eq_true, Bool.not_true, Bool.not_false, sizeLine, Nat.reducePow, Nat.reduceLeDiff, Nat.zero_le, pow_7, pow_18, pow_40, e1, e2])
    trivial
  rw [List.drop_zero, List.nil_append] at e
  have hys : ys = ys.map fun _ => PyData.bool true := by
    refine ((List.map_congr_left fun y hy => ?_).trans (List.map_id ys)).symm
    obtain ⟨j, hj⟩ := List.getElem?_of_mem hy
    have hjl := lt_of_getL hj
    rw [hrl] at hl
    obtain ⟨x, hx⟩ := get_some (show j < (rangeD 0 (((1 + min k ns.length : Nat)) : Int)).length by omega)
    exact (hP j x y (by rw [Nat.zero_add]; exact hx) hj).symm
  refine ⟨M'.take ([] : Mem).length, ?_⟩
  · have hlc : (lcE [1] (rngI1 (op2 addV (cst (.d (.int 1))) (callE minV (consA (cst (.d (.int (k : Nat)))) (consA (callE lenV (consA (getV 0) nilA)) nilA))))) (setT 1) (fun _ M => .ok true M) (callF 1 right (consA (callF 2 B.m_box (consA (getV 0) (consA (getV 1) nilA))) nilA))) [some (.s (ns.map PyData.int)), none] [] = .ok (ys.map fun _ => PyData.bool true) M' := by
      rw [lcE_at hr, ← hys]
      exact e
    unfold lawG
    simp only [defM, startE, seqS_a, setS_a, bindS_ok, bindS_er, then_nx, then_rt, then_er, ifS_a, ifK_t, ifK_f, retS_a, dropS_a, asgS_a, asK_a, goG_ok, subT_a, nopS_a, getV_0, getV_s, cst_a, op2_a, o2a_ok, o2b_ok, opT_a, oTa_ok, oTb_ok, consA_a, cAa_ok, cAb_ok, nilA_a, callF_a, cFa_ok, callE_a, cEa_ok, newE_a, nwa_ok, datE_a, dta_ok, dispE_a, tupE_a, tpa_ok, asDs_a, datas, bind_ok, pur_ok, bool_b, leave_d, leave_nx, leave_er, ifE_a, ifa_t, ifa_f, notT_a, nta_ok, andT_a, ana_t, ana_f, orT_a, ora_t, ora_f, tstE_a, tsa_b, andE_a, aEa_t, aEa_f, orE_a, oEa_t, oEa_f, notE_a, nEa_ok, add_ii, sub_ii, gt_ii, lt_ii, ge_ii, le_ii, setT_a, consT_a, cTa_ok, nilT_a, tupT_a, seqT_t, seqT_l, forS_a, List.map_cons, List.map_nil, List.length_cons, List.length_nil, Nat.reduceAdd, Nat.reduceSub, Nat.zero_add, Nat.add_zero, List.replicate, List.cons_append, List.nil_append, List.append_nil, List.getElem?_cons_zero, List.getElem?_cons_succ, List.set_cons_zero, List.set_cons_succ, List.getElem?_nil, Option.map_some, Option.map_none, Option.bind_some, if_true, if_false, ite_true, ite_false, eq_self_iff_true, and_self, and_true, true_and, decide_true, decide_false, Bool.false_eq_true, Bool.not_true, Bool.not_false, sizeLine, Nat.reducePow, Nat.reduceLeDiff, Nat.zero_le, pow_7, pow_18, pow_40, hlc, all_true]
end B
end DL
namespace DL
namespace K34
open PySem PySem.Spec L2 DL DL.B
open DL.C (Bx getM Bx.mono)
def Lf (x : PyData) : Prop := (∃ i, x = .int i) ∨ x = .none
def Tn : Nat → PyData → PyData → Prop
  | 0, x, y => Lf x ∧ y = x
  | k + 1, x, y => (Lf x ∧ y = x) ∨ ∃ (xs : List PyData) (F : PyData → PyData), (x = .list xs ∨ x = .tuple xs) ∧ y = .list (xs.map F) ∧ xs.length ≤ 2 ^ 20 ∧ ∀ z ∈ xs, Tn k z (F z)
theorem lists_n : ∀ (f : Nat) (x y : PyData) (M : Mem), Tn f x y → C.m_lists (f + 1) [.d x] M = .ok (.d y) M := by
  have leaf : ∀ (f : Nat) (x : PyData) (M : Mem), Lf x → C.m_lists (f + 1) [.d x] M = .ok (.d x) M := by
    rintro f x M (⟨i, rfl⟩ | rfl)
    · unfold C.m_lists C.g_lists
      simp only [defM, startE, seqS_a, setS_a, bindS_ok, bindS_er, then_nx, then_rt, then_er, ifS_a, ifK_t, ifK_f, retS_a, dropS_a, asgS_a, asK_a, goG_ok, subT_a, nopS_a, getV_0, getV_s, cst_a, op2_a, o2a_ok, o2b_ok, opT_a, oTa_ok, oTb_ok, consA_a, cAa_ok, cAb_ok, nilA_a, callF_a, cFa_ok, callE_a, cEa_ok, newE_a, nwa_ok, datE_a, dta_ok, dispE_a, tupE_a, tpa_ok, asDs_a, datas, bind_ok, pur_ok, bool_b, leave_d, leave_nx, leave_er, ifE_a, ifa_t, ifa_f, notT_a, nta_ok, andT_a, ana_t, ana_f, orT_a, ora_t, ora_f, tstE_a, tsa_b, andE_a, aEa_t, aEa_f, orE_a, oEa_t, oEa_f, notE_a, nEa_ok, add_ii, sub_ii, gt_ii, lt_ii, ge_ii, le_ii, setT_a, consT_a, cTa_ok, nilT_a, tupT_a, seqT_t, seqT_l, forS_a, List.map_cons, List.map_nil, List.length_cons, List.length_nil, Nat.reduceAdd, Nat.reduceSub, Nat.zero_add, Nat.add_zero, List.replicate, List.cons_append, List.nil_append, List.append_nil, List.getElem?_cons_zero, List.getElem?_cons_succ, List.set_cons_zero, List.set_cons_succ, List.getElem?_nil, Option.map_some, Option.map_none, Option.bind_some, if_true, if_false, ite_true, ite_false, eq_self_iff_true, and_self, and_true, true_and, decide_true, decide_false, Bool.false_eq_true, Bool.not_true, Bool.not_false, sizeLine, Nat.reducePow, Nat.reduceLeDiff, Nat.zero_le, pow_7, pow_18, pow_40, isiT_lt (f := getV 0) (e := [some (.d (.int i)), none]) (M := M) (M1 := M) (x := .int i) rfl rfl, isSq]
      rw [take_all (by simp)]
    · unfold C.m_lists C.g_lists
      simp only [defM, startE, seqS_a, setS_a, bindS_ok, bindS_er, then_nx, then_rt, then_er, ifS_a, ifK_t, ifK_f, retS_a, dropS_a, asgS_a, asK_a, goG_ok, subT_a, nopS_a, getV_0, getV_s, cst_a, op2_a, o2a_ok, o2b_ok, opT_a, oTa_ok, oTb_ok, consA_a, cAa_ok, cAb_ok, nilA_a, callF_a, cFa_ok, callE_a, cEa_ok, newE_a, nwa_ok, datE_a, dta_ok, dispE_a, tupE_a, tpa_ok, asDs_a, datas, bind_ok, pur_ok, bool_b, leave_d, leave_nx, leave_er, ifE_a, ifa_t, ifa_f, notT_a, nta_ok, andT_a, ana_t, ana_f, orT_a, ora_t, ora_f, tstE_a, tsa_b, andE_a, aEa_t, aEa_f, orE_a, oEa_t, oEa_f, notE_a, nEa_ok, add_ii, sub_ii, gt_ii, lt_ii, ge_ii, le_ii, setT_a, consT_a, cTa_ok, nilT_a, tupT_a, seqT_t, seqT_l, forS_a, List.map_cons, List.map_nil, List.length_cons, List.length_nil, Nat.reduceAdd, Nat.reduceSub, Nat.zero_add, Nat.add_zero, List.replicate, List.cons_append, List.nil_append, List.append_nil, List.getElem?_cons_zero, List.getElem?_cons_succ, List.set_cons_zero, List.set_cons_succ, List.getElem?_nil, Option.map_some, Option.map_none, Option.bind_some, if_true, if_false, ite_true, ite_false, eq_self_iff_true, and_self, and_true, true_and, decide_true, decide_false, Bool.false_eq_true, Bool.not_true, Bool.not_false, sizeLine, Nat.reducePow, Nat.reduceLeDiff, Nat.zero_le, pow_7, pow_18, pow_40, isiT_lt (f := getV 0) (e := [some (.d .none), none]) (M := M) (M1 := M) (x := .none) rfl rfl, isSq]
      rw [take_all (by simp)]
  intro f
  induction f with
  | zero =>
    rintro x y M ⟨h, rfl⟩
    exact leaf 0 y M h
  | succ f ih =>
    rintro x y M (⟨h, rfl⟩ | ⟨xs, F, hx, rfl, hl, hz⟩)
    · exact leaf _ y M h
    · have hw : walkOf (.d x) = some xs := by rcases hx with rfl | rfl <;> rfl
      have hs : isSq x = true := by rcases hx with rfl | rfl <;> rfl
      have hd : isDic x = false := by rcases hx with rfl | rfl <;> rfl
      have hlc : lcE [1] (seqI (getV 0)) (setT 1) (fun _ M => .ok true M) (callF 1 (C.m_lists (f + 1)) (consA (getV 1) nilA)) [some (.d x), none] M = .ok (xs.map F) M := by
        rw [lcE_at (seqI_a (x := .d x) (M1 := M) (by simp only [defM, startE, seqS_a, setS_a, bindS_ok, bindS_er, then_nx, then_rt, then_er, ifS_a, ifK_t, ifK_f, retS_a, dropS_a, asgS_a, asK_a, goG_ok, subT_a, nopS_a, getV_0, getV_s, cst_a, op2_a, o2a_ok, o2b_ok, opT_a, oTa_ok, oTb_ok, consA_a, cAa_ok, cAb_ok, nilA_a, callF_a, cFa_ok, callE_a, cEa_ok, newE_a, nwa_ok, datE_a, dta_ok, dispE_a, tupE_a, tpa_ok, asDs_a, datas, bind_ok, pur_ok, bool_b, leave_d, leave_nx, leave_er, ifE_a, ifa_t, ifa_f, notT_a, nta_ok, andT_a, ana_t, ana_f, orT_a, ora_t, ora_f, tstE_a, tsa_b, andE_a, aEa_t, aEa_f, orE_a, oEa_t, oEa_f, notE_a, nEa_ok, add_ii, sub_ii, gt_ii, lt_ii, ge_ii, le_ii, setT_a, consT_a, cTa_ok, nilT_a, tupT_a, seqT_t, seqT_l, forS_a, List.map_cons, List.map_nil, List.length_cons, List.length_nil, Nat.reduceAdd, Nat.reduceSub, Nat.zero_add, Nat.add_zero, List.replicate, List.cons_append, List.nil_append, List.append_nil, List.getElem?_cons_zero, List.getElem?_cons_succ, List.set_cons_zero, List.set_cons_succ, List.getElem?_nil, Option.map_some, Option.map_none, Option.bind_some, if_true, if_false, ite_true, ite_false, eq_self_iff_true, and_self, and_true, true_and, decide_true, decide_false, Bool.false_eq_true, Bool.not_true, Bool.not_false, sizeLine, Nat.reducePow, Nat.reduceLeDiff, Nat.zero_le, pow_7, pow_18, pow_40]) hw)]
        have := lcL_map (γ := setT 1) (t := fun _ M => .ok true M) (h := callF 1 (C.m_lists (f + 1)) (consA (getV 1) nilA)) (ew := ewipe [some (.d x), none] [1]) (M := M) F xs [] (by have : sizeLine = 2 ^ 24 := rfl; simp; omega) (fun z hz' => by
          refine ⟨[some (.d x), some (.d z)], rfl, rfl, ?_⟩
          simp only [defM, startE, seqS_a, setS_a, bindS_ok, bindS_er, then_nx, then_rt, then_er, ifS_a, ifK_t, ifK_f, retS_a, dropS_a, asgS_a, asK_a, goG_ok, subT_a, nopS_a, getV_0, getV_s, cst_a, op2_a, o2a_ok, o2b_ok, opT_a, oTa_ok, oTb_ok, consA_a, cAa_ok, cAb_ok, nilA_a, callF_a, cFa_ok, callE_a, cEa_ok, newE_a, nwa_ok, datE_a, dta_ok, dispE_a, tupE_a, tpa_ok, asDs_a, datas, bind_ok, pur_ok, bool_b, leave_d, leave_nx, leave_er, ifE_a, ifa_t, ifa_f, notT_a, nta_ok, andT_a, ana_t, ana_f, orT_a, ora_t, ora_f, tstE_a, tsa_b, andE_a, aEa_t, aEa_f, orE_a, oEa_t, oEa_f, notE_a, nEa_ok, add_ii, sub_ii, gt_ii, lt_ii, ge_ii, le_ii, setT_a, consT_a, cTa_ok, nilT_a, tupT_a, seqT_t, seqT_l, forS_a, List.map_cons, List.map_nil, List.length_cons, List.length_nil, Nat.reduceAdd, Nat.reduceSub, Nat.zero_add, Nat.add_zero, List.replicate, List.cons_append, List.nil_append, List.append_nil, List.getElem?_cons_zero, List.getElem?_cons_succ, List.set_cons_zero, List.set_cons_succ, List.getElem?_nil, Option.map_some, Option.map_none, Option.bind_some, if_true, if_false, ite_true, ite_false, eq_self_iff_true, and_self, and_true, true_and, decide_true, decide_false, Bool.false_eq_true, Bool.not_true, Bool.not_false, sizeLine, Nat.reducePow, Nat.reduceLeDiff, Nat.zero_le, pow_7, pow_18, pow_40, ih z (F z) M (hz z hz')])
        exact this
      unfold C.m_lists C.g_lists
      simp only [defM, startE, seqS_a, setS_a, bindS_ok, bindS_er, then_nx, then_rt, then_er, ifS_a, ifK_t, ifK_f, retS_a, dropS_a, asgS_a, asK_a, goG_ok, subT_a, nopS_a, getV_0, getV_s, cst_a, op2_a, o2a_ok, o2b_ok, opT_a, oTa_ok, oTb_ok, consA_a, cAa_ok, cAb_ok, nilA_a, callF_a, cFa_ok, callE_a, cEa_ok, newE_a, nwa_ok, datE_a, dta_ok, dispE_a, tupE_a, tpa_ok, asDs_a, datas, bind_ok, pur_ok, bool_b, leave_d, leave_nx, leave_er, ifE_a, ifa_t, ifa_f, notT_a, nta_ok, andT_a, ana_t, ana_f, orT_a, ora_t, ora_f, tstE_a, tsa_b, andE_a, aEa_t, aEa_f, orE_a, oEa_t, oEa_f, notE_a, nEa_ok, add_ii, sub_ii, gt_ii, lt_ii, ge_ii, le_ii, setT_a, consT_a, cTa_ok, nilT_a, tupT_a, seqT_t, seqT_l, forS_a, List.map_cons, List.map_nil, List.length_cons, List.length_nil, Nat.reduceAdd, Nat.reduceSub, Nat.zero_add, Nat.add_zero, List.replicate, List.cons_append, List.nil_append, List.append_nil, List.getElem?_cons_zero, List.getElem?_cons_succ, List.set_cons_zero, List.set_cons_succ, List.getElem?_nil, Option.map_some, Option.map_none, Option.bind_some, if_true, if_false, ite_true, ite_false, eq_self_iff_true, and_self, and_true, true_and, decide_true, decide_false, Bool.false_eq_true, Bool.not_true, Bool.not_false, sizeLine, Nat.reducePow, Nat.reduceLeDiff, Nat.zero_le, pow_7, pow_18, pow_40, isiT_lt (f := getV 0) (e := [some (.d x), none]) (M := M) (M1 := M) (x := x) rfl hd, hs, hlc]
      rw [take_all (by simp)]
def oD : Option Int → PyData
  | none => .none
  | some i => .int i
abbrev Wi := Option Int × Option Int
def wD (p : Wi) : PyData := .tuple [oD p.1, oD p.2]
def wL (p : Wi) : PyData := .list [oD p.1, oD p.2]
def metO (o : Option Int) (i : Int) : Bool := match o with
  | none => true
  | some j => j == i
def met (os : List (Option Int)) (is : List Int) : Bool := (os.zip is).all fun p => metO p.1 p.2
def metW (ss : List Nat) (ps : List Int) (W : List Wi) : Bool := met (W.map (·.1)) (castI ss) && met (W.map (·.2)) ps
theorem wish_soft (W : List Wi) (hl : W.length ≤ 1000) (M : Mem) : C.m_lists 6 [.d (.tuple (W.map wD))] M = .ok (.d (.list (W.map wL))) M := by
  refine lists_n 5 _ _ M (.inr ⟨_, fun z => match z with
    | .tuple xs => .list xs
    | z => z, .inr rfl, ?_, by simp; omega, fun z hz => ?_⟩)
  · rw [List.map_map]; rfl
  · obtain ⟨p, _, rfl⟩ := List.mem_map.mp hz
    have lf : ∀ o, Lf (oD o) := fun o => by cases o; exact .inr rfl; exact .inl ⟨_, rfl⟩
    refine .inr ⟨_, id, .inr rfl, by rw [List.map_id]; rfl, by simp, fun y hy => ?_⟩
    simp only [List.mem_cons, List.not_mem_nil, or_false] at hy
    rcases hy with rfl | rfl
    · exact .inl ⟨lf _, rfl⟩
    · exact .inl ⟨lf _, rfl⟩
theorem all_bools (bs : List Bool) (M : Mem) : allV [.d (.list (bs.map PyData.bool))] M = .ok (.d (.bool (bs.all id))) M := by
  have h : ∀ bs : List Bool, blsOf (bs.map PyData.bool) = some bs := by
    intro bs
    induction bs with
    | nil => rfl
    | cons b bs ih =>
      rw [List.map_cons]
      unfold blsOf
      rw [ih]
      rfl
  show (match (rdOf M (.d (.list (bs.map PyData.bool)))).bind blsOf with
    | some bs => Res.ok (Vl.d (.bool (bs.all id))) M
    | none => .st) = _
  rw [show (rdOf M (.d (.list (bs.map PyData.bool)))).bind blsOf = some bs from h bs]
theorem are_met_ok {os : List (Option Int)} {is : List Int} {y : PyData} {M : Mem} (hy : walkOf (.d y) = some (intsD is)) (h1 : os.length ≤ 1000) : m_are_met [.d (.list (os.map oD)), .d y] M = .ok (.d (.bool (met os is))) M := by
  have hsz : sizeLine = 2 ^ 24 := rfl
  have hlc : lcE [2, 3] (zipI (getV 0) (getV 1)) (tupT 2 (consT (setT 2) (consT (setT 3) nilT))) (fun _ M => .ok true M) (orE (op2 isV (getV 2) (cst (.d .none))) (op2 eqV (getV 2) (getV 3))) [some (.d (.list (os.map oD))), some (.d y), none, none] M = .ok (((os.zip is).map fun p => metO p.1 p.2).map PyData.bool) M := by
    rw [lcE_at (zipI_a (x := .d (.list (os.map oD))) (y := .d y) (M1 := M) (M2 := M) (p := (os.map oD, intsD is)) (by simp only [defM, startE, seqS_a, setS_a, bindS_ok, bindS_er, then_nx, then_rt, then_er, ifS_a, ifK_t, ifK_f, retS_a, dropS_a, asgS_a, asK_a, goG_ok, subT_a, nopS_a, getV_0, getV_s, cst_a, op2_a, o2a_ok, o2b_ok, opT_a, oTa_ok, oTb_ok, consA_a, cAa_ok, cAb_ok, nilA_a, callF_a, cFa_ok, callE_a, cEa_ok, newE_a, nwa_ok, datE_a, dta_ok, dispE_a, tupE_a, tpa_ok, asDs_a, datas, bind_ok, pur_ok, bool_b, leave_d, leave_nx, leave_er, ifE_a, ifa_t, ifa_f, notT_a, nta_ok, andT_a, ana_t, ana_f, orT_a, ora_t, ora_f, tstE_a, tsa_b, andE_a, aEa_t, aEa_f, orE_a, oEa_t, oEa_f, notE_a, nEa_ok, add_ii, sub_ii, gt_ii, lt_ii, ge_ii, le_ii, setT_a, consT_a, cTa_ok, nilT_a, tupT_a, seqT_t, seqT_l, forS_a, List.map_cons, List.map_nil, List.length_cons, List.length_nil, Nat.reduceAdd, Nat.reduceSub, Nat.zero_add, Nat.add_zero, List.replicate, List.cons_append, List.nil_append, List.append_nil, List.getElem?_cons_zero, List.getElem?_cons_succ, List.set_cons_zero, List.set_cons_succ, List.getElem?_nil, Option.map_some, Option.map_none, Option.bind_some, if_true, if_false, ite_true, ite_false, eq_self_iff_true, and_self, and_true, true_and, decide_true, decide_false, Bool.false_eq_true, Bool.not_true, Bool.not_false, sizeLine, Nat.reducePow, Nat.reduceLeDiff, Nat.zero_le, pow_7, pow_18, pow_40]) (by simp only [defM, startE, seqS_a, setS_a, bindS_ok, bindS_er, then_nx, then_rt, then_er, ifS_a, ifK_t, ifK_f, retS_a, dropS_a, asgS_a, asK_a, goG_ok, subT_a, nopS_a, getV_0, getV_s, cst_a, op2_a, o2a_ok, o2b_ok, opT_a, oTa_ok, oTb_ok, consA_a, cAa_ok, cAb_ok, nilA_a, callF_a, cFa_ok, callE_a, cEa_ok, newE_a, nwa_ok, datE_a, dta_ok, dispE_a, tupE_a, tpa_ok, asDs_a, datas, bind_ok, pur_ok, bool_b, leave_d, leave_nx, leave_er, ifE_a, ifa_t, ifa_f, notT_a, nta_ok, andT_a, ana_t, ana_f, orT_a, ora_t, ora_f, tstE_a, tsa_b, andE_a, aEa_t, aEa_f, orE_a, oEa_t, oEa_f, notE_a, nEa_ok, add_ii, sub_ii, gt_ii, lt_ii, ge_ii, le_ii, setT_a, consT_a, cTa_ok, nilT_a, tupT_a, seqT_t, seqT_l, forS_a, List.map_cons, List.map_nil, List.length_cons, List.length_nil, Nat.reduceAdd, Nat.reduceSub, Nat.zero_add, Nat.add_zero, List.replicate, List.cons_append, List.nil_append, List.append_nil, List.getElem?_cons_zero, List.getElem?_cons_succ, List.set_cons_zero, List.set_cons_succ, List.getElem?_nil, Option.map_some, Option.map_none, Option.bind_some, if_true, if_false, ite_true, ite_false, eq_self_iff_true, and_self, and_true, true_and, decide_true, decide_false, Bool.false_eq_true, Bool.not_true, Bool.not_false, sizeLine, Nat.reducePow, Nat.reduceLeDiff, Nat.zero_le, pow_7, pow_18, pow_40]) (by unfold zipOf; rw [hy]; rfl))]
    have e : zipD (os.map oD) (intsD is) = (os.zip is).map fun p => .tuple [oD p.1, .int p.2] := by
      unfold zipD intsD
      rw [List.zip_map, List.map_map]
      rfl
    have := lcL_map (γ := tupT 2 (consT (setT 2) (consT (setT 3) nilT))) (t := fun _ M => .ok true M) (h := orE (op2 isV (getV 2) (cst (.d .none))) (op2 eqV (getV 2) (getV 3))) (ew := ewipe [some (.d (.list (os.map oD))), some (.d y), none, none] [2, 3]) (M := M) (fun z => match z with
      | .tuple [.none, .int _] => .bool true
      | .tuple [.int j, .int i] => .bool (j == i)
      | z => z) (zipD (os.map oD) (intsD is)) [] (by rw [zipD_len, hsz]; simp; omega) (fun z hz => by
      rw [e] at hz
      obtain ⟨p, _, rfl⟩ := List.mem_map.mp hz
      refine ⟨[some (.d (.list (os.map oD))), some (.d y), some (.d (oD p.1)), some (.d (.int p.2))], by simp only [ewipe]; simp only [defM, startE, seqS_a, setS_a, bindS_ok, bindS_er, then_nx, then_rt, then_er, ifS_a, ifK_t, ifK_f, retS_a, dropS_a, asgS_a, asK_a, goG_ok, subT_a, nopS_a, getV_0, getV_s, cst_a, op2_a, o2a_ok, o2b_ok, opT_a, oTa_ok, oTb_ok, consA_a, cAa_ok, cAb_ok, nilA_a, callF_a, cFa_ok, callE_a, cEa_ok, newE_a, nwa_ok, datE_a, dta_ok, dispE_a, tupE_a, tpa_ok, asDs_a, datas, bind_ok, pur_ok, bool_b, leave_d, leave_nx, leave_er, ifE_a, ifa_t, ifa_f, notT_a, nta_ok, andT_a, ana_t, ana_f, orT_a, ora_t, ora_f, tstE_a, tsa_b, andE_a, aEa_t, aEa_f, orE_a, oEa_t, oEa_f, notE_a, nEa_ok, add_ii, sub_ii, gt_ii, lt_ii, ge_ii, le_ii, setT_a, consT_a, cTa_ok, nilT_a, tupT_a, seqT_t, seqT_l, forS_a, List.map_cons, List.map_nil, List.length_cons, List.length_nil, Nat.reduceAdd, Nat.reduceSub, Nat.zero_add, Nat.add_zero, List.replicate, List.cons_append, List.nil_append, List.append_nil, List.getElem?_cons_zero, List.getElem?_cons_succ, List.set_cons_zero, List.set_cons_succ, List.getElem?_nil, Option.map_some, Option.map_none, Option.bind_some, if_true, if_false, ite_true, ite_false, eq_self_iff_true, and_self, and_true, true_and, decide_true, decide_false, Bool.false_eq_true, Bool.not_true, Bool.not_false, sizeLine, Nat.reducePow, Nat.reduceLeDiff, Nat.zero_le, pow_7, pow_18, pow_40], rfl, ?_⟩
      obtain ⟨o, i⟩ := p
      cases o with
      | none => simp only [defM, startE, seqS_a, setS_a, bindS_ok, bindS_er, then_nx, then_rt, then_er, ifS_a, ifK_t, ifK_f, retS_a, dropS_a, asgS_a, asK_a, goG_ok, subT_a, nopS_a, getV_0, getV_s, cst_a, op2_a, o2a_ok, o2b_ok, opT_a, oTa_ok, oTb_ok, consA_a, cAa_ok, cAb_ok, nilA_a, callF_a, cFa_ok, callE_a, cEa_ok, newE_a, nwa_ok, datE_a, dta_ok, dispE_a, tupE_a, tpa_ok, asDs_a, datas, bind_ok, pur_ok, bool_b, leave_d, leave_nx, leave_er, ifE_a, ifa_t, ifa_f, notT_a, nta_ok, andT_a, ana_t, ana_f, orT_a, ora_t, ora_f, tstE_a, tsa_b, andE_a, aEa_t, aEa_f, orE_a, oEa_t, oEa_f, notE_a, nEa_ok, add_ii, sub_ii, gt_ii, lt_ii, ge_ii, le_ii, setT_a, consT_a, cTa_ok, nilT_a, tupT_a, seqT_t, seqT_l, forS_a, List.map_cons, List.map_nil, List.length_cons, List.length_nil, Nat.reduceAdd, Nat.reduceSub, Nat.zero_add, Nat.add_zero, List.replicate, List.cons_append, List.nil_append, List.append_nil, List.getElem?_cons_zero, List.getElem?_cons_succ, List.set_cons_zero, List.set_cons_succ, List.getElem?_nil, Option.map_some, Option.map_none, Option.bind_some, if_true, if_false, ite_true, ite_false, eq_self_iff_true, and_self, and_true, true_and, decide_true, decide_false, Bool.false_eq_true, Bool.not_true, Bool.not_false, sizeLine, Nat.reducePow, Nat.reduceLeDiff, Nat.zero_le, pow_7, pow_18, pow_40, orE_a, oD, is_nn, oEa_t]
      | some j => simp only [defM, startE, seqS_a, setS_a, bindS_ok, bindS_er, then_nx, then_rt, then_er, ifS_a, ifK_t, ifK_f, retS_a, dropS_a, asgS_a, asK_a, goG_ok, subT_a, nopS_a, getV_0, getV_s, cst_a, op2_a, o2a_ok, o2b_ok, opT_a, oTa_ok, oTb_ok, consA_a, cAa_ok, cAb_ok, nilA_a, callF_a, cFa_ok, callE_a, cEa_ok, newE_a, nwa_ok, datE_a, dta_ok, dispE_a, tupE_a, tpa_ok, asDs_a, datas, bind_ok, pur_ok, bool_b, leave_d, leave_nx, leave_er, ifE_a, ifa_t, ifa_f, notT_a, nta_ok, andT_a, ana_t, ana_f, orT_a, ora_t, ora_f, tstE_a, tsa_b, andE_a, aEa_t, aEa_f, orE_a, oEa_t, oEa_f, notE_a, nEa_ok, add_ii, sub_ii, gt_ii, lt_ii, ge_ii, le_ii, setT_a, consT_a, cTa_ok, nilT_a, tupT_a, seqT_t, seqT_l, forS_a, List.map_cons, List.map_nil, List.length_cons, List.length_nil, Nat.reduceAdd, Nat.reduceSub, Nat.zero_add, Nat.add_zero, List.replicate, List.cons_append, List.nil_append, List.append_nil, List.getElem?_cons_zero, List.getElem?_cons_succ, List.set_cons_zero, List.set_cons_succ, List.getElem?_nil, Option.map_some, Option.map_none, Option.bind_some, if_true, if_false, ite_true, ite_false, eq_self_iff_true, and_self, and_true, true_and, decide_true, decide_false, Bool.false_eq_true, Bool.not_true, Bool.not_false, sizeLine, Nat.reducePow, Nat.reduceLeDiff, Nat.zero_le, pow_7, pow_18, pow_40, orE_a, oD, is_n, oEa_f, eq_ii])
    rw [this, List.nil_append, e, List.map_map, List.map_map]
    congr 1
    refine List.map_congr_left fun p _ => ?_
    obtain ⟨o, i⟩ := p
    cases o <;> rfl
  unfold m_are_met g_are_met
  simp only [defM, startE, seqS_a, setS_a, bindS_ok, bindS_er, then_nx, then_rt, then_er, ifS_a, ifK_t, ifK_f, retS_a, dropS_a, asgS_a, asK_a, goG_ok, subT_a, nopS_a, getV_0, getV_s, cst_a, op2_a, o2a_ok, o2b_ok, opT_a, oTa_ok, oTb_ok, consA_a, cAa_ok, cAb_ok, nilA_a, callF_a, cFa_ok, callE_a, cEa_ok, newE_a, nwa_ok, datE_a, dta_ok, dispE_a, tupE_a, tpa_ok, asDs_a, datas, bind_ok, pur_ok, bool_b, leave_d, leave_nx, leave_er, ifE_a, ifa_t, ifa_f, notT_a, nta_ok, andT_a, ana_t, ana_f, orT_a, ora_t, ora_f, tstE_a, tsa_b, andE_a, aEa_t, aEa_f, orE_a, oEa_t, oEa_f, notE_a, nEa_ok, add_ii, sub_ii, gt_ii, lt_ii, ge_ii, le_ii, setT_a, consT_a, cTa_ok, nilT_a, tupT_a, seqT_t, seqT_l, forS_a, List.map_cons, List.map_nil, List.length_cons, List.length_nil, Nat.reduceAdd, Nat.reduceSub, Nat.zero_add, Nat.add_zero, List.replicate, List.cons_append, List.nil_append, List.append_nil, List.getElem?_cons_zero, List.getElem?_cons_succ, List.set_cons_zero, List.set_cons_succ, List.getElem?_nil, Option.map_some, Option.map_none, Option.bind_some, if_true, if_false, ite_true, ite_false, eq_self_iff_true, and_self, and_true, true_and, decide_true, decide_false, Bool.false_eq_true, Bool.not_true, Bool.not_false, sizeLine, Nat.reducePow, Nat.reduceLeDiff, Nat.zero_le, pow_7, pow_18, pow_40, hlc, all_bools]
  rw [take_all (by simp)]
  unfold met
  rw [List.all_map]
  rfl
end K34
end DL
namespace DL
namespace K34
open PySem PySem.Spec L2 DL DL.B
open DL.C (Bx getM Bx.mono)
theorem check_ok {n : Nat} {x y s : PyData} {M : Mem} (h1 : lenV [.d y] M = .ok (.d (nD n)) M) (h2 : ixV (.d x) (.d (.int 0)) M = .ok (.d s) M) (h3 : lenV [.d s] M = .ok (.d (nD n)) M) : m_check_wish [.d x, .d y] M = .ok (.d .none) M := by
  unfold m_check_wish g_check_wish
  simp only [defM, startE, seqS_a, setS_a, bindS_ok, bindS_er, then_nx, then_rt, then_er, ifS_a, ifK_t, ifK_f, retS_a, dropS_a, asgS_a, asK_a, goG_ok, subT_a, nopS_a, getV_0, getV_s, cst_a, op2_a, o2a_ok, o2b_ok, opT_a, oTa_ok, oTb_ok, consA_a, cAa_ok, cAb_ok, nilA_a, callF_a, cFa_ok, callE_a, cEa_ok, newE_a, nwa_ok, datE_a, dta_ok, dispE_a, tupE_a, tpa_ok, asDs_a, datas, bind_ok, pur_ok, bool_b, leave_d, leave_nx, leave_er, ifE_a, ifa_t, ifa_f, notT_a, nta_ok, andT_a, ana_t, ana_f, orT_a, ora_t, ora_f, tstE_a, tsa_b, andE_a, aEa_t, aEa_f, orE_a, oEa_t, oEa_f, notE_a, nEa_ok, add_ii, sub_ii, gt_ii, lt_ii, ge_ii, le_ii, setT_a, consT_a, cTa_ok, nilT_a, tupT_a, seqT_t, seqT_l, forS_a, List.map_cons, List.map_nil, List.length_cons, List.length_nil, Nat.reduceAdd, Nat.reduceSub, Nat.zero_add, Nat.add_zero, List.replicate, List.cons_append, List.nil_append, List.append_nil, List.getElem?_cons_zero, List.getElem?_cons_succ, List.set_cons_zero, List.set_cons_succ, List.getElem?_nil, Option.map_some, Option.map_none, Option.bind_some, if_true, if_false, ite_true, ite_false, eq_self_iff_true, and_self, and_true, true_and, decide_true, decide_false, Bool.false_eq_true, Bool.not_true, Bool.not_false, sizeLine, Nat.reducePow, Nat.reduceLeDiff, Nat.zero_le, pow_7, pow_18, pow_40, h1, h2, h3, ne_ii, beq_self_eq_true, Bool.not_true]
  rw [take_all (by simp)]
section
variable {n : Nat} {ss : List Nat} {ps : List Int} {W : List Wi}
theorem meets_ok {x y : PyData} {G : Wi → PyData} {M : Mem} (hG : G = wD ∨ G = wL) (hs : ss.length = n) (hp : ps.length = n) (hW : W.length = n) (hn : n ≤ 1000) (hx : x = stD ss ps ∨ x = softD ss ps) (hy : walkOf (.d y) = some (W.map G)) (hl : lenV [.d y] M = .ok (.d (nD n)) M) :
    m_meets [.d x, .d y] M = .ok (.d (.bool (metW ss ps W))) M := by
  have hsz : sizeLine = 2 ^ 24 := rfl
  obtain ⟨a, b, ha, hb, hix, hsq, hla⟩ : ∃ a b : PyData, walkOf (.d a) = some (ss.map nD) ∧ walkOf (.d b) = some (intsD ps) ∧ (∀ N : Mem, ixV (.d x) (.d (.int 0)) N = .ok (.d a) N) ∧ (∀ (δ : Tgs) (e : Env) (N : Mem), seqT 2 δ (.d x) e N = δ [a, b] e N) ∧ lenV [.d a] M = .ok (.d (nD n)) M := by
    rcases hx with rfl | rfl
    · exact ⟨.tuple (ss.map nD), .tuple (intsD ps), rfl, rfl, fun _ => rfl, fun δ e N => seqT_t rfl, by rw [len_t, List.length_map, hs]⟩
    · exact ⟨.list (ss.map nD), .list (intsD ps), rfl, rfl, fun _ => rfl, fun δ e N => seqT_l rfl, by rw [len_l, List.length_map, hs]⟩
  have hck : m_check_wish [.d x, .d y] M = .ok (.d .none) M := check_ok hl (hix M) hla
  have l1 : ∀ v2 v3 : Option Vl, lcE [6, 7] (seqI (getV 1)) (seqT 2 (consT (setT 6) (consT (setT 7) nilT))) (fun _ M => .ok true M) (getV 6) [some (.d x), some (.d y), v2, v3, none, none, none, none, none] M = .ok ((W.map (·.1)).map oD) M := fun v2 v3 => by
    rw [lcE_at (seqI_a (x := .d y) (M1 := M) (by simp only [defM, startE, seqS_a, setS_a, bindS_ok, bindS_er, then_nx, then_rt, then_er, ifS_a, ifK_t, ifK_f, retS_a, dropS_a, asgS_a, asK_a, goG_ok, subT_a, nopS_a, getV_0, getV_s, cst_a, op2_a, o2a_ok, o2b_ok, opT_a, oTa_ok, oTb_ok, consA_a, cAa_ok, cAb_ok, nilA_a, callF_a, cFa_ok, callE_a, cEa_ok, newE_a, nwa_ok, datE_a, dta_ok, dispE_a, tupE_a, tpa_ok, asDs_a, datas, bind_ok, pur_ok, bool_b, leave_d, leave_nx, leave_er, ifE_a, ifa_t, ifa_f, notT_a, nta_ok, andT_a, ana_t, ana_f, orT_a, ora_t, ora_f, tstE_a, tsa_b, andE_a, aEa_t, aEa_f, orE_a, oEa_t, oEa_f, notE_a, nEa_ok, add_ii, sub_ii, gt_ii, lt_ii, ge_ii, le_ii, setT_a, consT_a, cTa_ok, nilT_a, tupT_a, seqT_t, seqT_l, forS_a, List.map_cons, List.map_nil, List.length_cons, List.length_nil, Nat.reduceAdd, Nat.reduceSub, Nat.zero_add, Nat.add_zero, List.replicate, List.cons_append, List.nil_append, List.append_nil, List.getElem?_cons_zero, List.getElem?_cons_succ, List.set_cons_zero, List.set_cons_succ, List.getElem?_nil, Option.map_some, Option.map_none, Option.bind_some, if_true, if_false, ite_true, ite_false, eq_self_iff_true, and_self, and_true, true_and, decide_true, decide_false, Bool.false_eq_true, Bool.not_true, Bool.not_false, sizeLine, Nat.reducePow, Nat.reduceLeDiff, Nat.zero_le, pow_7, pow_18, pow_40]) hy)]
    have := lcL_map (γ := seqT 2 (consT (setT 6) (consT (setT 7) nilT))) (t := fun _ M => .ok true M) (h := getV 6) (ew := ewipe [some (.d x), some (.d y), v2, v3, none, none, none, none, none] [6, 7]) (M := M) (fun z => match z with
      | .tuple [a, _] => a
      | .list [a, _] => a
      | z => z) (W.map G) [] (by rw [hsz]; simp; omega) (fun z hz => by
      obtain ⟨p, _, rfl⟩ := List.mem_map.mp hz
      refine ⟨[some (.d x), some (.d y), v2, v3, none, none, some (.d (oD p.1)), some (.d (oD p.2)), none], ?_, rfl, ?_⟩
      · simp only [ewipe]
        rcases hG with rfl | rfl
        · unfold wD; simp only [defM, startE, seqS_a, setS_a, bindS_ok, bindS_er, then_nx, then_rt, then_er, ifS_a, ifK_t, ifK_f, retS_a, dropS_a, asgS_a, asK_a, goG_ok, subT_a, nopS_a, getV_0, getV_s, cst_a, op2_a, o2a_ok, o2b_ok, opT_a, oTa_ok, oTb_ok, consA_a, cAa_ok, cAb_ok, nilA_a, callF_a, cFa_ok, callE_a, cEa_ok, newE_a, nwa_ok, datE_a, dta_ok, dispE_a, tupE_a, tpa_ok, asDs_a, datas, bind_ok, pur_ok, bool_b, leave_d, leave_nx, leave_er, ifE_a, ifa_t, ifa_f, notT_a, nta_ok, andT_a, ana_t, ana_f, orT_a, ora_t, ora_f, tstE_a, tsa_b, andE_a, aEa_t, aEa_f, orE_a, oEa_t, oEa_f, notE_a, nEa_ok, add_ii, sub_ii, gt_ii, lt_ii, ge_ii, le_ii, setT_a, consT_a, cTa_ok, nilT_a, tupT_a, seqT_t, seqT_l, forS_a, List.map_cons, List.map_nil, List.length_cons, List.length_nil, Nat.reduceAdd, Nat.reduceSub, Nat.zero_add, Nat.add_zero, List.replicate, List.cons_append, List.nil_append, List.append_nil, List.getElem?_cons_zero, List.getElem?_cons_succ, List.set_cons_zero, List.set_cons_succ, List.getElem?_nil, Option.map_some, Option.map_none, Option.bind_some, if_true, if_false, ite_true, ite_false, eq_self_iff_true, and_self, and_true, true_and, decide_true, decide_false, Bool.false_eq_true, Bool.not_true, Bool.not_false, sizeLine, Nat.reducePow, Nat.reduceLeDiff, Nat.zero_le, pow_7, pow_18, pow_40]
        · unfold wL; simp only [defM, startE, seqS_a, setS_a, bindS_ok, bindS_er, then_nx, then_rt, then_er, ifS_a, ifK_t, ifK_f, retS_a, dropS_a, asgS_a, asK_a, goG_ok, subT_a, nopS_a, getV_0, getV_s, cst_a, op2_a, o2a_ok, o2b_ok, opT_a, oTa_ok, oTb_ok, consA_a, cAa_ok, cAb_ok, nilA_a, callF_a, cFa_ok, callE_a, cEa_ok, newE_a, nwa_ok, datE_a, dta_ok, dispE_a, tupE_a, tpa_ok, asDs_a, datas, bind_ok, pur_ok, bool_b, leave_d, leave_nx, leave_er, ifE_a, ifa_t, ifa_f, notT_a, nta_ok, andT_a, ana_t, ana_f, orT_a, ora_t, ora_f, tstE_a, tsa_b, andE_a, aEa_t, aEa_f, orE_a, oEa_t, oEa_f, notE_a, nEa_ok, add_ii, sub_ii, gt_ii, lt_ii, ge_ii, le_ii, setT_a, consT_a, cTa_ok, nilT_a, tupT_a, seqT_t, seqT_l, forS_a, List.map_cons, List.map_nil, List.length_cons, List.length_nil, Nat.reduceAdd, Nat.reduceSub, Nat.zero_add, Nat.add_zero, List.replicate, List.cons_append, List.nil_append, List.append_nil, List.getElem?_cons_zero, List.getElem?_cons_succ, List.set_cons_zero, List.set_cons_succ, List.getElem?_nil, Option.map_some, Option.map_none, Option.bind_some, if_true, if_false, ite_true, ite_false, eq_self_iff_true, and_self, and_true, true_and, decide_true, decide_false, Bool.false_eq_true, Bool.not_true, Bool.not_false, sizeLine, Nat.reducePow, Nat.reduceLeDiff, Nat.zero_le, pow_7, pow_18, pow_40]
      · rcases hG with rfl | rfl
        · unfold wD; simp only [defM, startE, seqS_a, setS_a, bindS_ok, bindS_er, then_nx, then_rt, then_er, ifS_a, ifK_t, ifK_f, retS_a, dropS_a, asgS_a, asK_a, goG_ok, subT_a, nopS_a, getV_0, getV_s, cst_a, op2_a, o2a_ok, o2b_ok, opT_a, oTa_ok, oTb_ok, consA_a, cAa_ok, cAb_ok, nilA_a, callF_a, cFa_ok, callE_a, cEa_ok, newE_a, nwa_ok, datE_a, dta_ok, dispE_a, tupE_a, tpa_ok, asDs_a, datas, bind_ok, pur_ok, bool_b, leave_d, leave_nx, leave_er, ifE_a, ifa_t, ifa_f, notT_a, nta_ok, andT_a, ana_t, ana_f, orT_a, ora_t, ora_f, tstE_a, tsa_b, andE_a, aEa_t, aEa_f, orE_a, oEa_t, oEa_f, notE_a, nEa_ok, add_ii, sub_ii, gt_ii, lt_ii, ge_ii, le_ii, setT_a, consT_a, cTa_ok, nilT_a, tupT_a, seqT_t, seqT_l, forS_a, List.map_cons, List.map_nil, List.length_cons, List.length_nil, Nat.reduceAdd, Nat.reduceSub, Nat.zero_add, Nat.add_zero, List.replicate, List.cons_append, List.nil_append, List.append_nil, List.getElem?_cons_zero, List.getElem?_cons_succ, List.set_cons_zero, List.set_cons_succ, List.getElem?_nil, Option.map_some, Option.map_none, Option.bind_some, if_true, if_false, ite_true, ite_false, eq_self_iff_true, and_self, and_true, true_and, decide_true, decide_false, Bool.false_eq_true, Bool.not_true, Bool.not_false, sizeLine, Nat.reducePow, Nat.reduceLeDiff, Nat.zero_le, pow_7, pow_18, pow_40]
        · unfold wL; simp only [defM, startE, seqS_a, setS_a, bindS_ok, bindS_er, then_nx, then_rt, then_er, ifS_a, ifK_t, ifK_f, retS_a, dropS_a, asgS_a, asK_a, goG_ok, subT_a, nopS_a, getV_0, getV_s, cst_a, op2_a, o2a_ok, o2b_ok, opT_a, oTa_ok, oTb_ok, consA_a, cAa_ok, cAb_ok, nilA_a, callF_a, cFa_ok, callE_a, cEa_ok, newE_a, nwa_ok, datE_a, dta_ok, dispE_a, tupE_a, tpa_ok, asDs_a, datas, bind_ok, pur_ok, bool_b, leave_d, leave_nx, leave_er, ifE_a, ifa_t, ifa_f, notT_a, nta_ok, andT_a, ana_t, ana_f, orT_a, ora_t, ora_f, tstE_a, tsa_b, andE_a, aEa_t, aEa_f, orE_a, oEa_t, oEa_f, notE_a, nEa_ok, add_ii, sub_ii, gt_ii, lt_ii, ge_ii, le_ii, setT_a, consT_a, cTa_ok, nilT_a, tupT_a, seqT_t, seqT_l, forS_a, List.map_cons, List.map_nil, List.length_cons, List.length_nil, Nat.reduceAdd, Nat.reduceSub, Nat.zero_add, Nat.add_zero, List.replicate, List.cons_append, List.nil_append, List.append_nil, List.getElem?_cons_zero, List.getElem?_cons_succ, List.set_cons_zero, List.set_cons_succ, List.getElem?_nil, Option.map_some, Option.map_none, Option.bind_some, if_true, if_false, ite_true, ite_false, eq_self_iff_true, and_self, and_true, true_and, decide_true, decide_false, Bool.false_eq_true, Bool.not_true, Bool.not_false, sizeLine, Nat.reducePow, Nat.reduceLeDiff, Nat.zero_le, pow_7, pow_18, pow_40])
    rw [this, List.nil_append, List.map_map, List.map_map]
    congr 1
    refine List.map_congr_left fun p _ => ?_
    rcases hG with rfl | rfl <;> rfl
  have l2 : ∀ v2 v3 v4 : Option Vl, lcE [7, 8] (seqI (getV 1)) (seqT 2 (consT (setT 7) (consT (setT 8) nilT))) (fun _ M => .ok true M) (getV 8) [some (.d x), some (.d y), v2, v3, v4, none, none, none, none] M = .ok ((W.map (·.2)).map oD) M := fun v2 v3 v4 => by
    rw [lcE_at (seqI_a (x := .d y) (M1 := M) (by simp only [defM, startE, seqS_a, setS_a, bindS_ok, bindS_er, then_nx, then_rt, then_er, ifS_a, ifK_t, ifK_f, retS_a, dropS_a, asgS_a, asK_a, goG_ok, subT_a, nopS_a, getV_0, getV_s, cst_a, op2_a, o2a_ok, o2b_ok, opT_a, oTa_ok, oTb_ok, consA_a, cAa_ok, cAb_ok, nilA_a, callF_a, cFa_ok, callE_a, cEa_ok, newE_a, nwa_ok, datE_a, dta_ok, dispE_a, tupE_a, tpa_ok, asDs_a, datas, bind_ok, pur_ok, bool_b, leave_d, leave_nx, leave_er, ifE_a, ifa_t, ifa_f, notT_a, nta_ok, andT_a, ana_t, ana_f, orT_a, ora_t, ora_f, tstE_a, tsa_b, andE_a, aEa_t, aEa_f, orE_a, oEa_t, oEa_f, notE_a, nEa_ok, add_ii, sub_ii, gt_ii, lt_ii, ge_ii, le_ii, setT_a, consT_a, cTa_ok, nilT_a, tupT_a, seqT_t, seqT_l, forS_a, List.map_cons, List.map_nil, List.length_cons, List.length_nil, Nat.reduceAdd, Nat.reduceSub, Nat.zero_add, Nat.add_zero, List.replicate, List.cons_append, List.nil_append, List.append_nil, List.getElem?_cons_zero, List.getElem?_cons_succ, List.set_cons_zero, List.set_cons_succ, List.getElem?_nil, Option.map_some, Option.map_none, Option.bind_some, if_true, if_false, ite_true, ite_false, eq_self_iff_true, and_self, and_true, true_and, decide_true, decide_false, Bool.false_eq_true, Bool.not_true, Bool.not_false, sizeLine, Nat.reducePow, Nat.reduceLeDiff, Nat.zero_le, pow_7, pow_18, pow_40]) hy)]
    have := lcL_map (γ := seqT 2 (consT (setT 7) (consT (setT 8) nilT))) (t := fun _ M => .ok true M) (h := getV 8) (ew := ewipe [some (.d x), some (.d y), v2, v3, v4, none, none, none, none] [7, 8]) (M := M) (fun z => match z with
      | .tuple [_, a] => a
      | .list [_, a] => a
      | z => z) (W.map G) [] (by rw [hsz]; simp; omega) (fun z hz => by
      obtain ⟨p, _, rfl⟩ := List.mem_map.mp hz
      refine ⟨[some (.d x), some (.d y), v2, v3, v4, none, none, some (.d (oD p.1)), some (.d (oD p.2))], ?_, rfl, ?_⟩
      · simp only [ewipe]
        rcases hG with rfl | rfl
        · unfold wD; simp only [defM, startE, seqS_a, setS_a, bindS_ok, bindS_er, then_nx, then_rt, then_er, ifS_a, ifK_t, ifK_f, retS_a, dropS_a, asgS_a, asK_a, goG_ok, subT_a, nopS_a, getV_0, getV_s, cst_a, op2_a, o2a_ok, o2b_ok, opT_a, oTa_ok, oTb_ok, consA_a, cAa_ok, cAb_ok, nilA_a, callF_a, cFa_ok, callE_a, cEa_ok, newE_a, nwa_ok, datE_a, dta_ok, dispE_a, tupE_a, tpa_ok, asDs_a, datas, bind_ok, pur_ok, bool_b, leave_d, leave_nx, leave_er, ifE_a, ifa_t, ifa_f, notT_a, nta_ok, andT_a, ana_t, ana_f, orT_a, ora_t, ora_f, tstE_a, tsa_b, andE_a, aEa_t, aEa_f, orE_a, oEa_t, oEa_f, notE_a, nEa_ok, add_ii, sub_ii, gt_ii, lt_ii, ge_ii, le_ii, setT_a, consT_a, cTa_ok, nilT_a, tupT_a, seqT_t, seqT_l, forS_a, List.map_cons, List.map_nil, List.length_cons, List.length_nil, Nat.reduceAdd, Nat.reduceSub, Nat.zero_add, Nat.add_zero, List.replicate, List.cons_append, List.nil_append, List.append_nil, List.getElem?_cons_zero, List.getElem?_cons_succ, List.set_cons_zero, List.set_cons_succ, List.getElem?_nil, Option.map_some, Option.map_none, Option.bind_some, if_true, if_false, ite_true, ite_false, eq_self_iff_true, and_self, and_true, true_and, decide_true, decide_false, Bool.false_eq_true, Bool.not_true, Bool.not_false, sizeLine, Nat.reducePow, Nat.reduceLeDiff, Nat.zero_le, pow_7, pow_18, pow_40]
        · unfold wL; simp only [defM, startE, seqS_a, setS_a, bindS_ok, bindS_er, then_nx, then_rt, then_er, ifS_a, ifK_t, ifK_f, retS_a, dropS_a, asgS_a, asK_a, goG_ok, subT_a, nopS_a, getV_0, getV_s, cst_a, op2_a, o2a_ok, o2b_ok, opT_a, oTa_ok, oTb_ok, consA_a, cAa_ok, cAb_ok, nilA_a, callF_a, cFa_ok, callE_a, cEa_ok, newE_a, nwa_ok, datE_a, dta_ok, dispE_a, tupE_a, tpa_ok, asDs_a, datas, bind_ok, pur_ok, bool_b, leave_d, leave_nx, leave_er, ifE_a, ifa_t, ifa_f, notT_a, nta_ok, andT_a, ana_t, ana_f, orT_a, ora_t, ora_f, tstE_a, tsa_b, andE_a, aEa_t, aEa_f, orE_a, oEa_t, oEa_f, notE_a, nEa_ok, add_ii, sub_ii, gt_ii, lt_ii, ge_ii, le_ii, setT_a, consT_a, cTa_ok, nilT_a, tupT_a, seqT_t, seqT_l, forS_a, List.map_cons, List.map_nil, List.length_cons, List.length_nil, Nat.reduceAdd, Nat.reduceSub, Nat.zero_add, Nat.add_zero, List.replicate, List.cons_append, List.nil_append, List.append_nil, List.getElem?_cons_zero, List.getElem?_cons_succ, List.set_cons_zero, List.set_cons_succ, List.getElem?_nil, Option.map_some, Option.map_none, Option.bind_some, if_true, if_false, ite_true, ite_false, eq_self_iff_true, and_self, and_true, true_and, decide_true, decide_false, Bool.false_eq_true, Bool.not_true, Bool.not_false, sizeLine, Nat.reducePow, Nat.reduceLeDiff, Nat.zero_le, pow_7, pow_18, pow_40]
      · rcases hG with rfl | rfl
        · unfold wD; simp only [defM, startE, seqS_a, setS_a, bindS_ok, bindS_er, then_nx, then_rt, then_er, ifS_a, ifK_t, ifK_f, retS_a, dropS_a, asgS_a, asK_a, goG_ok, subT_a, nopS_a, getV_0, getV_s, cst_a, op2_a, o2a_ok, o2b_ok, opT_a, oTa_ok, oTb_ok, consA_a, cAa_ok, cAb_ok, nilA_a, callF_a, cFa_ok, callE_a, cEa_ok, newE_a, nwa_ok, datE_a, dta_ok, dispE_a, tupE_a, tpa_ok, asDs_a, datas, bind_ok, pur_ok, bool_b, leave_d, leave_nx, leave_er, ifE_a, ifa_t, ifa_f, notT_a, nta_ok, andT_a, ana_t, ana_f, orT_a, ora_t, ora_f, tstE_a, tsa_b, andE_a, aEa_t, aEa_f, orE_a, oEa_t, oEa_f, notE_a, nEa_ok, add_ii, sub_ii, gt_ii, lt_ii, ge_ii, le_ii, setT_a, consT_a, cTa_ok, nilT_a, tupT_a, seqT_t, seqT_l, forS_a, List.map_cons, List.map_nil, List.length_cons, List.length_nil, Nat.reduceAdd, Nat.reduceSub, Nat.zero_add, Nat.add_zero, List.replicate, List.cons_append, List.nil_append, List.append_nil, List.getElem?_cons_zero, List.getElem?_cons_succ, List.set_cons_zero, List.set_cons_succ, List.getElem?_nil, Option.map_some, Option.map_none, Option.bind_some, if_true, if_false, ite_true, ite_false, eq_self_iff_true, and_self, and_true, true_and, decide_true, decide_false, Bool.false_eq_true, Bool.not_true, Bool.not_false, sizeLine, Nat.reducePow, Nat.reduceLeDiff, Nat.zero_le, pow_7, pow_18, pow_40]
        · unfold wL; simp only [defM, startE, seqS_a, setS_a, bindS_ok, bindS_er, then_nx, then_rt, then_er, ifS_a, ifK_t, ifK_f, retS_a, dropS_a, asgS_a, asK_a, goG_ok, subT_a, nopS_a, getV_0, getV_s, cst_a, op2_a, o2a_ok, o2b_ok, opT_a, oTa_ok, oTb_ok, consA_a, cAa_ok, cAb_ok, nilA_a, callF_a, cFa_ok, callE_a, cEa_ok, newE_a, nwa_ok, datE_a, dta_ok, dispE_a, tupE_a, tpa_ok, asDs_a, datas, bind_ok, pur_ok, bool_b, leave_d, leave_nx, leave_er, ifE_a, ifa_t, ifa_f, notT_a, nta_ok, andT_a, ana_t, ana_f, orT_a, ora_t, ora_f, tstE_a, tsa_b, andE_a, aEa_t, aEa_f, orE_a, oEa_t, oEa_f, notE_a, nEa_ok, add_ii, sub_ii, gt_ii, lt_ii, ge_ii, le_ii, setT_a, consT_a, cTa_ok, nilT_a, tupT_a, seqT_t, seqT_l, forS_a, List.map_cons, List.map_nil, List.length_cons, List.length_nil, Nat.reduceAdd, Nat.reduceSub, Nat.zero_add, Nat.add_zero, List.replicate, List.cons_append, List.nil_append, List.append_nil, List.getElem?_cons_zero, List.getElem?_cons_succ, List.set_cons_zero, List.set_cons_succ, List.getElem?_nil, Option.map_some, Option.map_none, Option.bind_some, if_true, if_false, ite_true, ite_false, eq_self_iff_true, and_self, and_true, true_and, decide_true, decide_false, Bool.false_eq_true, Bool.not_true, Bool.not_false, sizeLine, Nat.reducePow, Nat.reduceLeDiff, Nat.zero_le, pow_7, pow_18, pow_40])
    rw [this, List.nil_append, List.map_map, List.map_map]
    congr 1
    refine List.map_congr_left fun p _ => ?_
    rcases hG with rfl | rfl <;> rfl
  have r1 : ∀ N : Mem, m_are_met [.d (.list ((W.map (·.1)).map oD)), .d a] N = .ok (.d (.bool (met (W.map (·.1)) (castI ss)))) N := fun N => are_met_ok (by rw [ha, nats_ints]) (by simp; omega)
  have r2 : ∀ N : Mem, m_are_met [.d (.list ((W.map (·.2)).map oD)), .d b] N = .ok (.d (.bool (met (W.map (·.2)) ps))) N := fun N => are_met_ok hb (by simp; omega)
  unfold metW
  generalize (W.map (·.1)).map oD = A1 at *
  generalize (W.map (·.2)).map oD = A2 at *
  unfold m_meets g_meets
  cases hm : met (W.map (·.1)) (castI ss) with
  | true =>
    rw [hm] at r1
    simp only [defM, startE, seqS_a, setS_a, bindS_ok, bindS_er, then_nx, then_rt, then_er, ifS_a, ifK_t, ifK_f, retS_a, dropS_a, asgS_a, asK_a, goG_ok, subT_a, nopS_a, getV_0, getV_s, cst_a, op2_a, o2a_ok, o2b_ok, opT_a, oTa_ok, oTb_ok, consA_a, cAa_ok, cAb_ok, nilA_a, callF_a, cFa_ok, callE_a, cEa_ok, newE_a, nwa_ok, datE_a, dta_ok, dispE_a, tupE_a, tpa_ok, asDs_a, datas, bind_ok, pur_ok, bool_b, leave_d, leave_nx, leave_er, ifE_a, ifa_t, ifa_f, notT_a, nta_ok, andT_a, ana_t, ana_f, orT_a, ora_t, ora_f, tstE_a, tsa_b, andE_a, aEa_t, aEa_f, orE_a, oEa_t, oEa_f, notE_a, nEa_ok, add_ii, sub_ii, gt_ii, lt_ii, ge_ii, le_ii, setT_a, consT_a, cTa_ok, nilT_a, tupT_a, seqT_t, seqT_l, forS_a, List.map_cons, List.map_nil, List.length_cons, List.length_nil, Nat.reduceAdd, Nat.reduceSub, Nat.zero_add, Nat.add_zero, List.replicate, List.cons_append, List.nil_append, List.append_nil, List.getElem?_cons_zero, List.getElem?_cons_succ, List.set_cons_zero, List.set_cons_succ, List.getElem?_nil, Option.map_some, Option.map_none, Option.bind_some, if_true, if_false, ite_true, ite_false, eq_self_iff_true, and_self, and_true, true_and, decide_true, decide_false, Bool.false_eq_true, Bool.not_true, Bool.not_false, sizeLine, Nat.reducePow, Nat.reduceLeDiff, Nat.zero_le, pow_7, pow_18, pow_40, hck, hsq, l1, l2, andE_a, r1, r2, aEa_t]
    rw [take_all (by simp), Bool.true_and]
  | false =>
    rw [hm] at r1
    simp only [defM, startE, seqS_a, setS_a, bindS_ok, bindS_er, then_nx, then_rt, then_er, ifS_a, ifK_t, ifK_f, retS_a, dropS_a, asgS_a, asK_a, goG_ok, subT_a, nopS_a, getV_0, getV_s, cst_a, op2_a, o2a_ok, o2b_ok, opT_a, oTa_ok, oTb_ok, consA_a, cAa_ok, cAb_ok, nilA_a, callF_a, cFa_ok, callE_a, cEa_ok, newE_a, nwa_ok, datE_a, dta_ok, dispE_a, tupE_a, tpa_ok, asDs_a, datas, bind_ok, pur_ok, bool_b, leave_d, leave_nx, leave_er, ifE_a, ifa_t, ifa_f, notT_a, nta_ok, andT_a, ana_t, ana_f, orT_a, ora_t, ora_f, tstE_a, tsa_b, andE_a, aEa_t, aEa_f, orE_a, oEa_t, oEa_f, notE_a, nEa_ok, add_ii, sub_ii, gt_ii, lt_ii, ge_ii, le_ii, setT_a, consT_a, cTa_ok, nilT_a, tupT_a, seqT_t, seqT_l, forS_a, List.map_cons, List.map_nil, List.length_cons, List.length_nil, Nat.reduceAdd, Nat.reduceSub, Nat.zero_add, Nat.add_zero, List.replicate, List.cons_append, List.nil_append, List.append_nil, List.getElem?_cons_zero, List.getElem?_cons_succ, List.set_cons_zero, List.set_cons_succ, List.getElem?_nil, Option.map_some, Option.map_none, Option.bind_some, if_true, if_false, ite_true, ite_false, eq_self_iff_true, and_self, and_true, true_and, decide_true, decide_false, Bool.false_eq_true, Bool.not_true, Bool.not_false, sizeLine, Nat.reducePow, Nat.reduceLeDiff, Nat.zero_le, pow_7, pow_18, pow_40, hck, hsq, l1, l2, andE_a, r1, r2, aEa_f]
    rw [take_all (by simp), Bool.false_and]
abbrev Tr3 := (Nat × Int) × Wi
def okT (t : Tr3) : Bool := metO t.2.1 t.1.1 && metO t.2.2 t.1.2
def dT (t : Tr3) : PyData := .tuple [.tuple [nD t.1.1, .int t.1.2], wD t.2]
theorem all_two : ∀ (ss : List Nat) (ps : List Int) (W : List Wi), ss.length = W.length → ps.length = W.length → ((ss.zip ps).zip W).all okT = metW ss ps W
  | [], [], [], _, _ => rfl
  | [], _ :: _, [], _, h2 => by simp at h2
  | [], _ :: _, _ :: _, h1, _ => by simp at h1
  | [], [], _ :: _, h1, _ => by simp at h1
  | _ :: _, [], [], h1, _ => by simp at h1
  | _ :: _, [], _ :: _, _, h2 => by simp at h2
  | _ :: _, _ :: _, [], h1, _ => by simp at h1
  | s :: ss, p :: ps, w :: W, h1, h2 => by
    have ih := all_two ss ps W (by simpa using h1) (by simpa using h2)
    unfold metW met at ih ⊢
    simp only [List.zip_cons_cons, List.all_cons, List.map_cons, castI] at ih ⊢
    rw [ih]
    unfold okT
    cases metO w.1 (s : Int) <;> cases metO w.2 p <;> simp
abbrev LB : Sv := (ifS (orT (andT (opT isntV (getV 4) (cst (.d .none))) (opT neV (getV 2) (getV 4))) (andT (opT isntV (getV 5) (cst (.d .none))) (opT neV (getV 3) (getV 5)))) (retS (cst (.d (.bool false)))) nopS)
theorem loop_l {x y : Vl} {M : Mem} : ∀ (T : List Tr3) (v2 v3 v4 v5 : Option Vl), ∃ w2 w3 w4 w5 : Option Vl, forL (tupT 2 (consT (tupT 2 (consT (setT 2) (consT (setT 3) nilT))) (consT (tupT 2 (consT (setT 4) (consT (setT 5) nilT))) nilT))) LB (T.map dT) [some x, some y, v2, v3, v4, v5] M =
    if T.all okT = true then .go .nx [some x, some y, w2, w3, w4, w5] M else .go (.rt (.d (.bool false))) [some x, some y, w2, w3, w4, w5] M
  | [], v2, v3, v4, v5 => ⟨v2, v3, v4, v5, rfl⟩
  | t :: T, v2, v3, v4, v5 => by
    obtain ⟨⟨s, p⟩, ⟨a, b⟩⟩ := t
    have e1 : tupT 2 (consT (tupT 2 (consT (setT 2) (consT (setT 3) nilT))) (consT (tupT 2 (consT (setT 4) (consT (setT 5) nilT))) nilT)) (.d (dT ((s, p), (a, b)))) [some x, some y, v2, v3, v4, v5] M = .ok [some x, some y, some (.d (nD s)), some (.d (.int p)), some (.d (oD a)), some (.d (oD b))] M := by
      unfold dT wD
      simp only [defM, startE, seqS_a, setS_a, bindS_ok, bindS_er, then_nx, then_rt, then_er, ifS_a, ifK_t, ifK_f, retS_a, dropS_a, asgS_a, asK_a, goG_ok, subT_a, nopS_a, getV_0, getV_s, cst_a, op2_a, o2a_ok, o2b_ok, opT_a, oTa_ok, oTb_ok, consA_a, cAa_ok, cAb_ok, nilA_a, callF_a, cFa_ok, callE_a, cEa_ok, newE_a, nwa_ok, datE_a, dta_ok, dispE_a, tupE_a, tpa_ok, asDs_a, datas, bind_ok, pur_ok, bool_b, leave_d, leave_nx, leave_er, ifE_a, ifa_t, ifa_f, notT_a, nta_ok, andT_a, ana_t, ana_f, orT_a, ora_t, ora_f, tstE_a, tsa_b, andE_a, aEa_t, aEa_f, orE_a, oEa_t, oEa_f, notE_a, nEa_ok, add_ii, sub_ii, gt_ii, lt_ii, ge_ii, le_ii, setT_a, consT_a, cTa_ok, nilT_a, tupT_a, seqT_t, seqT_l, forS_a, List.map_cons, List.map_nil, List.length_cons, List.length_nil, Nat.reduceAdd, Nat.reduceSub, Nat.zero_add, Nat.add_zero, List.replicate, List.cons_append, List.nil_append, List.append_nil, List.getElem?_cons_zero, List.getElem?_cons_succ, List.set_cons_zero, List.set_cons_succ, List.getElem?_nil, Option.map_some, Option.map_none, Option.bind_some, if_true, if_false, ite_true, ite_false, eq_self_iff_true, and_self, and_true, true_and, decide_true, decide_false, Bool.false_eq_true, Bool.not_true, Bool.not_false, sizeLine, Nat.reducePow, Nat.reduceLeDiff, Nat.zero_le, pow_7, pow_18, pow_40]
    have hg : LB [some x, some y, some (.d (nD s)), some (.d (.int p)), some (.d (oD a)), some (.d (oD b))] M = if okT ((s, p), (a, b)) = true then .go .nx [some x, some y, some (.d (nD s)), some (.d (.int p)), some (.d (oD a)), some (.d (oD b))] M else .go (.rt (.d (.bool false))) [some x, some y, some (.d (nD s)), some (.d (.int p)), some (.d (oD a)), some (.d (oD b))] M := by
      have bc : ∀ i j : Int, (i == j) = (j == i) := fun i j => BEq.comm
      have c1 : andT (opT isntV (getV 4) (cst (.d .none))) (opT neV (getV 2) (getV 4)) [some x, some y, some (.d (nD s)), some (.d (.int p)), some (.d (oD a)), some (.d (oD b))] M = .ok (!metO a s) M := by
        cases a with
        | none => simp only [defM, startE, seqS_a, setS_a, bindS_ok, bindS_er, then_nx, then_rt, then_er, ifS_a, ifK_t, ifK_f, retS_a, dropS_a, asgS_a, asK_a, goG_ok, subT_a, nopS_a, getV_0, getV_s, cst_a, op2_a, o2a_ok, o2b_ok, opT_a, oTa_ok, oTb_ok, consA_a, cAa_ok, cAb_ok, nilA_a, callF_a, cFa_ok, callE_a, cEa_ok, newE_a, nwa_ok, datE_a, dta_ok, dispE_a, tupE_a, tpa_ok, asDs_a, datas, bind_ok, pur_ok, bool_b, leave_d, leave_nx, leave_er, ifE_a, ifa_t, ifa_f, notT_a, nta_ok, andT_a, ana_t, ana_f, orT_a, ora_t, ora_f, tstE_a, tsa_b, andE_a, aEa_t, aEa_f, orE_a, oEa_t, oEa_f, notE_a, nEa_ok, add_ii, sub_ii, gt_ii, lt_ii, ge_ii, le_ii, setT_a, consT_a, cTa_ok, nilT_a, tupT_a, seqT_t, seqT_l, forS_a, List.map_cons, List.map_nil, List.length_cons, List.length_nil, Nat.reduceAdd, Nat.reduceSub, Nat.zero_add, Nat.add_zero, List.replicate, List.cons_append, List.nil_append, List.append_nil, List.getElem?_cons_zero, List.getElem?_cons_succ, List.set_cons_zero, List.set_cons_succ, List.getElem?_nil, Option.map_some, Option.map_none, Option.bind_some, if_true, if_false, ite_true, ite_false, eq_self_iff_true, and_self, and_true, true_and, decide_true, decide_false, Bool.false_eq_true, Bool.not_true, Bool.not_false, sizeLine, Nat.reducePow, Nat.reduceLeDiff, Nat.zero_le, pow_7, pow_18, pow_40, andT_a, oD, isnt_n, C.noneB, Bool.not_true]; rfl
        | some j => simp only [defM, startE, seqS_a, setS_a, bindS_ok, bindS_er, then_nx, then_rt, then_er, ifS_a, ifK_t, ifK_f, retS_a, dropS_a, asgS_a, asK_a, goG_ok, subT_a, nopS_a, getV_0, getV_s, cst_a, op2_a, o2a_ok, o2b_ok, opT_a, oTa_ok, oTb_ok, consA_a, cAa_ok, cAb_ok, nilA_a, callF_a, cFa_ok, callE_a, cEa_ok, newE_a, nwa_ok, datE_a, dta_ok, dispE_a, tupE_a, tpa_ok, asDs_a, datas, bind_ok, pur_ok, bool_b, leave_d, leave_nx, leave_er, ifE_a, ifa_t, ifa_f, notT_a, nta_ok, andT_a, ana_t, ana_f, orT_a, ora_t, ora_f, tstE_a, tsa_b, andE_a, aEa_t, aEa_f, orE_a, oEa_t, oEa_f, notE_a, nEa_ok, add_ii, sub_ii, gt_ii, lt_ii, ge_ii, le_ii, setT_a, consT_a, cTa_ok, nilT_a, tupT_a, seqT_t, seqT_l, forS_a, List.map_cons, List.map_nil, List.length_cons, List.length_nil, Nat.reduceAdd, Nat.reduceSub, Nat.zero_add, Nat.add_zero, List.replicate, List.cons_append, List.nil_append, List.append_nil, List.getElem?_cons_zero, List.getElem?_cons_succ, List.set_cons_zero, List.set_cons_succ, List.getElem?_nil, Option.map_some, Option.map_none, Option.bind_some, if_true, if_false, ite_true, ite_false, eq_self_iff_true, and_self, and_true, true_and, decide_true, decide_false, Bool.false_eq_true, Bool.not_true, Bool.not_false, sizeLine, Nat.reducePow, Nat.reduceLeDiff, Nat.zero_le, pow_7, pow_18, pow_40, andT_a, oD, isnt_n, C.noneB, Bool.not_false, ne_ii, bc (s : Int) j]; rfl
      have c2 : andT (opT isntV (getV 5) (cst (.d .none))) (opT neV (getV 3) (getV 5)) [some x, some y, some (.d (nD s)), some (.d (.int p)), some (.d (oD a)), some (.d (oD b))] M = .ok (!metO b p) M := by
        cases b with
        | none => simp only [defM, startE, seqS_a, setS_a, bindS_ok, bindS_er, then_nx, then_rt, then_er, ifS_a, ifK_t, ifK_f, retS_a, dropS_a, asgS_a, asK_a, goG_ok, subT_a, nopS_a, getV_0, getV_s, cst_a, op2_a, o2a_ok, o2b_ok, opT_a, oTa_ok, oTb_ok, consA_a, cAa_ok, cAb_ok, nilA_a, callF_a, cFa_ok, callE_a, cEa_ok, newE_a, nwa_ok, datE_a, dta_ok, dispE_a, tupE_a, tpa_ok, asDs_a, datas, bind_ok, pur_ok, bool_b, leave_d, leave_nx, leave_er, ifE_a, ifa_t, ifa_f, notT_a, nta_ok, andT_a, ana_t, ana_f, orT_a, ora_t, ora_f, tstE_a, tsa_b, andE_a, aEa_t, aEa_f, orE_a, oEa_t, oEa_f, notE_a, nEa_ok, add_ii, sub_ii, gt_ii, lt_ii, ge_ii, le_ii, setT_a, consT_a, cTa_ok, nilT_a, tupT_a, seqT_t, seqT_l, forS_a, List.map_cons, List.map_nil, List.length_cons, List.length_nil, Nat.reduceAdd, Nat.reduceSub, Nat.zero_add, Nat.add_zero, List.replicate, List.cons_append, List.nil_append, List.append_nil, List.getElem?_cons_zero, List.getElem?_cons_succ, List.set_cons_zero, List.set_cons_succ, List.getElem?_nil, Option.map_some, Option.map_none, Option.bind_some, if_true, if_false, ite_true, ite_false, eq_self_iff_true, and_self, and_true, true_and, decide_true, decide_false, Bool.false_eq_true, Bool.not_true, Bool.not_false, sizeLine, Nat.reducePow, Nat.reduceLeDiff, Nat.zero_le, pow_7, pow_18, pow_40, andT_a, oD, isnt_n, C.noneB, Bool.not_true]; rfl
        | some j => simp only [defM, startE, seqS_a, setS_a, bindS_ok, bindS_er, then_nx, then_rt, then_er, ifS_a, ifK_t, ifK_f, retS_a, dropS_a, asgS_a, asK_a, goG_ok, subT_a, nopS_a, getV_0, getV_s, cst_a, op2_a, o2a_ok, o2b_ok, opT_a, oTa_ok, oTb_ok, consA_a, cAa_ok, cAb_ok, nilA_a, callF_a, cFa_ok, callE_a, cEa_ok, newE_a, nwa_ok, datE_a, dta_ok, dispE_a, tupE_a, tpa_ok, asDs_a, datas, bind_ok, pur_ok, bool_b, leave_d, leave_nx, leave_er, ifE_a, ifa_t, ifa_f, notT_a, nta_ok, andT_a, ana_t, ana_f, orT_a, ora_t, ora_f, tstE_a, tsa_b, andE_a, aEa_t, aEa_f, orE_a, oEa_t, oEa_f, notE_a, nEa_ok, add_ii, sub_ii, gt_ii, lt_ii, ge_ii, le_ii, setT_a, consT_a, cTa_ok, nilT_a, tupT_a, seqT_t, seqT_l, forS_a, List.map_cons, List.map_nil, List.length_cons, List.length_nil, Nat.reduceAdd, Nat.reduceSub, Nat.zero_add, Nat.add_zero, List.replicate, List.cons_append, List.nil_append, List.append_nil, List.getElem?_cons_zero, List.getElem?_cons_succ, List.set_cons_zero, List.set_cons_succ, List.getElem?_nil, Option.map_some, Option.map_none, Option.bind_some, if_true, if_false, ite_true, ite_false, eq_self_iff_true, and_self, and_true, true_and, decide_true, decide_false, Bool.false_eq_true, Bool.not_true, Bool.not_false, sizeLine, Nat.reducePow, Nat.reduceLeDiff, Nat.zero_le, pow_7, pow_18, pow_40, andT_a, oD, isnt_n, C.noneB, Bool.not_false, ne_ii, bc p j]; rfl
      have cc : orT (andT (opT isntV (getV 4) (cst (.d .none))) (opT neV (getV 2) (getV 4))) (andT (opT isntV (getV 5) (cst (.d .none))) (opT neV (getV 3) (getV 5))) [some x, some y, some (.d (nD s)), some (.d (.int p)), some (.d (oD a)), some (.d (oD b))] M = .ok (!okT ((s, p), (a, b))) M := by
        rw [orT_a, c1]
        unfold okT
        dsimp only
        cases metO a (s : Int) with
        | false => rw [Bool.not_false, ora_t, Bool.false_and, Bool.not_false]
        | true => rw [Bool.not_true, ora_f, c2, Bool.true_and]
      unfold LB
      rw [ifS_a, cc, bindS_ok]
      cases okT ((s, p), (a, b)) with
      | false => simp only [defM, startE, seqS_a, setS_a, bindS_ok, bindS_er, then_nx, then_rt, then_er, ifS_a, ifK_t, ifK_f, retS_a, dropS_a, asgS_a, asK_a, goG_ok, subT_a, nopS_a, getV_0, getV_s, cst_a, op2_a, o2a_ok, o2b_ok, opT_a, oTa_ok, oTb_ok, consA_a, cAa_ok, cAb_ok, nilA_a, callF_a, cFa_ok, callE_a, cEa_ok, newE_a, nwa_ok, datE_a, dta_ok, dispE_a, tupE_a, tpa_ok, asDs_a, datas, bind_ok, pur_ok, bool_b, leave_d, leave_nx, leave_er, ifE_a, ifa_t, ifa_f, notT_a, nta_ok, andT_a, ana_t, ana_f, orT_a, ora_t, ora_f, tstE_a, tsa_b, andE_a, aEa_t, aEa_f, orE_a, oEa_t, oEa_f, notE_a, nEa_ok, add_ii, sub_ii, gt_ii, lt_ii, ge_ii, le_ii, setT_a, consT_a, cTa_ok, nilT_a, tupT_a, seqT_t, seqT_l, forS_a, List.map_cons, List.map_nil, List.length_cons, List.length_nil, Nat.reduceAdd, Nat.reduceSub, Nat.zero_add, Nat.add_zero, List.replicate, List.cons_append, List.nil_append, List.append_nil, List.getElem?_cons_zero, List.getElem?_cons_succ, List.set_cons_zero, List.set_cons_succ, List.getElem?_nil, Option.map_some, Option.map_none, Option.bind_some, if_true, if_false, ite_true, ite_false, eq_self_iff_true, and_self, and_true, true_and, decide_true, decide_false, Bool.false_eq_true, Bool.not_true, Bool.not_false, sizeLine, Nat.reducePow, Nat.reduceLeDiff, Nat.zero_le, pow_7, pow_18, pow_40, Bool.not_false, if_neg Bool.false_ne_true]
      | true => simp only [defM, startE, seqS_a, setS_a, bindS_ok, bindS_er, then_nx, then_rt, then_er, ifS_a, ifK_t, ifK_f, retS_a, dropS_a, asgS_a, asK_a, goG_ok, subT_a, nopS_a, getV_0, getV_s, cst_a, op2_a, o2a_ok, o2b_ok, opT_a, oTa_ok, oTb_ok, consA_a, cAa_ok, cAb_ok, nilA_a, callF_a, cFa_ok, callE_a, cEa_ok, newE_a, nwa_ok, datE_a, dta_ok, dispE_a, tupE_a, tpa_ok, asDs_a, datas, bind_ok, pur_ok, bool_b, leave_d, leave_nx, leave_er, ifE_a, ifa_t, ifa_f, notT_a, nta_ok, andT_a, ana_t, ana_f, orT_a, ora_t, ora_f, tstE_a, tsa_b, andE_a, aEa_t, aEa_f, orE_a, oEa_t, oEa_f, notE_a, nEa_ok, add_ii, sub_ii, gt_ii, lt_ii, ge_ii, le_ii, setT_a, consT_a, cTa_ok, nilT_a, tupT_a, seqT_t, seqT_l, forS_a, List.map_cons, List.map_nil, List.length_cons, List.length_nil, Nat.reduceAdd, Nat.reduceSub, Nat.zero_add, Nat.add_zero, List.replicate, List.cons_append, List.nil_append, List.append_nil, List.getElem?_cons_zero, List.getElem?_cons_succ, List.set_cons_zero, List.set_cons_succ, List.getElem?_nil, Option.map_some, Option.map_none, Option.bind_some, if_true, if_false, ite_true, ite_false, eq_self_iff_true, and_self, and_true, true_and, decide_true, decide_false, Bool.false_eq_true, Bool.not_true, Bool.not_false, sizeLine, Nat.reducePow, Nat.reduceLeDiff, Nat.zero_le, pow_7, pow_18, pow_40, Bool.not_true, if_pos]
    by_cases ho : okT ((s, p), (a, b)) = true
    · rw [if_pos ho] at hg
      obtain ⟨w2, w3, w4, w5, e2⟩ := loop_l T (some (.d (nD s))) (some (.d (.int p))) (some (.d (oD a))) (some (.d (oD b)))
      refine ⟨w2, w3, w4, w5, ?_⟩
      rw [List.map_cons, forL_cons e1 hg, e2, List.all_cons, ho, Bool.true_and]
    · rw [if_neg ho] at hg
      refine ⟨some (.d (nD s)), some (.d (.int p)), some (.d (oD a)), some (.d (oD b)), ?_⟩
      rw [List.map_cons, List.all_cons, show okT ((s, p), (a, b)) = false by simpa using ho, Bool.false_and, if_neg Bool.false_ne_true]
      simp only [forL, e1, hg]
theorem l_meets_ok {M : Mem} (hs : ss.length = n) (hp : ps.length = n) (hW : W.length = n) : m_l_meets [.d (stD ss ps), .d (.list (W.map wD))] M = .ok (.d (.bool (metW ss ps W))) M := by
  have hz : zzI (op2 ixV (getV 0) (cst (.d (.int 0)))) (op2 ixV (getV 0) (cst (.d (.int 1)))) (getV 1) [some (.d (stD ss ps)), some (.d (.list (W.map wD))), none, none, none, none] M = .ok (((ss.zip ps).zip W).map dT) M := by
    have i0 : ∀ N : Mem, ixV (.d (stD ss ps)) (.d (.int 0)) N = .ok (.d (.tuple (ss.map nD))) N := fun N => rfl
    have i1 : ∀ N : Mem, ixV (.d (stD ss ps)) (.d (.int 1)) N = .ok (.d (.tuple (intsD ps))) N := fun N => rfl
    rw [zzI_a (x := .d (.tuple (ss.map nD))) (y := .d (.tuple (intsD ps))) (z := .d (.list (W.map wD))) (M1 := M) (M2 := M) (M3 := M) (by simp only [defM, startE, seqS_a, setS_a, bindS_ok, bindS_er, then_nx, then_rt, then_er, ifS_a, ifK_t, ifK_f, retS_a, dropS_a, asgS_a, asK_a, goG_ok, subT_a, nopS_a, getV_0, getV_s, cst_a, op2_a, o2a_ok, o2b_ok, opT_a, oTa_ok, oTb_ok, consA_a, cAa_ok, cAb_ok, nilA_a, callF_a, cFa_ok, callE_a, cEa_ok, newE_a, nwa_ok, datE_a, dta_ok, dispE_a, tupE_a, tpa_ok, asDs_a, datas, bind_ok, pur_ok, bool_b, leave_d, leave_nx, leave_er, ifE_a, ifa_t, ifa_f, notT_a, nta_ok, andT_a, ana_t, ana_f, orT_a, ora_t, ora_f, tstE_a, tsa_b, andE_a, aEa_t, aEa_f, orE_a, oEa_t, oEa_f, notE_a, nEa_ok, add_ii, sub_ii, gt_ii, lt_ii, ge_ii, le_ii, setT_a, consT_a, cTa_ok, nilT_a, tupT_a, seqT_t, seqT_l, forS_a, List.map_cons, List.map_nil, List.length_cons, List.length_nil, Nat.reduceAdd, Nat.reduceSub, Nat.zero_add, Nat.add_zero, List.replicate, List.cons_append, List.nil_append, List.append_nil, List.getElem?_cons_zero, List.getElem?_cons_succ, List.set_cons_zero, List.set_cons_succ, List.getElem?_nil, Option.map_some, Option.map_none, Option.bind_some, if_true, if_false, ite_true, ite_false, eq_self_iff_true, and_self, and_true, true_and, decide_true, decide_false, Bool.false_eq_true, Bool.not_true, Bool.not_false, sizeLine, Nat.reducePow, Nat.reduceLeDiff, Nat.zero_le, pow_7, pow_18, pow_40, i0]) (by simp only [defM, startE, seqS_a, setS_a, bindS_ok, bindS_er, then_nx, then_rt, then_er, ifS_a, ifK_t, ifK_f, retS_a, dropS_a, asgS_a, asK_a, goG_ok, subT_a, nopS_a, getV_0, getV_s, cst_a, op2_a, o2a_ok, o2b_ok, opT_a, oTa_ok, oTb_ok, consA_a, cAa_ok, cAb_ok, nilA_a, callF_a, cFa_ok, callE_a, cEa_ok, newE_a, nwa_ok, datE_a, dta_ok, dispE_a, tupE_a, tpa_ok, asDs_a, datas, bind_ok, pur_ok, bool_b, leave_d, leave_nx, leave_er, ifE_a, ifa_t, ifa_f, notT_a, nta_ok, andT_a, ana_t, ana_f, orT_a, ora_t, ora_f, tstE_a, tsa_b, andE_a, aEa_t, aEa_f, orE_a, oEa_t, oEa_f, notE_a, nEa_ok, add_ii, sub_ii, gt_ii, lt_ii, ge_ii, le_ii, setT_a, consT_a, cTa_ok, nilT_a, tupT_a, seqT_t, seqT_l, forS_a, List.map_cons, List.map_nil, List.length_cons, List.length_nil, Nat.reduceAdd, Nat.reduceSub, Nat.zero_add, Nat.add_zero, List.replicate, List.cons_append, List.nil_append, List.append_nil, List.getElem?_cons_zero, List.getElem?_cons_succ, List.set_cons_zero, List.set_cons_succ, List.getElem?_nil, Option.map_some, Option.map_none, Option.bind_some, if_true, if_false, ite_true, ite_false, eq_self_iff_true, and_self, and_true, true_and, decide_true, decide_false, Bool.false_eq_true, Bool.not_true, Bool.not_false, sizeLine, Nat.reducePow, Nat.reduceLeDiff, Nat.zero_le, pow_7, pow_18, pow_40, i1]) (by simp only [defM, startE, seqS_a, setS_a, bindS_ok, bindS_er, then_nx, then_rt, then_er, ifS_a, ifK_t, ifK_f, retS_a, dropS_a, asgS_a, asK_a, goG_ok, subT_a, nopS_a, getV_0, getV_s, cst_a, op2_a, o2a_ok, o2b_ok, opT_a, oTa_ok, oTb_ok, consA_a, cAa_ok, cAb_ok, nilA_a, callF_a, cFa_ok, callE_a, cEa_ok, newE_a, nwa_ok, datE_a, dta_ok, dispE_a, tupE_a, tpa_ok, asDs_a, datas, bind_ok, pur_ok, bool_b, leave_d, leave_nx, leave_er, ifE_a, ifa_t, ifa_f, notT_a, nta_ok, andT_a, ana_t, ana_f, orT_a, ora_t, ora_f, tstE_a, tsa_b, andE_a, aEa_t, aEa_f, orE_a, oEa_t, oEa_f, notE_a, nEa_ok, add_ii, sub_ii, gt_ii, lt_ii, ge_ii, le_ii, setT_a, consT_a, cTa_ok, nilT_a, tupT_a, seqT_t, seqT_l, forS_a, List.map_cons, List.map_nil, List.length_cons, List.length_nil, Nat.reduceAdd, Nat.reduceSub, Nat.zero_add, Nat.add_zero, List.replicate, List.cons_append, List.nil_append, List.append_nil, List.getElem?_cons_zero, List.getElem?_cons_succ, List.set_cons_zero, List.set_cons_succ, List.getElem?_nil, Option.map_some, Option.map_none, Option.bind_some, if_true, if_false, ite_true, ite_false, eq_self_iff_true, and_self, and_true, true_and, decide_true, decide_false, Bool.false_eq_true, Bool.not_true, Bool.not_false, sizeLine, Nat.reducePow, Nat.reduceLeDiff, Nat.zero_le, pow_7, pow_18, pow_40]) rfl rfl rfl]
    unfold zzD intsD
    rw [List.zip_map, List.zip_map, List.map_map]
    rfl
  obtain ⟨w2, w3, w4, w5, el⟩ := loop_l (x := .d (stD ss ps)) (y := .d (.list (W.map wD))) (M := M) ((ss.zip ps).zip W) none none none none
  rw [all_two ss ps W (hs.trans hW.symm) (hp.trans hW.symm)] at el
  unfold LB at el
  unfold m_l_meets g_l_meets
  cases hm : metW ss ps W with
  | true =>
    rw [hm, if_pos rfl] at el
    simp only [defM, startE, seqS_a, setS_a, bindS_ok, bindS_er, then_nx, then_rt, then_er, ifS_a, ifK_t, ifK_f, retS_a, dropS_a, asgS_a, asK_a, goG_ok, subT_a, nopS_a, getV_0, getV_s, cst_a, op2_a, o2a_ok, o2b_ok, opT_a, oTa_ok, oTb_ok, consA_a, cAa_ok, cAb_ok, nilA_a, callF_a, cFa_ok, callE_a, cEa_ok, newE_a, nwa_ok, datE_a, dta_ok, dispE_a, tupE_a, tpa_ok, asDs_a, datas, bind_ok, pur_ok, bool_b, leave_d, leave_nx, leave_er, ifE_a, ifa_t, ifa_f, notT_a, nta_ok, andT_a, ana_t, ana_f, orT_a, ora_t, ora_f, tstE_a, tsa_b, andE_a, aEa_t, aEa_f, orE_a, oEa_t, oEa_f, notE_a, nEa_ok, add_ii, sub_ii, gt_ii, lt_ii, ge_ii, le_ii, setT_a, consT_a, cTa_ok, nilT_a, tupT_a, seqT_t, seqT_l, forS_a, List.map_cons, List.map_nil, List.length_cons, List.length_nil, Nat.reduceAdd, Nat.reduceSub, Nat.zero_add, Nat.add_zero, List.replicate, List.cons_append, List.nil_append, List.append_nil, List.getElem?_cons_zero, List.getElem?_cons_succ, List.set_cons_zero, List.set_cons_succ, List.getElem?_nil, Option.map_some, Option.map_none, Option.bind_some, if_true, if_false, ite_true, ite_false, eq_self_iff_true, and_self, and_true, true_and, decide_true, decide_false, Bool.false_eq_true, Bool.not_true, Bool.not_false, sizeLine, Nat.reducePow, Nat.reduceLeDiff, Nat.zero_le, pow_7, pow_18, pow_40, hz, el]
    rw [take_all (by simp)]
  | false =>
    rw [hm, if_neg Bool.false_ne_true] at el
    simp only [defM, startE, seqS_a, setS_a, bindS_ok, bindS_er, then_nx, then_rt, then_er, ifS_a, ifK_t, ifK_f, retS_a, dropS_a, asgS_a, asK_a, goG_ok, subT_a, nopS_a, getV_0, getV_s, cst_a, op2_a, o2a_ok, o2b_ok, opT_a, oTa_ok, oTb_ok, consA_a, cAa_ok, cAb_ok, nilA_a, callF_a, cFa_ok, callE_a, cEa_ok, newE_a, nwa_ok, datE_a, dta_ok, dispE_a, tupE_a, tpa_ok, asDs_a, datas, bind_ok, pur_ok, bool_b, leave_d, leave_nx, leave_er, ifE_a, ifa_t, ifa_f, notT_a, nta_ok, andT_a, ana_t, ana_f, orT_a, ora_t, ora_f, tstE_a, tsa_b, andE_a, aEa_t, aEa_f, orE_a, oEa_t, oEa_f, notE_a, nEa_ok, add_ii, sub_ii, gt_ii, lt_ii, ge_ii, le_ii, setT_a, consT_a, cTa_ok, nilT_a, tupT_a, seqT_t, seqT_l, forS_a, List.map_cons, List.map_nil, List.length_cons, List.length_nil, Nat.reduceAdd, Nat.reduceSub, Nat.zero_add, Nat.add_zero, List.replicate, List.cons_append, List.nil_append, List.append_nil, List.getElem?_cons_zero, List.getElem?_cons_succ, List.set_cons_zero, List.set_cons_succ, List.getElem?_nil, Option.map_some, Option.map_none, Option.bind_some, if_true, if_false, ite_true, ite_false, eq_self_iff_true, and_self, and_true, true_and, decide_true, decide_false, Bool.false_eq_true, Bool.not_true, Bool.not_false, sizeLine, Nat.reducePow, Nat.reduceLeDiff, Nat.zero_le, pow_7, pow_18, pow_40, hz, el]
    rw [take_all (by simp)]
end
end K34
end DL
namespace DL
namespace B
open PySem PySem.Spec L2 DL DL.C
theorem same_dd {x y : PyData} {M : Mem} (hx : It 4 x) (hy : It 4 y) : m_same 6 [.d (.list [x, y]), .d (.list [x, y])] M = .ok (.d (.bool true)) M :=
  same_ok 5 _ M (it_seq (k := 4) (.inl rfl) (by simp) fun z hz => by
    rcases List.mem_cons.mp hz with rfl | hz
    · exact hx
    · rcases List.mem_cons.mp hz with rfl | hz
      · exact hy
      · cases hz)
theorem same_d {x : PyData} {M : Mem} (hx : It 5 x) : m_same 6 [.d x, .d x] M = .ok (.d (.bool true)) M := same_ok 5 _ M hx
end B
end DL
namespace DL
open PySem PySem.Spec L2
theorem eq_self_gd {B k : Nat} {x : PyData} {M : Mem} (hB : B < 10 ^ 70) (hk : k ≤ 60) (h : gd B k x = true) (hx : isSq x = true) : eqV (.d x) (.d x) M = .ok (.d (.bool true)) M := by
  obtain ⟨h1, _, _, h2⟩ := gd_all hB h
  cases x with
  | list xs =>
    show eqD (.list xs) (.list xs) M = _
    refine (if_pos (by unfold eqOk; rw [h1]; simp; omega)).trans ?_
    rw [SeqAt.eqv_refl _ h1]
  | tuple xs =>
    show eqD (.tuple xs) (.tuple xs) M = _
    refine (if_pos (by unfold eqOk; rw [h1]; simp; omega)).trans ?_
    rw [SeqAt.eqv_refl _ h1]
  | _ => cases hx
namespace B
open PySem PySem.Spec L2 DL
section
variable {n m j a k : Nat} {cs ss : List Nat} {ps : List Int}
theorem Halt.paid (H : Halt n cs ss ps m j a) : Paid (oE n cs) (oG n cs) (oN n cs) ss ps m := by
  obtain ⟨c, s1, p1, P, _⟩ := H.ex
  exact P
end
end B
end DL
namespace DL
namespace K34
open PySem PySem.Spec L2 DL DL.B
open DL.C (Bx getM Bx.mono)
abbrev EH (i n : Nat) (x : PyData) (rp sf : PyData) (t : Nat) (v6 v7 v8 v9 v10 v11 : Option Vl) : Env := [some (.h i), some (.d (nD n)), some (.d x), some (.d rp), some (.d sf), some (.d (nD t)), v6, v7, v8, v9, v10, v11, none]
abbrev HB : Sv := (seqS (setS 9 (op2 eqV (callF 2 (B.m_take 10) (consA (getV 0) (consA (op2 mulV (cst (.d (.int 6))) (op2 addV (cst (.d (.int 1))) (getV 5))) nilA))) (cst (.d (.int 0))))) (seqS (setS 7 (ifE (notT (tstE (getV 9))) (callF 2 B.m_pick (consA (getV 0) (consA (datE (dispE (consA (getV 7) (consA (cst (.d .none)) nilA)))) nilA))) (callF 2 (B.m_take 10) (consA (getV 0) (consA (op2 addV (getV 1) (cst (.d (.int 2)))) nilA))))) (dropS (methE appM (getV 6) (consA (tupE (consA (getV 7) (consA (callF 2 B.m_pick (consA (getV 0) (consA (datE (dispE (consA (getV 8) (consA (cst (.d .none)) (consA (op2 addV (getV 8) (callE intV (consA (op2 eqV (callF 2 (B.m_take 10) (consA (getV 0) (consA (cst (.d (.int 20))) nilA))) (cst (.d (.int 0)))) nilA))) nilA))))) nilA))) nilA))) nilA)))))
section
variable {n : Nat} {ss : List Nat} {ps : List Int}
theorem hope_ok {n0 i t : Nat} {K : Mem} {o : MO} {x rp sf : PyData} (hK : K[i]? = some o) (hB : Bx n0 o) (hn0 : n0 + 100000 ≤ 2 ^ 44) (ht : t ≤ 8) (hn : n ≤ 12) (hs : ss.length = n) (hp : ps.length = n) (v10 v11 : Option Vl) (v7 v8 v9 : Option Vl) :
    ∃ (W : List Wi) (o' : MO) (w7 w8 w9 : Option Vl), forL (tupT 2 (consT (setT 7) (consT (setT 8) nilT))) HB (zipD (ss.map nD) (intsD ps)) (EH i n x rp sf t (some (.h K.length)) v7 v8 v9 v10 v11) (K ++ [.lst []]) = .go .nx (EH i n x rp sf t (some (.h K.length)) w7 w8 w9 v10 v11) (K.set i o' ++ [.lst (W.map wD)]) ∧ W.length = n ∧ Bx (n0 + 40000) o' := by
  have hsz : sizeLine = 2 ^ 24 := rfl
  have hi : i < K.length := DL.lt_of_get hK
  have hself : K.set i o = K := by
    apply ext_of
    intro k
    by_cases hk : i = k
    · subst hk; rw [List.getElem?_set_self hi, hK]
    · rw [List.getElem?_set_ne hk]
  obtain ⟨e', M', el, W, o', w7, w8, w9, rfl, rfl, hW, hB'⟩ := forL_all (γ := tupT 2 (consT (setT 7) (consT (setT 8) nilT))) (g := HB)
    (fun j e N => ∃ (W : List Wi) (o' : MO) (v7 v8 v9 : Option Vl), e = EH i n x rp sf t (some (.h K.length)) v7 v8 v9 v10 v11 ∧ N = K.set i o' ++ [.lst (W.map wD)] ∧ W.length = j ∧ Bx (n0 + 2560 * j) o')
    (xs := zipD (ss.map nD) (intsD ps)) (e := EH i n x rp sf t (some (.h K.length)) v7 v8 v9 v10 v11) (M := K ++ [.lst []])
    (by
      rintro j z e N hz ⟨W, o1, v7, v8, v9, rfl, rfl, hW, B1⟩
      have hjl := lt_of_getL hz
      rw [zipD_len, List.length_map, hs] at hjl
      obtain ⟨s, hs'⟩ := get_some (show j < ss.length by omega)
      obtain ⟨p, hp'⟩ := get_some (show j < ps.length by unfold intsD at hjl; rw [List.length_map] at hjl; omega)
      rw [zipD_get (getN hs') (getI hp')] at hz
      cases hz
      have hj12 : j < 12 := by omega
      have E1 : tupT 2 (consT (setT 7) (consT (setT 8) nilT)) (.d (.tuple [nD s, .int p])) (EH i n x rp sf t (some (.h K.length)) v7 v8 v9 v10 v11) (K.set i o1 ++ [.lst (W.map wD)]) = .ok (EH i n x rp sf t (some (.h K.length)) (some (.d (nD s))) (some (.d (.int p))) v9 v10 v11) (K.set i o1 ++ [.lst (W.map wD)]) := by simp only [defM, startE, seqS_a, setS_a, bindS_ok, bindS_er, then_nx, then_rt, then_er, ifS_a, ifK_t, ifK_f, retS_a, dropS_a, asgS_a, asK_a, goG_ok, subT_a, nopS_a, getV_0, getV_s, cst_a, op2_a, o2a_ok, o2b_ok, opT_a, oTa_ok, oTb_ok, consA_a, cAa_ok, cAb_ok, nilA_a, callF_a, cFa_ok, callE_a, cEa_ok, newE_a, nwa_ok, datE_a, dta_ok, dispE_a, tupE_a, tpa_ok, asDs_a, datas, bind_ok, pur_ok, bool_b, leave_d, leave_nx, leave_er, ifE_a, ifa_t, ifa_f, notT_a, nta_ok, andT_a, ana_t, ana_f, orT_a, ora_t, ora_f, tstE_a, tsa_b, andE_a, aEa_t, aEa_f, orE_a, oEa_t, oEa_f, notE_a, nEa_ok, add_ii, sub_ii, gt_ii, lt_ii, ge_ii, le_ii, setT_a, consT_a, cTa_ok, nilT_a, tupT_a, seqT_t, seqT_l, forS_a, List.map_cons, List.map_nil, List.length_cons, List.length_nil, Nat.reduceAdd, Nat.reduceSub, Nat.zero_add, Nat.add_zero, List.replicate, List.cons_append, List.nil_append, List.append_nil, List.getElem?_cons_zero, List.getElem?_cons_succ, List.set_cons_zero, List.set_cons_succ, List.getElem?_nil, Option.map_some, Option.map_none, Option.bind_some, if_true, if_false, ite_true, ite_false, eq_self_iff_true, and_self, and_true, true_and, decide_true, decide_false, Bool.false_eq_true, Bool.not_true, Bool.not_false, sizeLine, Nat.reducePow, Nat.reduceLeDiff, Nat.zero_le, pow_7, pow_18, pow_40]
      -- odd or not
      obtain ⟨u1, o2, e2, B2, k1, k2⟩ := take10 (sp := 6 * (1 + (t : Int))) (ga_get (o := o1) (J := [.lst (W.map wD)]) hi) B1 (by omega) (by omega) (by omega)
      rw [ga_set hi] at e2
      have hmul : ∀ N : Mem, mulV (.d (.int 6)) (.d (.int (1 + (t : Int)))) N = .ok (.d (.int (6 * (1 + (t : Int))))) N := fun N => mul_ii (.inl (by decide))
      -- the seat
      obtain ⟨a, o3, e3, B3⟩ : ∃ (a : Option Int) (o3 : MO), ifE (notT (tstE (getV 9))) (callF 2 B.m_pick (consA (getV 0) (consA (datE (dispE (consA (getV 7) (consA (cst (.d .none)) nilA)))) nilA))) (callF 2 (B.m_take 10) (consA (getV 0) (consA (op2 addV (getV 1) (cst (.d (.int 2)))) nilA))) (EH i n x rp sf t (some (.h K.length)) (some (.d (nD s))) (some (.d (.int p))) (some (.d (.bool (u1 == 0)))) v10 v11) (K.set i o2 ++ [.lst (W.map wD)]) = .ok (.d (oD a)) (K.set i o3 ++ [.lst (W.map wD)]) ∧ Bx (n0 + 2560 * j + 1024) o3 := by
        cases u1 == 0 with
        | true =>
          obtain ⟨u2, o3, e3, B3, k3, k4⟩ := take10 (sp := (n : Int) + 2) (ga_get (o := o2) (J := [.lst (W.map wD)]) hi) B2 (by omega) (by omega) (by omega)
          rw [ga_set hi] at e3
          exact ⟨some u2, o3, by simp only [defM, startE, seqS_a, setS_a, bindS_ok, bindS_er, then_nx, then_rt, then_er, ifS_a, ifK_t, ifK_f, retS_a, dropS_a, asgS_a, asK_a, goG_ok, subT_a, nopS_a, getV_0, getV_s, cst_a, op2_a, o2a_ok, o2b_ok, opT_a, oTa_ok, oTb_ok, consA_a, cAa_ok, cAb_ok, nilA_a, callF_a, cFa_ok, callE_a, cEa_ok, newE_a, nwa_ok, datE_a, dta_ok, dispE_a, tupE_a, tpa_ok, asDs_a, datas, bind_ok, pur_ok, bool_b, leave_d, leave_nx, leave_er, ifE_a, ifa_t, ifa_f, notT_a, nta_ok, andT_a, ana_t, ana_f, orT_a, ora_t, ora_f, tstE_a, tsa_b, andE_a, aEa_t, aEa_f, orE_a, oEa_t, oEa_f, notE_a, nEa_ok, add_ii, sub_ii, gt_ii, lt_ii, ge_ii, le_ii, setT_a, consT_a, cTa_ok, nilT_a, tupT_a, seqT_t, seqT_l, forS_a, List.map_cons, List.map_nil, List.length_cons, List.length_nil, Nat.reduceAdd, Nat.reduceSub, Nat.zero_add, Nat.add_zero, List.replicate, List.cons_append, List.nil_append, List.append_nil, List.getElem?_cons_zero, List.getElem?_cons_succ, List.set_cons_zero, List.set_cons_succ, List.getElem?_nil, Option.map_some, Option.map_none, Option.bind_some, if_true, if_false, ite_true, ite_false, eq_self_iff_true, and_self, and_true, true_and, decide_true, decide_false, Bool.false_eq_true, Bool.not_true, Bool.not_false, sizeLine, Nat.reducePow, Nat.reduceLeDiff, Nat.zero_le, pow_7, pow_18, pow_40, e3]; rfl, B3.mono (by omega)⟩
        | false =>
          obtain ⟨d, o3, e3, B3, hd⟩ := pick_ok (xs := [nD s, .none]) (ga_get (o := o2) (J := [.lst (W.map wD)]) hi) B2 (by omega) (by simp) (by show 2 ≤ 2 ^ 60; decide)
          rw [ga_set hi] at e3
          simp only [List.mem_cons, List.not_mem_nil, or_false] at hd
          rcases hd with rfl | rfl
          · exact ⟨some (s : Int), o3, by simp only [defM, startE, seqS_a, setS_a, bindS_ok, bindS_er, then_nx, then_rt, then_er, ifS_a, ifK_t, ifK_f, retS_a, dropS_a, asgS_a, asK_a, goG_ok, subT_a, nopS_a, getV_0, getV_s, cst_a, op2_a, o2a_ok, o2b_ok, opT_a, oTa_ok, oTb_ok, consA_a, cAa_ok, cAb_ok, nilA_a, callF_a, cFa_ok, callE_a, cEa_ok, newE_a, nwa_ok, datE_a, dta_ok, dispE_a, tupE_a, tpa_ok, asDs_a, datas, bind_ok, pur_ok, bool_b, leave_d, leave_nx, leave_er, ifE_a, ifa_t, ifa_f, notT_a, nta_ok, andT_a, ana_t, ana_f, orT_a, ora_t, ora_f, tstE_a, tsa_b, andE_a, aEa_t, aEa_f, orE_a, oEa_t, oEa_f, notE_a, nEa_ok, add_ii, sub_ii, gt_ii, lt_ii, ge_ii, le_ii, setT_a, consT_a, cTa_ok, nilT_a, tupT_a, seqT_t, seqT_l, forS_a, List.map_cons, List.map_nil, List.length_cons, List.length_nil, Nat.reduceAdd, Nat.reduceSub, Nat.zero_add, Nat.add_zero, List.replicate, List.cons_append, List.nil_append, List.append_nil, List.getElem?_cons_zero, List.getElem?_cons_succ, List.set_cons_zero, List.set_cons_succ, List.getElem?_nil, Option.map_some, Option.map_none, Option.bind_some, if_true, if_false, ite_true, ite_false, eq_self_iff_true, and_self, and_true, true_and, decide_true, decide_false, Bool.false_eq_true, Bool.not_true, Bool.not_false, sizeLine, Nat.reducePow, Nat.reduceLeDiff, Nat.zero_le, pow_7, pow_18, pow_40, e3]; rfl, B3.mono (by omega)⟩
          · exact ⟨none, o3, by simp only [defM, startE, seqS_a, setS_a, bindS_ok, bindS_er, then_nx, then_rt, then_er, ifS_a, ifK_t, ifK_f, retS_a, dropS_a, asgS_a, asK_a, goG_ok, subT_a, nopS_a, getV_0, getV_s, cst_a, op2_a, o2a_ok, o2b_ok, opT_a, oTa_ok, oTb_ok, consA_a, cAa_ok, cAb_ok, nilA_a, callF_a, cFa_ok, callE_a, cEa_ok, newE_a, nwa_ok, datE_a, dta_ok, dispE_a, tupE_a, tpa_ok, asDs_a, datas, bind_ok, pur_ok, bool_b, leave_d, leave_nx, leave_er, ifE_a, ifa_t, ifa_f, notT_a, nta_ok, andT_a, ana_t, ana_f, orT_a, ora_t, ora_f, tstE_a, tsa_b, andE_a, aEa_t, aEa_f, orE_a, oEa_t, oEa_f, notE_a, nEa_ok, add_ii, sub_ii, gt_ii, lt_ii, ge_ii, le_ii, setT_a, consT_a, cTa_ok, nilT_a, tupT_a, seqT_t, seqT_l, forS_a, List.map_cons, List.map_nil, List.length_cons, List.length_nil, Nat.reduceAdd, Nat.reduceSub, Nat.zero_add, Nat.add_zero, List.replicate, List.cons_append, List.nil_append, List.append_nil, List.getElem?_cons_zero, List.getElem?_cons_succ, List.set_cons_zero, List.set_cons_succ, List.getElem?_nil, Option.map_some, Option.map_none, Option.bind_some, if_true, if_false, ite_true, ite_false, eq_self_iff_true, and_self, and_true, true_and, decide_true, decide_false, Bool.false_eq_true, Bool.not_true, Bool.not_false, sizeLine, Nat.reducePow, Nat.reduceLeDiff, Nat.zero_le, pow_7, pow_18, pow_40, e3]; rfl, B3.mono (by omega)⟩
      have e3' : ifa (callF 2 B.m_pick (consA (getV 0) (consA (datE (dispE (consA (getV 7) (consA (cst (.d .none)) nilA)))) nilA))) (callF 2 (B.m_take 10) (consA (getV 0) (consA (op2 addV (getV 1) (cst (.d (.int 2)))) nilA))) (EH i n x rp sf t (some (.h K.length)) (some (.d (nD s))) (some (.d (.int p))) (some (.d (.bool (u1 == 0)))) v10 v11) (.ok (!(u1 == 0)) (K.set i o2 ++ [.lst (W.map wD)])) = .ok (.d (oD a)) (K.set i o3 ++ [.lst (W.map wD)]) := by
        rw [← e3]
        simp only [EH]
        simp only [defM, startE, seqS_a, setS_a, bindS_ok, bindS_er, then_nx, then_rt, then_er, ifS_a, ifK_t, ifK_f, retS_a, dropS_a, asgS_a, asK_a, goG_ok, subT_a, nopS_a, getV_0, getV_s, cst_a, op2_a, o2a_ok, o2b_ok, opT_a, oTa_ok, oTb_ok, consA_a, cAa_ok, cAb_ok, nilA_a, callF_a, cFa_ok, callE_a, cEa_ok, newE_a, nwa_ok, datE_a, dta_ok, dispE_a, tupE_a, tpa_ok, asDs_a, datas, bind_ok, pur_ok, bool_b, leave_d, leave_nx, leave_er, ifE_a, ifa_t, ifa_f, notT_a, nta_ok, andT_a, ana_t, ana_f, orT_a, ora_t, ora_f, tstE_a, tsa_b, andE_a, aEa_t, aEa_f, orE_a, oEa_t, oEa_f, notE_a, nEa_ok, add_ii, sub_ii, gt_ii, lt_ii, ge_ii, le_ii, setT_a, consT_a, cTa_ok, nilT_a, tupT_a, seqT_t, seqT_l, forS_a, List.map_cons, List.map_nil, List.length_cons, List.length_nil, Nat.reduceAdd, Nat.reduceSub, Nat.zero_add, Nat.add_zero, List.replicate, List.cons_append, List.nil_append, List.append_nil, List.getElem?_cons_zero, List.getElem?_cons_succ, List.set_cons_zero, List.set_cons_succ, List.getElem?_nil, Option.map_some, Option.map_none, Option.bind_some, if_true, if_false, ite_true, ite_false, eq_self_iff_true, and_self, and_true, true_and, decide_true, decide_false, Bool.false_eq_true, Bool.not_true, Bool.not_false, sizeLine, Nat.reducePow, Nat.reduceLeDiff, Nat.zero_le, pow_7, pow_18, pow_40]
      -- the coins
      obtain ⟨u4, o4, e4, B4, k5, k6⟩ := take10 (sp := 20) (ga_get (o := o3) (J := [.lst (W.map wD)]) hi) B3 (by omega) (by decide) (by decide)
      rw [ga_set hi] at e4
      obtain ⟨d5, o5, e5, B5, hd5⟩ := pick_ok (xs := [.int p, .none, .int (p + (if (u4 == 0) = true then 1 else 0))]) (ga_get (o := o4) (J := [.lst (W.map wD)]) hi) B4 (by omega) (by simp) (by show 3 ≤ 2 ^ 60; decide)
      rw [ga_set hi] at e5
      obtain ⟨b, rfl⟩ : ∃ b : Option Int, d5 = oD b := by
        simp only [List.mem_cons, List.not_mem_nil, or_false] at hd5
        rcases hd5 with rfl | rfl | rfl
        · exact ⟨some p, rfl⟩
        · exact ⟨none, rfl⟩
        · exact ⟨some _, rfl⟩
      have app : methE appM (getV 6) (consA (tupE (consA (getV 7) (consA (callF 2 B.m_pick (consA (getV 0) (consA (datE (dispE (consA (getV 8) (consA (cst (.d .none)) (consA (op2 addV (getV 8) (callE intV (consA (op2 eqV (callF 2 (B.m_take 10) (consA (getV 0) (consA (cst (.d (.int 20))) nilA))) (cst (.d (.int 0)))) nilA))) nilA))))) nilA))) nilA))) nilA) (EH i n x rp sf t (some (.h K.length)) (some (.d (oD a))) (some (.d (.int p))) (some (.d (.bool (u1 == 0)))) v10 v11) (K.set i o3 ++ [.lst (W.map wD)]) = .ok (.d .none) (K.set i o5 ++ [.lst ((W ++ [(a, b)]).map wD)]) := by
        have hget : ∀ o : MO, (K.set i o ++ [.lst (W.map wD)])[K.length]? = some (.lst (W.map wD)) := fun o => j_get (M := K.set i o) (k := 0) (by simp) rfl
        rw [methE_at (i := K.length) (xs0 := W.map wD) (xs := W.map wD) (ys := [.d (wD (a, b))]) (M2 := K.set i o5 ++ [.lst (W.map wD)]) (by simp only [defM, startE, seqS_a, setS_a, bindS_ok, bindS_er, then_nx, then_rt, then_er, ifS_a, ifK_t, ifK_f, retS_a, dropS_a, asgS_a, asK_a, goG_ok, subT_a, nopS_a, getV_0, getV_s, cst_a, op2_a, o2a_ok, o2b_ok, opT_a, oTa_ok, oTb_ok, consA_a, cAa_ok, cAb_ok, nilA_a, callF_a, cFa_ok, callE_a, cEa_ok, newE_a, nwa_ok, datE_a, dta_ok, dispE_a, tupE_a, tpa_ok, asDs_a, datas, bind_ok, pur_ok, bool_b, leave_d, leave_nx, leave_er, ifE_a, ifa_t, ifa_f, notT_a, nta_ok, andT_a, ana_t, ana_f, orT_a, ora_t, ora_f, tstE_a, tsa_b, andE_a, aEa_t, aEa_f, orE_a, oEa_t, oEa_f, notE_a, nEa_ok, add_ii, sub_ii, gt_ii, lt_ii, ge_ii, le_ii, setT_a, consT_a, cTa_ok, nilT_a, tupT_a, seqT_t, seqT_l, forS_a, List.map_cons, List.map_nil, List.length_cons, List.length_nil, Nat.reduceAdd, Nat.reduceSub, Nat.zero_add, Nat.add_zero, List.replicate, List.cons_append, List.nil_append, List.append_nil, List.getElem?_cons_zero, List.getElem?_cons_succ, List.set_cons_zero, List.set_cons_succ, List.getElem?_nil, Option.map_some, Option.map_none, Option.bind_some, if_true, if_false, ite_true, ite_false, eq_self_iff_true, and_self, and_true, true_and, decide_true, decide_false, Bool.false_eq_true, Bool.not_true, Bool.not_false, sizeLine, Nat.reducePow, Nat.reduceLeDiff, Nat.zero_le, pow_7, pow_18, pow_40]) (hget o3) (by simp only [defM, startE, seqS_a, setS_a, bindS_ok, bindS_er, then_nx, then_rt, then_er, ifS_a, ifK_t, ifK_f, retS_a, dropS_a, asgS_a, asK_a, goG_ok, subT_a, nopS_a, getV_0, getV_s, cst_a, op2_a, o2a_ok, o2b_ok, opT_a, oTa_ok, oTb_ok, consA_a, cAa_ok, cAb_ok, nilA_a, callF_a, cFa_ok, callE_a, cEa_ok, newE_a, nwa_ok, datE_a, dta_ok, dispE_a, tupE_a, tpa_ok, asDs_a, datas, bind_ok, pur_ok, bool_b, leave_d, leave_nx, leave_er, ifE_a, ifa_t, ifa_f, notT_a, nta_ok, andT_a, ana_t, ana_f, orT_a, ora_t, ora_f, tstE_a, tsa_b, andE_a, aEa_t, aEa_f, orE_a, oEa_t, oEa_f, notE_a, nEa_ok, add_ii, sub_ii, gt_ii, lt_ii, ge_ii, le_ii, setT_a, consT_a, cTa_ok, nilT_a, tupT_a, seqT_t, seqT_l, forS_a, List.map_cons, List.map_nil, List.length_cons, List.length_nil, Nat.reduceAdd, Nat.reduceSub, Nat.zero_add, Nat.add_zero, List.replicate, List.cons_append, List.nil_append, List.append_nil, List.getElem?_cons_zero, List.getElem?_cons_succ, List.set_cons_zero, List.set_cons_succ, List.getElem?_nil, Option.map_some, Option.map_none, Option.bind_some, if_true, if_false, ite_true, ite_false, eq_self_iff_true, and_self, and_true, true_and, decide_true, decide_false, Bool.false_eq_true, Bool.not_true, Bool.not_false, sizeLine, Nat.reducePow, Nat.reduceLeDiff, Nat.zero_le, pow_7, pow_18, pow_40, e4, eq_ii, int_b, e5]; rfl) (hget o5), app_at (by rw [hsz, List.length_map]; omega), j_set (M := K.set i o5) (L := K.length) (k := 0) (by simp), List.map_append]
        rfl
      refine ⟨_, _, EH i n x rp sf t (some (.h K.length)) (some (.d (oD a))) (some (.d (.int p))) (some (.d (.bool (u1 == 0)))) v10 v11, _, E1, ?_, W ++ [(a, b)], o5, _, _, _, rfl, rfl, by rw [List.length_append, hW]; rfl, B5.mono (by omega)⟩
      simp only [EH] at e3' app
      unfold HB
      simp only [defM, startE, seqS_a, setS_a, bindS_ok, bindS_er, then_nx, then_rt, then_er, ifS_a, ifK_t, ifK_f, retS_a, dropS_a, asgS_a, asK_a, goG_ok, subT_a, nopS_a, getV_0, getV_s, cst_a, op2_a, o2a_ok, o2b_ok, opT_a, oTa_ok, oTb_ok, consA_a, cAa_ok, cAb_ok, nilA_a, callF_a, cFa_ok, callE_a, cEa_ok, newE_a, nwa_ok, datE_a, dta_ok, dispE_a, tupE_a, tpa_ok, asDs_a, datas, bind_ok, pur_ok, bool_b, leave_d, leave_nx, leave_er, ifE_a, ifa_t, ifa_f, notT_a, nta_ok, andT_a, ana_t, ana_f, orT_a, ora_t, ora_f, tstE_a, tsa_b, andE_a, aEa_t, aEa_f, orE_a, oEa_t, oEa_f, notE_a, nEa_ok, add_ii, sub_ii, gt_ii, lt_ii, ge_ii, le_ii, setT_a, consT_a, cTa_ok, nilT_a, tupT_a, seqT_t, seqT_l, forS_a, List.map_cons, List.map_nil, List.length_cons, List.length_nil, Nat.reduceAdd, Nat.reduceSub, Nat.zero_add, Nat.add_zero, List.replicate, List.cons_append, List.nil_append, List.append_nil, List.getElem?_cons_zero, List.getElem?_cons_succ, List.set_cons_zero, List.set_cons_succ, List.getElem?_nil, Option.map_some, Option.map_none, Option.bind_some, if_true, if_false, ite_true, ite_false, eq_self_iff_true, and_self, and_true, true_and, decide_true, decide_false, Bool.false_eq_true, Bool.not_true, Bool.not_false, sizeLine, Nat.reducePow, Nat.reduceLeDiff, Nat.zero_le, pow_7, pow_18, pow_40, hmul, e2, eq_ii, e3', app])
    ⟨[], o, v7, v8, v9, rfl, by rw [hself]; rfl, rfl, hB⟩
  have hzl : (zipD (ss.map nD) (intsD ps)).length = n := by
    rw [zipD_len]
    unfold intsD
    rw [List.length_map, List.length_map, hs, hp]
    exact Nat.min_self n
  rw [hzl] at hW hB'
  exact ⟨W, o', w7, w8, w9, el, hW, hB'.mono (by omega)⟩
end
end K34
end DL
namespace DL
namespace B
open PySem PySem.Spec L2 DL
open DL.C (Bx getM Bx.mono)
theorem pow_p (k : Nat) (hk : k ≤ 1000) : ∃ Q : Nat, Q = 10 ^ k ∧ ∀ N : Mem, powV (.d (.int 10)) (.d (.int (k : Nat))) N = .ok (.d (nD Q)) N := by
  refine ⟨10 ^ k, rfl, fun N => ?_⟩
  rw [pow_ii (by omega) (by omega) (by decide)]
  simp
end B
end DL
namespace DL
namespace K34
open PySem PySem.Spec L2 DL DL.B
open DL.C (Bx getM Bx.mono)
abbrev OB : Sv := (seqS (setS 6 (newE (dispE nilA))) (seqS (forS (zipI (op2 ixV (getV 2) (cst (.d (.int 0)))) (op2 ixV (getV 2) (cst (.d (.int 1))))) (tupT 2 (consT (setT 7) (consT (setT 8) nilT))) (seqS (setS 9 (op2 eqV (callF 2 (B.m_take 10) (consA (getV 0) (consA (op2 mulV (cst (.d (.int 6))) (op2 addV (cst (.d (.int 1))) (getV 5))) nilA))) (cst (.d (.int 0))))) (seqS (setS 7 (ifE (notT (tstE (getV 9))) (callF 2 B.m_pick (consA (getV 0) (consA (datE (dispE (consA (getV 7) (consA (cst (.d .none)) nilA)))) nilA))) (callF 2 (B.m_take 10) (consA (getV 0) (consA (op2 addV (getV 1) (cst (.d (.int 2)))) nilA))))) (dropS (methE appM (getV 6) (consA (tupE (consA (getV 7) (consA (callF 2 B.m_pick (consA (getV 0) (consA (datE (dispE (consA (getV 8) (consA (cst (.d .none)) (consA (op2 addV (getV 8) (callE intV (consA (op2 eqV (callF 2 (B.m_take 10) (consA (getV 0) (consA (cst (.d (.int 20))) nilA))) (cst (.d (.int 0)))) nilA))) nilA))))) nilA))) nilA))) nilA)))))) (seqS (freeze 6) (seqS (parS 10 6 (consA (callF 2 m_l_meets (consA (getV 2) (consA (getV 6) nilA))) (consA (callE tupleV (consA (getV 6) nilA)) nilA))) (seqS (setS 11 (datE (dispE (consA (callF 2 m_meets (consA (getV 2) (consA (getV 6) nilA))) (consA (callK 0 2 [1, 0] m_meets nilA (consA (callF 1 (C.m_lists 6) (consA (getV 6) nilA)) (consA (getV 4) nilA))) (consA (callF 2 m_meets (consA (getV 4) (consA (getV 6) nilA))) nilA)))))) (ifS (notT (tstE (callF 2 (B.m_same 6) (consA (getV 11) (consA (datE (repE (datE (dispE (consA (getV 10) nilA))) (cst (.d (.int 3))))) nilA))))) (retS (cst (.d (.bool false)))) nopS))))))
section
variable {n : Nat} {ss : List Nat} {ps : List Int}
theorem turn_ok {n0 i t : Nat} {K : Mem} {o : MO} {rp : PyData} (hK : K[i]? = some o) (hB : Bx n0 o) (hn0 : n0 + 100000 ≤ 2 ^ 44) (ht : t ≤ 8) (hn : n ≤ 12) (hs : ss.length = n) (hp : ps.length = n) (v6 v7 v8 v9 v10 v11 : Option Vl) :
    ∃ (o' : MO) (w6 w7 w8 w9 w10 w11 : Option Vl), OB (EH i n (stD ss ps) rp (softD ss ps) t v6 v7 v8 v9 v10 v11) K = .go .nx (EH i n (stD ss ps) rp (softD ss ps) t w6 w7 w8 w9 w10 w11) (K.set i o' ++ [.gone]) ∧ Bx (n0 + 40000) o' := by
  obtain ⟨W, o1, w7, w8, w9, el, hW, B1⟩ := hope_ok (x := stD ss ps) (rp := rp) (sf := softD ss ps) hK hB hn0 ht hn hs hp v10 v11 v7 v8 v9
  have i0 : ∀ N : Mem, ixV (.d (stD ss ps)) (.d (.int 0)) N = .ok (.d (.tuple (ss.map nD))) N := fun N => rfl
  have i1 : ∀ N : Mem, ixV (.d (stD ss ps)) (.d (.int 1)) N = .ok (.d (.tuple (intsD ps))) N := fun N => rfl
  have hz : ∀ N : Mem, zipI (op2 ixV (getV 2) (cst (.d (.int 0)))) (op2 ixV (getV 2) (cst (.d (.int 1)))) (EH i n (stD ss ps) rp (softD ss ps) t (some (.h K.length)) v7 v8 v9 v10 v11) N = .ok (zipD (ss.map nD) (intsD ps)) N := fun N => by
    rw [zipI_a (x := .d (.tuple (ss.map nD))) (y := .d (.tuple (intsD ps))) (M1 := N) (M2 := N) (p := (ss.map nD, intsD ps)) (by simp only [defM, startE, seqS_a, setS_a, bindS_ok, bindS_er, then_nx, then_rt, then_er, ifS_a, ifK_t, ifK_f, retS_a, dropS_a, asgS_a, asK_a, goG_ok, subT_a, nopS_a, getV_0, getV_s, cst_a, op2_a, o2a_ok, o2b_ok, opT_a, oTa_ok, oTb_ok, consA_a, cAa_ok, cAb_ok, nilA_a, callF_a, cFa_ok, callE_a, cEa_ok, newE_a, nwa_ok, datE_a, dta_ok, dispE_a, tupE_a, tpa_ok, asDs_a, datas, bind_ok, pur_ok, bool_b, leave_d, leave_nx, leave_er, ifE_a, ifa_t, ifa_f, notT_a, nta_ok, andT_a, ana_t, ana_f, orT_a, ora_t, ora_f, tstE_a, tsa_b, andE_a, aEa_t, aEa_f, orE_a, oEa_t, oEa_f, notE_a, nEa_ok, add_ii, sub_ii, gt_ii, lt_ii, ge_ii, le_ii, setT_a, consT_a, cTa_ok, nilT_a, tupT_a, seqT_t, seqT_l, forS_a, List.map_cons, List.map_nil, List.length_cons, List.length_nil, Nat.reduceAdd, Nat.reduceSub, Nat.zero_add, Nat.add_zero, List.replicate, List.cons_append, List.nil_append, List.append_nil, List.getElem?_cons_zero, List.getElem?_cons_succ, List.set_cons_zero, List.set_cons_succ, List.getElem?_nil, Option.map_some, Option.map_none, Option.bind_some, if_true, if_false, ite_true, ite_false, eq_self_iff_true, and_self, and_true, true_and, decide_true, decide_false, Bool.false_eq_true, Bool.not_true, Bool.not_false, sizeLine, Nat.reducePow, Nat.reduceLeDiff, Nat.zero_le, pow_7, pow_18, pow_40, i0]) (by simp only [defM, startE, seqS_a, setS_a, bindS_ok, bindS_er, then_nx, then_rt, then_er, ifS_a, ifK_t, ifK_f, retS_a, dropS_a, asgS_a, asK_a, goG_ok, subT_a, nopS_a, getV_0, getV_s, cst_a, op2_a, o2a_ok, o2b_ok, opT_a, oTa_ok, oTb_ok, consA_a, cAa_ok, cAb_ok, nilA_a, callF_a, cFa_ok, callE_a, cEa_ok, newE_a, nwa_ok, datE_a, dta_ok, dispE_a, tupE_a, tpa_ok, asDs_a, datas, bind_ok, pur_ok, bool_b, leave_d, leave_nx, leave_er, ifE_a, ifa_t, ifa_f, notT_a, nta_ok, andT_a, ana_t, ana_f, orT_a, ora_t, ora_f, tstE_a, tsa_b, andE_a, aEa_t, aEa_f, orE_a, oEa_t, oEa_f, notE_a, nEa_ok, add_ii, sub_ii, gt_ii, lt_ii, ge_ii, le_ii, setT_a, consT_a, cTa_ok, nilT_a, tupT_a, seqT_t, seqT_l, forS_a, List.map_cons, List.map_nil, List.length_cons, List.length_nil, Nat.reduceAdd, Nat.reduceSub, Nat.zero_add, Nat.add_zero, List.replicate, List.cons_append, List.nil_append, List.append_nil, List.getElem?_cons_zero, List.getElem?_cons_succ, List.set_cons_zero, List.set_cons_succ, List.getElem?_nil, Option.map_some, Option.map_none, Option.bind_some, if_true, if_false, ite_true, ite_false, eq_self_iff_true, and_self, and_true, true_and, decide_true, decide_false, Bool.false_eq_true, Bool.not_true, Bool.not_false, sizeLine, Nat.reducePow, Nat.reduceLeDiff, Nat.zero_le, pow_7, pow_18, pow_40, i1]) rfl]
  have fz : freeze 6 (EH i n (stD ss ps) rp (softD ss ps) t (some (.h K.length)) w7 w8 w9 v10 v11) (K.set i o1 ++ [.lst (W.map wD)]) = .go .nx (EH i n (stD ss ps) rp (softD ss ps) t (some (.d (.list (W.map wD)))) w7 w8 w9 v10 v11) (K.set i o1 ++ [.gone]) := jfz (L := K.length) (k := 0) rfl (by simp) rfl
  have m1 : ∀ N : Mem, m_l_meets [.d (stD ss ps), .d (.list (W.map wD))] N = .ok (.d (.bool (metW ss ps W))) N := fun N => l_meets_ok hs hp hW
  have m2 : ∀ N : Mem, m_meets [.d (stD ss ps), .d (.tuple (W.map wD))] N = .ok (.d (.bool (metW ss ps W))) N := fun N => meets_ok (.inl rfl) hs hp hW (by omega) (.inl rfl) rfl (by rw [len_t, List.length_map, hW])
  have m3 : ∀ N : Mem, m_meets [.d (softD ss ps), .d (.list (W.map wL))] N = .ok (.d (.bool (metW ss ps W))) N := fun N => meets_ok (.inr rfl) hs hp hW (by omega) (.inr rfl) rfl (by rw [len_l, List.length_map, hW])
  have m4 : ∀ N : Mem, m_meets [.d (softD ss ps), .d (.tuple (W.map wD))] N = .ok (.d (.bool (metW ss ps W))) N := fun N => meets_ok (.inl rfl) hs hp hW (by omega) (.inr rfl) rfl (by rw [len_t, List.length_map, hW])
  have ls := fun N : Mem => wish_soft W (by omega) N
  have hrep : ∀ (e : Env) (N : Mem), e[10]? = some (some (.d (.bool (metW ss ps W)))) → repE (datE (dispE (consA (getV 10) nilA))) (cst (.d (.int 3))) e N = .ok [.bool (metW ss ps W), .bool (metW ss ps W), .bool (metW ss ps W)] N := fun e N h => by
    have g10 : getV 10 e N = .ok (.d (.bool (metW ss ps W))) N := by unfold getV; rw [h]
    rw [rep_l (xs := [.bool (metW ss ps W)]) (n := 3) (M1 := N) (M2 := N) (by simp only [defM, startE, seqS_a, setS_a, bindS_ok, bindS_er, then_nx, then_rt, then_er, ifS_a, ifK_t, ifK_f, retS_a, dropS_a, asgS_a, asK_a, goG_ok, subT_a, nopS_a, getV_0, getV_s, cst_a, op2_a, o2a_ok, o2b_ok, opT_a, oTa_ok, oTb_ok, consA_a, cAa_ok, cAb_ok, nilA_a, callF_a, cFa_ok, callE_a, cEa_ok, newE_a, nwa_ok, datE_a, dta_ok, dispE_a, tupE_a, tpa_ok, asDs_a, datas, bind_ok, pur_ok, bool_b, leave_d, leave_nx, leave_er, ifE_a, ifa_t, ifa_f, notT_a, nta_ok, andT_a, ana_t, ana_f, orT_a, ora_t, ora_f, tstE_a, tsa_b, andE_a, aEa_t, aEa_f, orE_a, oEa_t, oEa_f, notE_a, nEa_ok, add_ii, sub_ii, gt_ii, lt_ii, ge_ii, le_ii, setT_a, consT_a, cTa_ok, nilT_a, tupT_a, seqT_t, seqT_l, forS_a, List.map_cons, List.map_nil, List.length_cons, List.length_nil, Nat.reduceAdd, Nat.reduceSub, Nat.zero_add, Nat.add_zero, List.replicate, List.cons_append, List.nil_append, List.append_nil, List.getElem?_cons_zero, List.getElem?_cons_succ, List.set_cons_zero, List.set_cons_succ, List.getElem?_nil, Option.map_some, Option.map_none, Option.bind_some, if_true, if_false, ite_true, ite_false, eq_self_iff_true, and_self, and_true, true_and, decide_true, decide_false, Bool.false_eq_true, Bool.not_true, Bool.not_false, sizeLine, Nat.reducePow, Nat.reduceLeDiff, Nat.zero_le, pow_7, pow_18, pow_40, g10]) (by simp only [defM, startE, seqS_a, setS_a, bindS_ok, bindS_er, then_nx, then_rt, then_er, ifS_a, ifK_t, ifK_f, retS_a, dropS_a, asgS_a, asK_a, goG_ok, subT_a, nopS_a, getV_0, getV_s, cst_a, op2_a, o2a_ok, o2b_ok, opT_a, oTa_ok, oTb_ok, consA_a, cAa_ok, cAb_ok, nilA_a, callF_a, cFa_ok, callE_a, cEa_ok, newE_a, nwa_ok, datE_a, dta_ok, dispE_a, tupE_a, tpa_ok, asDs_a, datas, bind_ok, pur_ok, bool_b, leave_d, leave_nx, leave_er, ifE_a, ifa_t, ifa_f, notT_a, nta_ok, andT_a, ana_t, ana_f, orT_a, ora_t, ora_f, tstE_a, tsa_b, andE_a, aEa_t, aEa_f, orE_a, oEa_t, oEa_f, notE_a, nEa_ok, add_ii, sub_ii, gt_ii, lt_ii, ge_ii, le_ii, setT_a, consT_a, cTa_ok, nilT_a, tupT_a, seqT_t, seqT_l, forS_a, List.map_cons, List.map_nil, List.length_cons, List.length_nil, Nat.reduceAdd, Nat.reduceSub, Nat.zero_add, Nat.add_zero, List.replicate, List.cons_append, List.nil_append, List.append_nil, List.getElem?_cons_zero, List.getElem?_cons_succ, List.set_cons_zero, List.set_cons_succ, List.getElem?_nil, Option.map_some, Option.map_none, Option.bind_some, if_true, if_false, ite_true, ite_false, eq_self_iff_true, and_self, and_true, true_and, decide_true, decide_false, Bool.false_eq_true, Bool.not_true, Bool.not_false, sizeLine, Nat.reducePow, Nat.reduceLeDiff, Nat.zero_le, pow_7, pow_18, pow_40]; rfl) (by simp) (by decide)]
    rfl
  have sm : ∀ N : Mem, B.m_same 6 [.d (.list [.bool (metW ss ps W), .bool (metW ss ps W), .bool (metW ss ps W)]), .d (.list [.bool (metW ss ps W), .bool (metW ss ps W), .bool (metW ss ps W)])] N = .ok (.d (.bool true)) N := fun N => same_d (it_seq (.inl rfl) (by simp) fun z hz => by
    simp only [List.mem_cons, List.not_mem_nil, or_false] at hz
    rcases hz with rfl | rfl | rfl <;> exact .inl rfl)
  refine ⟨o1, some (.d (.tuple (W.map wD))), w7, w8, w9, some (.d (.bool (metW ss ps W))), some (.d (.list [.bool (metW ss ps W), .bool (metW ss ps W), .bool (metW ss ps W)])), ?_, B1⟩
  generalize metW ss ps W = b at *
  unfold HB at el
  simp only [EH] at el hz fz
  generalize W.map wD = D at *
  generalize W.map wL = DL' at *
  unfold OB
  simp only [defM, startE, seqS_a, setS_a, bindS_ok, bindS_er, then_nx, then_rt, then_er, ifS_a, ifK_t, ifK_f, retS_a, dropS_a, asgS_a, asK_a, goG_ok, subT_a, nopS_a, getV_0, getV_s, cst_a, op2_a, o2a_ok, o2b_ok, opT_a, oTa_ok, oTb_ok, consA_a, cAa_ok, cAb_ok, nilA_a, callF_a, cFa_ok, callE_a, cEa_ok, newE_a, nwa_ok, datE_a, dta_ok, dispE_a, tupE_a, tpa_ok, asDs_a, datas, bind_ok, pur_ok, bool_b, leave_d, leave_nx, leave_er, ifE_a, ifa_t, ifa_f, notT_a, nta_ok, andT_a, ana_t, ana_f, orT_a, ora_t, ora_f, tstE_a, tsa_b, andE_a, aEa_t, aEa_f, orE_a, oEa_t, oEa_f, notE_a, nEa_ok, add_ii, sub_ii, gt_ii, lt_ii, ge_ii, le_ii, setT_a, consT_a, cTa_ok, nilT_a, tupT_a, seqT_t, seqT_l, forS_a, List.map_cons, List.map_nil, List.length_cons, List.length_nil, Nat.reduceAdd, Nat.reduceSub, Nat.zero_add, Nat.add_zero, List.replicate, List.cons_append, List.nil_append, List.append_nil, List.getElem?_cons_zero, List.getElem?_cons_succ, List.set_cons_zero, List.set_cons_succ, List.getElem?_nil, Option.map_some, Option.map_none, Option.bind_some, if_true, if_false, ite_true, ite_false, eq_self_iff_true, and_self, and_true, true_and, decide_true, decide_false, Bool.false_eq_true, Bool.not_true, Bool.not_false, sizeLine, Nat.reducePow, Nat.reduceLeDiff, Nat.zero_le, pow_7, pow_18, pow_40, nwa_ok, hz, el, fz, parS_a, m1, tup_l, m2, ls, callK_a, cKa_ok, cKb_10, m3, m4, hrep, sm]
theorem F_ok : ∀ (ss : List Nat) (ps : List Int), ((ss.zip ps).zip ((ss.zip ps).map fun p => ((some (p.1 : Int), some p.2) : Wi))).all okT = true := by
  intro ss ps
  rw [List.all_eq_true]
  intro t ht
  generalize hL : ss.zip ps = L at ht
  clear hL
  induction L with
  | nil => cases ht
  | cons p L ih =>
    rw [List.map_cons, List.zip_cons_cons] at ht
    rcases List.mem_cons.mp ht with rfl | ht
    · unfold okT metO
      simp
    · exact ih ht
theorem N_ok (ss : List Nat) (ps : List Int) (n : Nat) : ((ss.zip ps).zip (List.replicate n ((none, none) : Wi))).all okT = true := by
  rw [List.all_eq_true]
  rintro ⟨a, b⟩ ht
  have := List.eq_of_mem_replicate (List.of_mem_zip ht).2
  subst this
  rfl
end
theorem right_ok {n0 i : Nat} {M : Mem} {o : MO} (hM : M[i]? = some o) (hB : Bx n0 o) (hn0 : n0 + 600000 ≤ 2 ^ 44) : ∃ o', m_right [.h i] M = .ok (.d (.bool true)) (M.set i o') := by
  have hi : i < M.length := DL.lt_of_get hM
  obtain ⟨u1, o1, e1, B1, k1, k2⟩ := take10 (sp := 11) hM hB (by omega) (by decide) (by decide)
  obtain ⟨w, rfl⟩ := Int.eq_ofNat_of_zero_le k1
  have hadd : (2 : Int) + (w : Int) = ((2 + w : Nat) : Int) := by omega
  obtain ⟨P38, hP38, e38⟩ := pow_p 38 (by decide)
  have e38 : ∀ N : Mem, powV (.d (.int 10)) (.d (.int 38)) N = .ok (.d (nD P38)) N := e38
  have hmul : ∀ N : Mem, mulV (.d (.int 8)) (.d (nD P38)) N = .ok (.d (.int (8 * (P38 : Int)))) N := fun N => mul_ii (.inl (by decide))
  obtain ⟨d, o2, e2, B2, hd⟩ := pick_ok (xs := [.int 1, .int 9, .int (8 * (P38 : Int))]) (getM (o' := o1) hM) B1 (by omega) (by simp) (by show 3 ≤ 2 ^ 60; decide)
  rw [List.set_set] at e2
  obtain ⟨t, rfl, ht0, ht6⟩ : ∃ t : Int, d = .int t ∧ 0 ≤ t ∧ t ≤ 8 * 10 ^ 38 := by
    simp only [List.mem_cons, List.not_mem_nil, or_false] at hd
    rcases hd with rfl | rfl | rfl
    · exact ⟨1, rfl, by decide, by decide⟩
    · exact ⟨9, rfl, by decide, by decide⟩
    · exact ⟨_, rfl, by omega, by rw [hP38]; decide⟩
  obtain ⟨ss, ps, o3, e3, B3, hst⟩ := pose_ok (n := 2 + w) (top := t) (getM (o' := o2) hM) B2 (by omega) (by omega) ht0 (by omega)
  rw [List.set_set] at e3
  have hw : 2 + w ≤ 12 := by omega
  have h2 : 2 ≤ 2 + w := by omega
  generalize hn : 2 + w = n at *
  have h : Stt n ss ps := hst.stt
  have hsl := h.slen
  have hpl := h.len
  have hT : ∀ p ∈ ps, p ≤ 10 ^ 60 := fun p hp => by have := (hst.top p hp).2; omega
  have hnn := h.nn
  clear hd hP38 k1 k2
  have hrepr : ∀ N : Mem, reprV [.d (stD ss ps)] N = .ok (.d (.str (stD ss ps).shown)) N := fun N => repr_st (by omega) (by omega) (fun s hs => by have := List.mem_range.mp (h.perm.mem_iff.mp hs); omega) (fun p hp => by have := hT p hp; have := hnn p hp; omega)
  have hsoft : ∀ N : Mem, C.m_lists 6 [.d (stD ss ps)] N = .ok (.d (softD ss ps)) N := fun N => C.lists_ok 5 _ _ N (soft_tr (k := 3) (by omega) (by omega))
  generalize hR : (stD ss ps).shown = R at *
  -- eight turns
  obtain ⟨e', M', el, o4, J, v5, v6, v7, v8, v9, v10, v11, rfl, rfl, B4⟩ := forL_all (γ := setT 5) (g := OB)
    (fun j e N => ∃ (o4 : MO) (J : Mem) (v5 v6 v7 v8 v9 v10 v11 : Option Vl), e = [some (.h i), some (.d (nD n)), some (.d (stD ss ps)), some (.d (.str R)), some (.d (softD ss ps)), v5, v6, v7, v8, v9, v10, v11, none] ∧ N = M.set i o4 ++ J ∧ Bx (n0 + 512 + 512 + 2000 * n + 40000 * j) o4)
    (xs := rangeD 0 8) (e := [some (.h i), some (.d (nD n)), some (.d (stD ss ps)), some (.d (.str R)), some (.d (softD ss ps)), none, none, none, none, none, none, none, none]) (M := M.set i o3)
    (by
      rintro j z e N hz ⟨o4, J, v5, v6, v7, v8, v9, v10, v11, rfl, rfl, B4⟩
      have hz' : (rangeD 0 ((8 : Nat) : Int))[j]? = some z := hz
      rw [rangeD_nat, List.getElem?_map] at hz'
      obtain ⟨j', hj', rfl⟩ := Option.map_eq_some_iff.mp hz'
      have hj8 : j < 8 := by have := lt_of_getL hj'; simpa using this
      have : j' = j := by rw [List.getElem?_range hj8] at hj'; exact (Option.some.inj hj').symm
      subst this
      obtain ⟨o5, w6, w7, w8, w9, w10, w11, et, B5⟩ := turn_ok (t := j') (rp := .str R) (ss := ss) (ps := ps) (n := n) (ga_get (o := o4) (J := J) hi) B4 (by omega) (by omega) hw hsl hpl v6 v7 v8 v9 v10 v11
      rw [ga_set hi, List.append_assoc] at et
      refine ⟨EH i n (stD ss ps) (.str R) (softD ss ps) j' v6 v7 v8 v9 v10 v11, M.set i o4 ++ J, _, _, by simp only [EH]; simp only [defM, startE, seqS_a, setS_a, bindS_ok, bindS_er, then_nx, then_rt, then_er, ifS_a, ifK_t, ifK_f, retS_a, dropS_a, asgS_a, asK_a, goG_ok, subT_a, nopS_a, getV_0, getV_s, cst_a, op2_a, o2a_ok, o2b_ok, opT_a, oTa_ok, oTb_ok, consA_a, cAa_ok, cAb_ok, nilA_a, callF_a, cFa_ok, callE_a, cEa_ok, newE_a, nwa_ok, datE_a, dta_ok, dispE_a, tupE_a, tpa_ok, asDs_a, datas, bind_ok, pur_ok, bool_b, leave_d, leave_nx, leave_er, ifE_a, ifa_t, ifa_f, notT_a, nta_ok, andT_a, ana_t, ana_f, orT_a, ora_t, ora_f, tstE_a, tsa_b, andE_a, aEa_t, aEa_f, orE_a, oEa_t, oEa_f, notE_a, nEa_ok, add_ii, sub_ii, gt_ii, lt_ii, ge_ii, le_ii, setT_a, consT_a, cTa_ok, nilT_a, tupT_a, seqT_t, seqT_l, forS_a, List.map_cons, List.map_nil, List.length_cons, List.length_nil, Nat.reduceAdd, Nat.reduceSub, Nat.zero_add, Nat.add_zero, List.replicate, List.cons_append, List.nil_append, List.append_nil, List.getElem?_cons_zero, List.getElem?_cons_succ, List.set_cons_zero, List.set_cons_succ, List.getElem?_nil, Option.map_some, Option.map_none, Option.bind_some, if_true, if_false, ite_true, ite_false, eq_self_iff_true, and_self, and_true, true_and, decide_true, decide_false, Bool.false_eq_true, Bool.not_true, Bool.not_false, sizeLine, Nat.reducePow, Nat.reduceLeDiff, Nat.zero_le, pow_7, pow_18, pow_40], et, o5, J ++ [.gone], _, _, _, _, _, _, _, rfl, rfl, B5.mono (by omega)⟩)
    ⟨o3, [], none, none, none, none, none, none, none, rfl, by rw [List.append_nil], B3.mono (by omega)⟩
  have hrg : rngI1 (cst (.d (.int 8))) [some (.h i), some (.d (nD n)), some (.d (stD ss ps)), some (.d (.str R)), some (.d (softD ss ps)), none, none, none, none, none, none, none, none] (M.set i o3) = .ok (rangeD 0 8) (M.set i o3) := rngI1_a (by simp only [defM, startE, seqS_a, setS_a, bindS_ok, bindS_er, then_nx, then_rt, then_er, ifS_a, ifK_t, ifK_f, retS_a, dropS_a, asgS_a, asK_a, goG_ok, subT_a, nopS_a, getV_0, getV_s, cst_a, op2_a, o2a_ok, o2b_ok, opT_a, oTa_ok, oTb_ok, consA_a, cAa_ok, cAb_ok, nilA_a, callF_a, cFa_ok, callE_a, cEa_ok, newE_a, nwa_ok, datE_a, dta_ok, dispE_a, tupE_a, tpa_ok, asDs_a, datas, bind_ok, pur_ok, bool_b, leave_d, leave_nx, leave_er, ifE_a, ifa_t, ifa_f, notT_a, nta_ok, andT_a, ana_t, ana_f, orT_a, ora_t, ora_f, tstE_a, tsa_b, andE_a, aEa_t, aEa_f, orE_a, oEa_t, oEa_f, notE_a, nEa_ok, add_ii, sub_ii, gt_ii, lt_ii, ge_ii, le_ii, setT_a, consT_a, cTa_ok, nilT_a, tupT_a, seqT_t, seqT_l, forS_a, List.map_cons, List.map_nil, List.length_cons, List.length_nil, Nat.reduceAdd, Nat.reduceSub, Nat.zero_add, Nat.add_zero, List.replicate, List.cons_append, List.nil_append, List.append_nil, List.getElem?_cons_zero, List.getElem?_cons_succ, List.set_cons_zero, List.set_cons_succ, List.getElem?_nil, Option.map_some, Option.map_none, Option.bind_some, if_true, if_false, ite_true, ite_false, eq_self_iff_true, and_self, and_true, true_and, decide_true, decide_false, Bool.false_eq_true, Bool.not_true, Bool.not_false, sizeLine, Nat.reducePow, Nat.reduceLeDiff, Nat.zero_le, pow_7, pow_18, pow_40]) (by decide)
  -- all that is so, nothing wished
  have i0 : ∀ N : Mem, ixV (.d (stD ss ps)) (.d (.int 0)) N = .ok (.d (.tuple (ss.map nD))) N := fun N => rfl
  have i1 : ∀ N : Mem, ixV (.d (stD ss ps)) (.d (.int 1)) N = .ok (.d (.tuple (intsD ps))) N := fun N => rfl
  have hFl : ((ss.zip ps).map fun p => ((some (p.1 : Int), some p.2) : Wi)).length = n := by rw [List.length_map, List.length_zip, hsl, hpl]; exact Nat.min_self n
  have hF : metW ss ps ((ss.zip ps).map fun p => ((some (p.1 : Int), some p.2) : Wi)) = true := by rw [← all_two ss ps _ (by omega) (by omega)]; exact F_ok ss ps
  have hN : metW ss ps (List.replicate n ((none, none) : Wi)) = true := by rw [← all_two ss ps _ (by simp; omega) (by simp; omega)]; exact N_ok ss ps n
  have hzF : zipD (ss.map nD) (intsD ps) = ((ss.zip ps).map fun p => ((some (p.1 : Int), some p.2) : Wi)).map wD := by
    unfold zipD intsD
    rw [List.zip_map, List.map_map, List.map_map]
    rfl
  have m1 : ∀ N : Mem, m_meets [.d (stD ss ps), .d (.tuple (zipD (ss.map nD) (intsD ps)))] N = .ok (.d (.bool true)) N := fun N => by
    rw [hzF, meets_ok (.inl rfl) hsl hpl hFl (by omega) (.inl rfl) rfl (by rw [len_t, List.length_map, hFl]), hF]
  have m2 : ∀ N : Mem, m_meets [.d (stD ss ps), .d (.tuple (List.replicate n (.tuple [.none, .none])))] N = .ok (.d (.bool true)) N := fun N => by
    have e : List.replicate n (PyData.tuple [.none, .none]) = (List.replicate n ((none, none) : Wi)).map wD := by rw [List.map_replicate]; rfl
    rw [e, meets_ok (.inl rfl) hsl hpl (by simp) (by omega) (.inl rfl) rfl (by rw [len_t, List.length_map, List.length_replicate]), hN]
  have hm2 : ∀ N : Mem, mulT2V (.d (.tuple [.tuple [.none, .none]])) (.d (nD n)) N = .ok (.d (.tuple (List.replicate n (.tuple [.none, .none])))) N := fun N => by
    show (if ((n : Nat) : Int) = 1 then _ else mulTV _ _ N) = _
    rw [if_neg (by omega)]
    refine (if_pos ⟨by simp, by omega, by omega, by simp⟩).trans ?_
    rw [Int.toNat_natCast, List.flatten_replicate_singleton]
  have tz : ∀ (e : Env) (N : Mem), e[2]? = some (some (.d (stD ss ps))) → tzE (op2 ixV (getV 2) (cst (.d (.int 0)))) (op2 ixV (getV 2) (cst (.d (.int 1)))) e N = .ok (.d (.tuple (zipD (ss.map nD) (intsD ps)))) N := fun e N he => by
    have g2 : getV 2 e N = .ok (.d (stD ss ps)) N := by unfold getV; rw [he]
    exact tzE_a (x := .d (.tuple (ss.map nD))) (y := .d (.tuple (intsD ps))) (M1 := N) (by simp only [defM, startE, seqS_a, setS_a, bindS_ok, bindS_er, then_nx, then_rt, then_er, ifS_a, ifK_t, ifK_f, retS_a, dropS_a, asgS_a, asK_a, goG_ok, subT_a, nopS_a, getV_0, getV_s, cst_a, op2_a, o2a_ok, o2b_ok, opT_a, oTa_ok, oTb_ok, consA_a, cAa_ok, cAb_ok, nilA_a, callF_a, cFa_ok, callE_a, cEa_ok, newE_a, nwa_ok, datE_a, dta_ok, dispE_a, tupE_a, tpa_ok, asDs_a, datas, bind_ok, pur_ok, bool_b, leave_d, leave_nx, leave_er, ifE_a, ifa_t, ifa_f, notT_a, nta_ok, andT_a, ana_t, ana_f, orT_a, ora_t, ora_f, tstE_a, tsa_b, andE_a, aEa_t, aEa_f, orE_a, oEa_t, oEa_f, notE_a, nEa_ok, add_ii, sub_ii, gt_ii, lt_ii, ge_ii, le_ii, setT_a, consT_a, cTa_ok, nilT_a, tupT_a, seqT_t, seqT_l, forS_a, List.map_cons, List.map_nil, List.length_cons, List.length_nil, Nat.reduceAdd, Nat.reduceSub, Nat.zero_add, Nat.add_zero, List.replicate, List.cons_append, List.nil_append, List.append_nil, List.getElem?_cons_zero, List.getElem?_cons_succ, List.set_cons_zero, List.set_cons_succ, List.getElem?_nil, Option.map_some, Option.map_none, Option.bind_some, if_true, if_false, ite_true, ite_false, eq_self_iff_true, and_self, and_true, true_and, decide_true, decide_false, Bool.false_eq_true, Bool.not_true, Bool.not_false, sizeLine, Nat.reducePow, Nat.reduceLeDiff, Nat.zero_le, pow_7, pow_18, pow_40, g2, i0]) (by simp only [defM, startE, seqS_a, setS_a, bindS_ok, bindS_er, then_nx, then_rt, then_er, ifS_a, ifK_t, ifK_f, retS_a, dropS_a, asgS_a, asK_a, goG_ok, subT_a, nopS_a, getV_0, getV_s, cst_a, op2_a, o2a_ok, o2b_ok, opT_a, oTa_ok, oTb_ok, consA_a, cAa_ok, cAb_ok, nilA_a, callF_a, cFa_ok, callE_a, cEa_ok, newE_a, nwa_ok, datE_a, dta_ok, dispE_a, tupE_a, tpa_ok, asDs_a, datas, bind_ok, pur_ok, bool_b, leave_d, leave_nx, leave_er, ifE_a, ifa_t, ifa_f, notT_a, nta_ok, andT_a, ana_t, ana_f, orT_a, ora_t, ora_f, tstE_a, tsa_b, andE_a, aEa_t, aEa_f, orE_a, oEa_t, oEa_f, notE_a, nEa_ok, add_ii, sub_ii, gt_ii, lt_ii, ge_ii, le_ii, setT_a, consT_a, cTa_ok, nilT_a, tupT_a, seqT_t, seqT_l, forS_a, List.map_cons, List.map_nil, List.length_cons, List.length_nil, Nat.reduceAdd, Nat.reduceSub, Nat.zero_add, Nat.add_zero, List.replicate, List.cons_append, List.nil_append, List.append_nil, List.getElem?_cons_zero, List.getElem?_cons_succ, List.set_cons_zero, List.set_cons_succ, List.getElem?_nil, Option.map_some, Option.map_none, Option.bind_some, if_true, if_false, ite_true, ite_false, eq_self_iff_true, and_self, and_true, true_and, decide_true, decide_false, Bool.false_eq_true, Bool.not_true, Bool.not_false, sizeLine, Nat.reducePow, Nat.reduceLeDiff, Nat.zero_le, pow_7, pow_18, pow_40, g2, i1]) rfl rfl
  have sm := fun N : Mem => same_dd (x := .bool true) (y := .bool true) (M := N) (.inl rfl) (.inl rfl)
  have es : ∀ N : Mem, eqV (.d (.str R)) (.d (.str R)) N = .ok (.d (.bool true)) N := fun N => by rw [eq_ss]; simp
  have ef : ∀ N : Mem, eqV (.d (softD ss ps)) (.d (softD ss ps)) N = .ok (.d (.bool true)) N := fun N => eq_self_gd (by decide) (by decide) (gd_soft h (by omega) hT) rfl
  refine ⟨o4, ?_⟩
  unfold OB at el
  generalize zipD (ss.map nD) (intsD ps) = Z at *
  generalize List.replicate n (PyData.tuple [.none, .none]) = Y at *
  generalize stD ss ps = X0 at *
  generalize softD ss ps = X1 at *
  unfold m_right g_right
  simp only [defM, startE, seqS_a, setS_a, bindS_ok, bindS_er, then_nx, then_rt, then_er, ifS_a, ifK_t, ifK_f, retS_a, dropS_a, asgS_a, asK_a, goG_ok, subT_a, nopS_a, getV_0, getV_s, cst_a, op2_a, o2a_ok, o2b_ok, opT_a, oTa_ok, oTb_ok, consA_a, cAa_ok, cAb_ok, nilA_a, callF_a, cFa_ok, callE_a, cEa_ok, newE_a, nwa_ok, datE_a, dta_ok, dispE_a, tupE_a, tpa_ok, asDs_a, datas, bind_ok, pur_ok, bool_b, leave_d, leave_nx, leave_er, ifE_a, ifa_t, ifa_f, notT_a, nta_ok, andT_a, ana_t, ana_f, orT_a, ora_t, ora_f, tstE_a, tsa_b, andE_a, aEa_t, aEa_f, orE_a, oEa_t, oEa_f, notE_a, nEa_ok, add_ii, sub_ii, gt_ii, lt_ii, ge_ii, le_ii, setT_a, consT_a, cTa_ok, nilT_a, tupT_a, seqT_t, seqT_l, forS_a, List.map_cons, List.map_nil, List.length_cons, List.length_nil, Nat.reduceAdd, Nat.reduceSub, Nat.zero_add, Nat.add_zero, List.replicate, List.cons_append, List.nil_append, List.append_nil, List.getElem?_cons_zero, List.getElem?_cons_succ, List.set_cons_zero, List.set_cons_succ, List.getElem?_nil, Option.map_some, Option.map_none, Option.bind_some, if_true, if_false, ite_true, ite_false, eq_self_iff_true, and_self, and_true, true_and, decide_true, decide_false, Bool.false_eq_true, Bool.not_true, Bool.not_false, sizeLine, Nat.reducePow, Nat.reduceLeDiff, Nat.zero_le, pow_7, pow_18, pow_40, e1, hadd, hn, e38, hmul, e2, e3, parS_a, hrepr, hsoft, hrg, el, tz, m1, hm2, m2, sm, andE_a, aEa_t, es, ef]
  rw [List.take_append_of_le_length (by simp), take_all (by simp)]
theorem law_ok (ns : List Int) (hn : ns.length ≤ 63) : ∃ M, m_law [.s (ns.map PyData.int)] [] = .ok (.d (.bool true)) M :=
  B.law_gen (right := m_right) (k := 3) (by decide) (fun i M o hM hB => right_ok hM hB (by decide)) ns hn
end K34
end DL
namespace DL.K34
open PySem PySem.Spec L2 DL
section
variable {P : Program} {w : World} {K : Frag} {mg : Str → Option Value} {base : Heap}
theorem init_OtherPeople {f : Addr} {fd : FuncData} (F : FunT K "__init__" "OtherPeople.__init__" s_OtherPeople_init f fd) (hB : mg "ValueError" = none) (vV : PySem.W.findCls K (.type "ValueError") (.type "type") "__init__" = some (.val (.builtin "ValueError.__init__"))) : FnOk P w K mg base (L2.CX P w) 1 f fd ["self", "many"] (spInit K "ValueError.__new__" (mroB "ValueError") "many") :=
  F.ok sc_OtherPeople_init spInit_len fun cdv A outer s H vs Q E hr hsp => ⟨_, pss_cons (ps_expr (pe_binit base_ValueError rfl hB PyProof.Rows.Boot.«ValueError» (by decide +kernel) (by decide +kernel) vV (by decide) (by decide) (pa_cons (pv 0) (pa_cons pe_str pa_nil)))) (pss_one (ps_fld base_ValueError (pv 0) (pv 1))), init_fin hsp⟩
theorem ok_check_wish {f : Addr} {fd : FuncData} (F : FunT K "check_wish" "check_wish" s_check_wish f fd) (G : Gs mg)  : FnD P w K mg base 1 f fd ["state", "wish"] m_check_wish :=
  fnDD F sc_check_wish fun cdv A outer s H E hr ga => (dss_one (ds_if (dt_cmp (opd_ne hr.units) (de_callB cd_len rfl G.b_len PySem.boot_len (da_cons (de_var (i := 1) rfl (by first | exact Or.inl rfl | exact Or.inr (Or.inl rfl) | exact Or.inr (Or.inr rfl))) da_nil)) (de_callB cd_len rfl G.b_len PySem.boot_len (da_cons (de_ix (de_var (i := 0) rfl (by first | exact Or.inl rfl | exact Or.inr (Or.inl rfl) | exact Or.inr (Or.inr rfl))) de_int) da_nil))) (dss_one ds_no) dss_nil))
theorem ok_are_met {f : Addr} {fd : FuncData} (F : FunT K "are_met" "are_met" s_are_met f fd) (G : Gs mg)  : FnD P w K mg base 1 f fd ["wished", "found"] m_are_met :=
  fnDD F sc_are_met fun cdv A outer s H E hr ga => (dss_one (ds_ret (de_callB (cd_all rfl) rfl G.b_all PyProof.Rows.boot_all (da_cons (de_dat (df_lc (own := [("own", 2), ("number", 3)]) rfl sc_are_met.nd (di_zip rfl G.b_zip (de_var (i := 0) rfl (by first | exact Or.inl rfl | exact Or.inr (Or.inl rfl) | exact Or.inr (Or.inr rfl))) (de_var (i := 1) rfl (by first | exact Or.inl rfl | exact Or.inr (Or.inl rfl) | exact Or.inr (Or.inr rfl)))) (blkOk_by rfl) (fun _ _ _ _ _ => (gv_tup rfl (gvs_cons (gv_name (i := 2) (by decide) sc_are_met.nd rfl (by first | exact Or.inl rfl | exact Or.inr rfl)) (gvs_cons (gv_name (i := 3) (by decide) sc_are_met.nd rfl (by first | exact Or.inl rfl | exact Or.inr rfl)) gvs_nil)))) (fun _ _ _ _ _ => dts_nil) (fun _ _ _ _ _ => (de_or (de_cmp opd_is (de_var (i := 2) rfl (by first | exact Or.inl rfl | exact Or.inr (Or.inl rfl) | exact Or.inr (Or.inr rfl))) de_non) (de_one (de_cmp (opd_eq hr.units) (de_var (i := 2) rfl (by first | exact Or.inl rfl | exact Or.inr (Or.inl rfl) | exact Or.inr (Or.inr rfl))) (de_var (i := 3) rfl (by first | exact Or.inl rfl | exact Or.inr (Or.inl rfl) | exact Or.inr (Or.inr rfl))))))))) da_nil))))
theorem ok_meets {f : Addr} {fd : FuncData} (F : FunT K "meets" "meets" s_meets f fd) (G : Gs mg) (c_check_wish : Cald P w K mg base 1 "check_wish" 2 m_check_wish) (c_are_met : Cald P w K mg base 1 "are_met" 2 m_are_met) : FnD P w K mg base 2 f fd ["state", "wish"] m_meets :=
  fnDD F sc_meets fun cdv A outer s H E hr ga => (dss_cons (ds_expr (de_call c_check_wish hr ga (by decide) body_takes rfl (da_cons (de_var (i := 0) rfl (by first | exact Or.inl rfl | exact Or.inr (Or.inl rfl) | exact Or.inr (Or.inr rfl))) (da_cons (de_var (i := 1) rfl (by first | exact Or.inl rfl | exact Or.inr (Or.inl rfl) | exact Or.inr (Or.inr rfl))) da_nil)))) (dss_cons (ds_asg (de_var (i := 0) rfl (by first | exact Or.inl rfl | exact Or.inr (Or.inl rfl) | exact Or.inr (Or.inr rfl))) (gd_seq rfl (gds_cons (gd_name (i := 2) sc_meets.nd rfl (by first | exact Or.inl rfl | exact Or.inr rfl)) (gds_cons (gd_name (i := 3) sc_meets.nd rfl (by first | exact Or.inl rfl | exact Or.inr rfl)) gds_nil)))) (dss_cons (ds_setLc (i := 4) (own := [("seat", 6), ("_", 7)]) rfl sc_meets.nd rfl rfl rfl (di_seq (de_var (i := 1) rfl (by first | exact Or.inl rfl | exact Or.inr (Or.inl rfl) | exact Or.inr (Or.inr rfl)))) (blkOk_by rfl) (fun _ _ _ _ _ => (gv_seq rfl (gvs_cons (gv_name (i := 6) (by decide) sc_meets.nd rfl (by first | exact Or.inl rfl | exact Or.inr rfl)) (gvs_cons (gv_name (i := 7) (by decide) sc_meets.nd rfl (by first | exact Or.inl rfl | exact Or.inr rfl)) gvs_nil)))) (fun _ _ _ _ _ => dts_nil) (fun _ _ _ _ _ => (de_var (i := 6) rfl (by first | exact Or.inl rfl | exact Or.inr (Or.inl rfl) | exact Or.inr (Or.inr rfl))))) (dss_cons (ds_setLc (i := 5) (own := [("_", 7), ("coins", 8)]) rfl sc_meets.nd rfl rfl rfl (di_seq (de_var (i := 1) rfl (by first | exact Or.inl rfl | exact Or.inr (Or.inl rfl) | exact Or.inr (Or.inr rfl)))) (blkOk_by rfl) (fun _ _ _ _ _ => (gv_seq rfl (gvs_cons (gv_name (i := 7) (by decide) sc_meets.nd rfl (by first | exact Or.inl rfl | exact Or.inr rfl)) (gvs_cons (gv_name (i := 8) (by decide) sc_meets.nd rfl (by first | exact Or.inl rfl | exact Or.inr rfl)) gvs_nil)))) (fun _ _ _ _ _ => dts_nil) (fun _ _ _ _ _ => (de_var (i := 8) rfl (by first | exact Or.inl rfl | exact Or.inr (Or.inl rfl) | exact Or.inr (Or.inr rfl))))) (dss_one (ds_ret (de_and (de_call c_are_met hr ga (by decide) body_takes rfl (da_cons (de_var (i := 4) rfl (by first | exact Or.inl rfl | exact Or.inr (Or.inl rfl) | exact Or.inr (Or.inr rfl))) (da_cons (de_var (i := 2) rfl (by first | exact Or.inl rfl | exact Or.inr (Or.inl rfl) | exact Or.inr (Or.inr rfl))) da_nil))) (de_one (de_call c_are_met hr ga (by decide) body_takes rfl (da_cons (de_var (i := 5) rfl (by first | exact Or.inl rfl | exact Or.inr (Or.inl rfl) | exact Or.inr (Or.inr rfl))) (da_cons (de_var (i := 3) rfl (by first | exact Or.inl rfl | exact Or.inr (Or.inl rfl) | exact Or.inr (Or.inr rfl))) da_nil)))))))))))
theorem ok_box {f : Addr} {fd : FuncData} (F : FunT K "_law_box" "_law_box" s_box f fd) (G : Gs mg)  : FnD P w K mg base 1 f fd ["_law_script", "_law_k"] B.m_box :=
  fnDD F sc_box fun cdv A outer s H E hr ga => (dss_cons (ds_set (i := 2) sc_box.nd rfl (by first | exact Or.inl rfl | exact Or.inr rfl) (de_if (dt_cmp opd_lt (de_var (i := 1) rfl (by first | exact Or.inl rfl | exact Or.inr (Or.inl rfl) | exact Or.inr (Or.inr rfl))) (de_callB cd_len rfl G.b_len PySem.boot_len (da_cons (de_var (i := 0) rfl (by first | exact Or.inl rfl | exact Or.inr (Or.inl rfl) | exact Or.inr (Or.inr rfl))) da_nil))) (de_ix (de_var (i := 0) rfl (by first | exact Or.inl rfl | exact Or.inr (Or.inl rfl) | exact Or.inr (Or.inr rfl))) (de_var (i := 1) rfl (by first | exact Or.inl rfl | exact Or.inr (Or.inl rfl) | exact Or.inr (Or.inr rfl)))) de_int)) (dss_one (ds_ret (de_new (df_lst (da_cons (de_op opd_mul (de_callB cd_abs rfl G.b_abs PyProof.Rows.boot_abs (da_cons (de_var (i := 2) rfl (by first | exact Or.inl rfl | exact Or.inr (Or.inl rfl) | exact Or.inr (Or.inr rfl))) da_nil)) (de_callTy cd_int rfl G.b_int PySem.Pv.boot_int (da_cons (de_cmp opd_ge (de_callB cd_abs rfl G.b_abs PyProof.Rows.boot_abs (da_cons (de_var (i := 2) rfl (by first | exact Or.inl rfl | exact Or.inr (Or.inl rfl) | exact Or.inr (Or.inr rfl))) da_nil)) (de_op opd_pow de_int de_int)) da_nil))) (da_cons (de_op opd_add (de_op opd_add (de_op opd_mod (de_var (i := 2) rfl (by first | exact Or.inl rfl | exact Or.inr (Or.inl rfl) | exact Or.inr (Or.inr rfl))) de_int) (de_op opd_mul de_int (de_var (i := 1) rfl (by first | exact Or.inl rfl | exact Or.inr (Or.inl rfl) | exact Or.inr (Or.inr rfl))))) de_int) (da_cons de_int da_nil))))))))
theorem ok_take {f : Addr} {fd : FuncData} (F : FunT K "_law_take" "_law_take" s_take f fd) (hm : mg "_law_take" = some (.ref f)) (G : Gs mg)  : ∀ n : Nat, FnD P w K mg base (0 + n) f fd ["_law_box_here", "_law_below"] (B.m_take n)
  | 0 => fnD0
  | n + 1 => by
    have c_take : Cald P w K mg base (0 + n) "_law_take" 2 (B.m_take n) := cald_of F hm (ok_take F hm G  n) (fun _ _ _ _ _ _ us hl => match us, hl with | [_, _], _ => rfl)
    exact fnDD F sc_take fun cdv A outer s H E hr ga => (dss_cons (ds_if (dt_cmp opd_gt (de_ix (de_var (i := 0) rfl (by first | exact Or.inl rfl | exact Or.inr (Or.inl rfl) | exact Or.inr (Or.inr rfl))) de_int) de_int) (dss_cons (ds_set (i := 2) sc_take.nd rfl (by first | exact Or.inl rfl | exact Or.inr rfl) (de_op opd_mod (de_ix (de_var (i := 0) rfl (by first | exact Or.inl rfl | exact Or.inr (Or.inl rfl) | exact Or.inr (Or.inr rfl))) de_int) (de_var (i := 1) rfl (by first | exact Or.inl rfl | exact Or.inr (Or.inl rfl) | exact Or.inr (Or.inr rfl))))) (dss_cons (ds_asg (de_op opd_fdiv (de_ix (de_var (i := 0) rfl (by first | exact Or.inl rfl | exact Or.inr (Or.inl rfl) | exact Or.inr (Or.inr rfl))) de_int) (de_var (i := 1) rfl (by first | exact Or.inl rfl | exact Or.inr (Or.inl rfl) | exact Or.inr (Or.inr rfl)))) (gd_sub (de_var (i := 0) rfl (by first | exact Or.inl rfl | exact Or.inr (Or.inl rfl) | exact Or.inr (Or.inr rfl))) de_int)) (dss_one (ds_ret (de_var (i := 2) rfl (by first | exact Or.inl rfl | exact Or.inr (Or.inl rfl) | exact Or.inr (Or.inr rfl))))))) dss_nil) (dss_cons (ds_if (dt_cmp opd_gt (de_var (i := 1) rfl (by first | exact Or.inl rfl | exact Or.inr (Or.inl rfl) | exact Or.inr (Or.inr rfl))) (de_op opd_pow de_int de_int)) (dss_one (ds_ret (de_op opd_mod (de_op opd_add (de_call c_take hr ga (Nat.le_refl _) body_takes rfl (da_cons (de_var (i := 0) rfl (by first | exact Or.inl rfl | exact Or.inr (Or.inl rfl) | exact Or.inr (Or.inr rfl))) (da_cons (de_op opd_pow de_int de_int) da_nil))) (de_op opd_mul (de_op opd_pow de_int de_int) (de_call c_take hr ga (Nat.le_refl _) body_takes rfl (da_cons (de_var (i := 0) rfl (by first | exact Or.inl rfl | exact Or.inr (Or.inl rfl) | exact Or.inr (Or.inr rfl))) (da_cons (de_op opd_add (de_op opd_fdiv (de_op opd_sub (de_var (i := 1) rfl (by first | exact Or.inl rfl | exact Or.inr (Or.inl rfl) | exact Or.inr (Or.inr rfl))) de_int) (de_op opd_pow de_int de_int)) de_int) da_nil))))) (de_var (i := 1) rfl (by first | exact Or.inl rfl | exact Or.inr (Or.inl rfl) | exact Or.inr (Or.inr rfl)))))) dss_nil) (dss_cons (ds_asg (de_op opd_add (de_ix (de_var (i := 0) rfl (by first | exact Or.inl rfl | exact Or.inr (Or.inl rfl) | exact Or.inr (Or.inr rfl))) de_int) de_int) (gd_sub (de_var (i := 0) rfl (by first | exact Or.inl rfl | exact Or.inr (Or.inl rfl) | exact Or.inr (Or.inr rfl))) de_int)) (dss_cons (ds_set (i := 3) sc_take.nd rfl (by first | exact Or.inl rfl | exact Or.inr rfl) (de_op opd_mod (de_op opd_pow (de_op opd_add (de_ix (de_var (i := 0) rfl (by first | exact Or.inl rfl | exact Or.inr (Or.inl rfl) | exact Or.inr (Or.inr rfl))) de_int) (de_op opd_mul de_int (de_ix (de_var (i := 0) rfl (by first | exact Or.inl rfl | exact Or.inr (Or.inl rfl) | exact Or.inr (Or.inr rfl))) de_int))) de_int) de_int)) (dss_one (ds_ret (de_op opd_mod (de_op opd_fdiv (de_op opd_mod (de_op opd_add (de_op opd_mul (de_var (i := 3) rfl (by first | exact Or.inl rfl | exact Or.inr (Or.inl rfl) | exact Or.inr (Or.inr rfl))) (de_op opd_add (de_op opd_mod (de_var (i := 3) rfl (by first | exact Or.inl rfl | exact Or.inr (Or.inl rfl) | exact Or.inr (Or.inr rfl))) de_int) de_int)) (de_op opd_mul (de_ix (de_var (i := 0) rfl (by first | exact Or.inl rfl | exact Or.inr (Or.inl rfl) | exact Or.inr (Or.inr rfl))) de_int) de_int)) de_int) de_int) (de_var (i := 1) rfl (by first | exact Or.inl rfl | exact Or.inr (Or.inl rfl) | exact Or.inr (Or.inr rfl))))))))))
theorem ok_pick {f : Addr} {fd : FuncData} (F : FunT K "_law_pick" "_law_pick" s_pick f fd) (G : Gs mg) (c_take : Cald P w K mg base 10 "_law_take" 2 (B.m_take 10)) : FnD P w K mg base 11 f fd ["_law_box_here", "_law_some"] B.m_pick :=
  fnDD F sc_pick fun cdv A outer s H E hr ga => (dss_one (ds_ret (de_ix (de_var (i := 1) rfl (by first | exact Or.inl rfl | exact Or.inr (Or.inl rfl) | exact Or.inr (Or.inr rfl))) (de_call c_take hr ga (by decide) body_takes rfl (da_cons (de_var (i := 0) rfl (by first | exact Or.inl rfl | exact Or.inr (Or.inl rfl) | exact Or.inr (Or.inr rfl))) (da_cons (de_callB cd_len rfl G.b_len PySem.boot_len (da_cons (de_var (i := 1) rfl (by first | exact Or.inl rfl | exact Or.inr (Or.inl rfl) | exact Or.inr (Or.inr rfl))) da_nil)) da_nil))))))
theorem ok_same {f : Addr} {fd : FuncData} (F : FunT K "_law_same" "_law_same" s_same f fd) (hm : mg "_law_same" = some (.ref f)) (G : Gs mg)  : ∀ n : Nat, FnD P w K mg base (0 + n) f fd ["_law_found", "_law_due"] (B.m_same n)
  | 0 => fnD0
  | n + 1 => by
    have c_same : Cald P w K mg base (0 + n) "_law_same" 2 (B.m_same n) := cald_of F hm (ok_same F hm G  n) (fun _ _ _ _ _ _ us hl => match us, hl with | [_, _], _ => rfl)
    exact fnDD F sc_same fun cdv A outer s H E hr ga => (dss_cons (ds_if (dt_e (de_isiT rfl G.b_isinstance (de_var (i := 1) rfl (by first | exact Or.inl rfl | exact Or.inr (Or.inl rfl) | exact Or.inr (Or.inr rfl))) (da_cons (de_ty rfl G.b_list PySem.Pv.boot_list) (da_cons (de_ty rfl G.b_tuple PySem.Pv.boot_tuple) da_nil)))) (dss_cons (ds_if (dt_w (dw_or (dt_cmp (opd_ne hr.units) (de_callB cd_isi rfl G.b_isinstance PyProof.Rows.boot_isinstance (da_cons (de_var (i := 0) rfl (by first | exact Or.inl rfl | exact Or.inr (Or.inl rfl) | exact Or.inr (Or.inr rfl))) (da_cons (de_ty rfl G.b_list PySem.Pv.boot_list) da_nil))) (de_callB cd_isi rfl G.b_isinstance PyProof.Rows.boot_isinstance (da_cons (de_var (i := 1) rfl (by first | exact Or.inl rfl | exact Or.inr (Or.inl rfl) | exact Or.inr (Or.inr rfl))) (da_cons (de_ty rfl G.b_list PySem.Pv.boot_list) da_nil)))) (dw_or1 (dt_cmp (opd_ne hr.units) (de_callB cd_isi rfl G.b_isinstance PyProof.Rows.boot_isinstance (da_cons (de_var (i := 0) rfl (by first | exact Or.inl rfl | exact Or.inr (Or.inl rfl) | exact Or.inr (Or.inr rfl))) (da_cons (de_ty rfl G.b_tuple PySem.Pv.boot_tuple) da_nil))) (de_callB cd_isi rfl G.b_isinstance PyProof.Rows.boot_isinstance (da_cons (de_var (i := 1) rfl (by first | exact Or.inl rfl | exact Or.inr (Or.inl rfl) | exact Or.inr (Or.inr rfl))) (da_cons (de_ty rfl G.b_tuple PySem.Pv.boot_tuple) da_nil))))))) (dss_one (ds_ret de_bl)) dss_nil) (dss_one (ds_ret (de_and (de_cmp (opd_eq hr.units) (de_callB cd_len rfl G.b_len PySem.boot_len (da_cons (de_var (i := 0) rfl (by first | exact Or.inl rfl | exact Or.inr (Or.inl rfl) | exact Or.inr (Or.inr rfl))) da_nil)) (de_callB cd_len rfl G.b_len PySem.boot_len (da_cons (de_var (i := 1) rfl (by first | exact Or.inl rfl | exact Or.inr (Or.inl rfl) | exact Or.inr (Or.inr rfl))) da_nil))) (de_one (de_callB (cd_all rfl) rfl G.b_all PyProof.Rows.boot_all (da_cons (de_dat (df_lc (own := [("_law_mine", 2), ("_law_its", 3)]) rfl sc_same.nd (di_zip rfl G.b_zip (de_var (i := 0) rfl (by first | exact Or.inl rfl | exact Or.inr (Or.inl rfl) | exact Or.inr (Or.inr rfl))) (de_var (i := 1) rfl (by first | exact Or.inl rfl | exact Or.inr (Or.inl rfl) | exact Or.inr (Or.inr rfl)))) (blkOk_by rfl) (fun _ _ _ _ _ => (gv_tup rfl (gvs_cons (gv_name (i := 2) (by decide) sc_same.nd rfl (by first | exact Or.inl rfl | exact Or.inr rfl)) (gvs_cons (gv_name (i := 3) (by decide) sc_same.nd rfl (by first | exact Or.inl rfl | exact Or.inr rfl)) gvs_nil)))) (fun _ _ _ _ _ => dts_nil) (fun _ _ _ _ _ => (de_call c_same hr ga (Nat.le_refl _) takesW0 rfl (da_cons (de_var (i := 2) rfl (by first | exact Or.inl rfl | exact Or.inr (Or.inl rfl) | exact Or.inr (Or.inr rfl))) (da_cons (de_var (i := 3) rfl (by first | exact Or.inl rfl | exact Or.inr (Or.inl rfl) | exact Or.inr (Or.inr rfl))) da_nil)))))) da_nil))))))) dss_nil) (dss_cons (ds_if (dt_w (dw_or (dt_cmp opd_is (de_var (i := 1) rfl (by first | exact Or.inl rfl | exact Or.inr (Or.inl rfl) | exact Or.inr (Or.inr rfl))) de_non) (dw_or1 (dt_e (de_callB cd_isi rfl G.b_isinstance PyProof.Rows.boot_isinstance (da_cons (de_var (i := 1) rfl (by first | exact Or.inl rfl | exact Or.inr (Or.inl rfl) | exact Or.inr (Or.inr rfl))) (da_cons (de_ty rfl G.b_str PySem.Pv.boot_str) da_nil))))))) (dss_one (ds_ret (de_and (de_cmp (opd_eq hr.units) (de_var (i := 0) rfl (by first | exact Or.inl rfl | exact Or.inr (Or.inl rfl) | exact Or.inr (Or.inr rfl))) (de_var (i := 1) rfl (by first | exact Or.inl rfl | exact Or.inr (Or.inl rfl) | exact Or.inr (Or.inr rfl)))) (de_one (de_cmp (opd_eq hr.units) (de_callB cd_isi rfl G.b_isinstance PyProof.Rows.boot_isinstance (da_cons (de_var (i := 0) rfl (by first | exact Or.inl rfl | exact Or.inr (Or.inl rfl) | exact Or.inr (Or.inr rfl))) (da_cons (de_ty rfl G.b_str PySem.Pv.boot_str) da_nil))) (de_callB cd_isi rfl G.b_isinstance PyProof.Rows.boot_isinstance (da_cons (de_var (i := 1) rfl (by first | exact Or.inl rfl | exact Or.inr (Or.inl rfl) | exact Or.inr (Or.inr rfl))) (da_cons (de_ty rfl G.b_str PySem.Pv.boot_str) da_nil)))))))) dss_nil) (dss_one (ds_ret (de_and (de_callB cd_isi rfl G.b_isinstance PyProof.Rows.boot_isinstance (da_cons (de_var (i := 0) rfl (by first | exact Or.inl rfl | exact Or.inr (Or.inl rfl) | exact Or.inr (Or.inr rfl))) (da_cons (de_ty rfl G.b_int PySem.Pv.boot_int) da_nil))) (de_and (de_cmp (opd_eq hr.units) (de_callB cd_isi rfl G.b_isinstance PyProof.Rows.boot_isinstance (da_cons (de_var (i := 0) rfl (by first | exact Or.inl rfl | exact Or.inr (Or.inl rfl) | exact Or.inr (Or.inr rfl))) (da_cons (de_ty rfl G.b_bool PySem.Pv.boot_bool) da_nil))) (de_callB cd_isi rfl G.b_isinstance PyProof.Rows.boot_isinstance (da_cons (de_var (i := 1) rfl (by first | exact Or.inl rfl | exact Or.inr (Or.inl rfl) | exact Or.inr (Or.inr rfl))) (da_cons (de_ty rfl G.b_bool PySem.Pv.boot_bool) da_nil)))) (de_one (de_cmp (opd_eq hr.units) (de_var (i := 0) rfl (by first | exact Or.inl rfl | exact Or.inr (Or.inl rfl) | exact Or.inr (Or.inr rfl))) (de_var (i := 1) rfl (by first | exact Or.inl rfl | exact Or.inr (Or.inl rfl) | exact Or.inr (Or.inr rfl)))))))))))
theorem ok_strewn {f : Addr} {fd : FuncData} (F : FunT K "_law_strewn" "_law_strewn" s_strewn f fd) (G : Gs mg) (c_take : Cald P w K mg base 10 "_law_take" 2 (B.m_take 10)) : FnD P w K mg base 11 f fd ["_law_box_here", "_law_some"] B.m_strewn :=
  fnDD F sc_strewn fun cdv A outer s H E hr ga => (dss_cons (ds_par (i := 2) (j := 3) rfl sc_strewn.nd rfl rfl (by decide) rfl rfl (da_cons (de_new (df_list rfl G.b_list (de_var (i := 1) rfl (by first | exact Or.inl rfl | exact Or.inr (Or.inl rfl) | exact Or.inr (Or.inr rfl))))) (da_cons (de_new (df_lst da_nil)) da_nil)) rfl) (dss_cons (ds_for (passes_of rfl) rfl (di_range1 rfl G.b_range (de_callB cd_len rfl G.b_len PySem.boot_len (da_cons (de_var (i := 2) rfl (by first | exact Or.inl rfl | exact Or.inr (Or.inl rfl) | exact Or.inr (Or.inr rfl))) da_nil))) (gd_name (i := 4) sc_strewn.nd rfl (by first | exact Or.inl rfl | exact Or.inr rfl)) (dss_one (ds_expr (de_m PySem.F.plainAttrs_list PySem.F.slot_list_append PySem.F.type_list_append md_append (de_var (i := 3) rfl (by first | exact Or.inl rfl | exact Or.inr (Or.inl rfl) | exact Or.inr (Or.inr rfl))) (da_cons (de_m PySem.F.plainAttrs_list PySem.F.slot_list_pop PySem.F.type_list_pop md_pop (de_var (i := 2) rfl (by first | exact Or.inl rfl | exact Or.inr (Or.inl rfl) | exact Or.inr (Or.inr rfl))) (da_cons (de_call c_take hr ga (by decide) body_takes rfl (da_cons (de_var (i := 0) rfl (by first | exact Or.inl rfl | exact Or.inr (Or.inl rfl) | exact Or.inr (Or.inr rfl))) (da_cons (de_callB cd_len rfl G.b_len PySem.boot_len (da_cons (de_var (i := 2) rfl (by first | exact Or.inl rfl | exact Or.inr (Or.inl rfl) | exact Or.inr (Or.inr rfl))) da_nil)) da_nil))) da_nil)) da_nil))))) (dss_freeze 3 (dss_one (ds_ret (de_var (i := 3) rfl (by first | exact Or.inl rfl | exact Or.inr (Or.inl rfl) | exact Or.inr (Or.inr rfl))))))))
theorem ok_lists {f : Addr} {fd : FuncData} (F : FunT K "_law_lists" "_law_lists" s_lists f fd) (hm : mg "_law_lists" = some (.ref f)) (G : Gs mg)  : ∀ n : Nat, FnD P w K mg base (0 + n) f fd ["_law_matter"] (C.m_lists n)
  | 0 => fnD0
  | n + 1 => by
    have c_lists : Cald P w K mg base (0 + n) "_law_lists" 1 (C.m_lists n) := cald_of F hm (ok_lists F hm G  n) (fun _ _ _ _ _ _ us hl => match us, hl with | [_], _ => rfl)
    exact fnDD F sc_lists fun cdv A outer s H E hr ga => (dss_one (ds_ret (de_if (dt_e (de_isiT rfl G.b_isinstance (de_var (i := 0) rfl (by first | exact Or.inl rfl | exact Or.inr (Or.inl rfl) | exact Or.inr (Or.inr rfl))) (da_cons (de_ty rfl G.b_list PySem.Pv.boot_list) (da_cons (de_ty rfl G.b_tuple PySem.Pv.boot_tuple) da_nil)))) (de_dat (df_lc (own := [("_law_piece", 1)]) rfl sc_lists.nd (di_seq (de_var (i := 0) rfl (by first | exact Or.inl rfl | exact Or.inr (Or.inl rfl) | exact Or.inr (Or.inr rfl)))) (blkOk_by rfl) (fun _ _ _ _ _ => (gv_name (i := 1) (by decide) sc_lists.nd rfl (by first | exact Or.inl rfl | exact Or.inr rfl))) (fun _ _ _ _ _ => dts_nil) (fun _ _ _ _ _ => (de_call c_lists hr ga (Nat.le_refl _) takesW0 rfl (da_cons (de_var (i := 1) rfl (by first | exact Or.inl rfl | exact Or.inr (Or.inl rfl) | exact Or.inr (Or.inr rfl))) da_nil))))) (de_var (i := 0) rfl (by first | exact Or.inl rfl | exact Or.inr (Or.inl rfl) | exact Or.inr (Or.inr rfl))))))
theorem ok_some_pose {f : Addr} {fd : FuncData} (F : FunT K "_law_some_pose" "_law_some_pose" s_some_pose f fd) (G : Gs mg) (c_strewn : Cald P w K mg base 11 "_law_strewn" 2 B.m_strewn) (c_take : Cald P w K mg base 10 "_law_take" 2 (B.m_take 10)) : FnD P w K mg base 12 f fd ["_law_box_here", "_law_count", "_law_top"] B.m_some_pose :=
  fnDD F sc_some_pose fun cdv A outer s H E hr ga => (dss_cons (ds_set (i := 3) sc_some_pose.nd rfl (by first | exact Or.inl rfl | exact Or.inr rfl) (de_call c_strewn hr ga (by decide) body_takes rfl (da_cons (de_var (i := 0) rfl (by first | exact Or.inl rfl | exact Or.inr (Or.inl rfl) | exact Or.inr (Or.inr rfl))) (da_cons (de_dat (df_range1 rfl rfl G.b_list rfl G.b_range (de_var (i := 1) rfl (by first | exact Or.inl rfl | exact Or.inr (Or.inl rfl) | exact Or.inr (Or.inr rfl))))) da_nil)))) (dss_one (ds_ret (de_tup (da_cons (de_callTy cd_tuple rfl G.b_tuple PySem.Pv.boot_tuple (da_cons (de_var (i := 3) rfl (by first | exact Or.inl rfl | exact Or.inr (Or.inl rfl) | exact Or.inr (Or.inr rfl))) da_nil)) (da_cons (de_callTy cd_tuple rfl G.b_tuple PySem.Pv.boot_tuple (da_cons (de_dat (df_lc (own := [("_law_who", 4)]) rfl sc_some_pose.nd (di_range1 rfl G.b_range (de_var (i := 1) rfl (by first | exact Or.inl rfl | exact Or.inr (Or.inl rfl) | exact Or.inr (Or.inr rfl)))) (blkOk_by rfl) (fun _ _ _ _ _ => (gv_name (i := 4) (by decide) sc_some_pose.nd rfl (by first | exact Or.inl rfl | exact Or.inr rfl))) (fun _ _ _ _ _ => dts_nil) (fun _ _ _ _ _ => (de_call c_take hr ga (by decide) takesW0 rfl (da_cons (de_var (i := 0) rfl (by first | exact Or.inl rfl | exact Or.inr (Or.inl rfl) | exact Or.inr (Or.inr rfl))) (da_cons (de_op opd_add (de_var (i := 2) rfl (by first | exact Or.inl rfl | exact Or.inr (Or.inl rfl) | exact Or.inr (Or.inr rfl))) de_int) da_nil)))))) da_nil)) da_nil))))))
theorem ok_l_meets {f : Addr} {fd : FuncData} (F : FunT K "_law_meets" "_law_meets" s_l_meets f fd) (G : Gs mg)  : FnD P w K mg base 1 f fd ["_law_pose", "_law_hope"] m_l_meets :=
  fnDD F sc_l_meets fun cdv A outer s H E hr ga => (dss_cons (ds_forZ (passes_of rfl) rfl (di_zz rfl G.b_zip (de_ix (de_var (i := 0) rfl (by first | exact Or.inl rfl | exact Or.inr (Or.inl rfl) | exact Or.inr (Or.inr rfl))) de_int) (de_ix (de_var (i := 0) rfl (by first | exact Or.inl rfl | exact Or.inr (Or.inl rfl) | exact Or.inr (Or.inr rfl))) de_int) (de_var (i := 1) rfl (by first | exact Or.inl rfl | exact Or.inr (Or.inl rfl) | exact Or.inr (Or.inr rfl)))) (gd_tup rfl (gds_cons (gd_tup rfl (gds_cons (gd_name (i := 2) sc_l_meets.nd rfl (by first | exact Or.inl rfl | exact Or.inr rfl)) (gds_cons (gd_name (i := 3) sc_l_meets.nd rfl (by first | exact Or.inl rfl | exact Or.inr rfl)) gds_nil))) (gds_cons (gd_tup rfl (gds_cons (gd_name (i := 4) sc_l_meets.nd rfl (by first | exact Or.inl rfl | exact Or.inr rfl)) (gds_cons (gd_name (i := 5) sc_l_meets.nd rfl (by first | exact Or.inl rfl | exact Or.inr rfl)) gds_nil))) gds_nil))) (dss_one (ds_if (dt_w (dw_or (dt_w (dw_and (dt_cmp opd_isnt (de_var (i := 4) rfl (by first | exact Or.inl rfl | exact Or.inr (Or.inl rfl) | exact Or.inr (Or.inr rfl))) de_non) (dw_and1 (dt_cmp (opd_ne hr.units) (de_var (i := 2) rfl (by first | exact Or.inl rfl | exact Or.inr (Or.inl rfl) | exact Or.inr (Or.inr rfl))) (de_var (i := 4) rfl (by first | exact Or.inl rfl | exact Or.inr (Or.inl rfl) | exact Or.inr (Or.inr rfl))))))) (dw_or1 (dt_w (dw_and (dt_cmp opd_isnt (de_var (i := 5) rfl (by first | exact Or.inl rfl | exact Or.inr (Or.inl rfl) | exact Or.inr (Or.inr rfl))) de_non) (dw_and1 (dt_cmp (opd_ne hr.units) (de_var (i := 3) rfl (by first | exact Or.inl rfl | exact Or.inr (Or.inl rfl) | exact Or.inr (Or.inr rfl))) (de_var (i := 5) rfl (by first | exact Or.inl rfl | exact Or.inr (Or.inl rfl) | exact Or.inr (Or.inr rfl)))))))))) (dss_one (ds_ret de_bl)) dss_nil))) (dss_one (ds_ret de_bl)))
theorem ok_right {f : Addr} {fd : FuncData} (F : FunT K "_law_right" "_law_right" s_right f fd) (G : Gs mg) (c_some_pose : Cald P w K mg base 12 "_law_some_pose" 3 B.m_some_pose) (c_take : Cald P w K mg base 10 "_law_take" 2 (B.m_take 10)) (c_pick : Cald P w K mg base 11 "_law_pick" 2 B.m_pick) (c_lists : Cald P w K mg base 6 "_law_lists" 1 (C.m_lists 6)) (c_meets : Cald P w K mg base 2 "meets" 2 m_meets) (c_same : Cald P w K mg base 6 "_law_same" 2 (B.m_same 6)) (c_l_meets : Cald P w K mg base 1 "_law_meets" 2 m_l_meets) (ck_0 : CaldK P w K mg base 2 "meets" 0 ["wish", "state"] [1, 0] m_meets) : FnD P w K mg base 13 f fd ["_law_box_here"] m_right :=
  fnDD F sc_right fun cdv A outer s H E hr ga => (dss_cons (ds_set (i := 1) sc_right.nd rfl (by first | exact Or.inl rfl | exact Or.inr rfl) (de_op opd_add de_int (de_call c_take hr ga (by decide) body_takes rfl (da_cons (de_var (i := 0) rfl (by first | exact Or.inl rfl | exact Or.inr (Or.inl rfl) | exact Or.inr (Or.inr rfl))) (da_cons de_int da_nil))))) (dss_cons (ds_set (i := 2) sc_right.nd rfl (by first | exact Or.inl rfl | exact Or.inr rfl) (de_call c_some_pose hr ga (by decide) body_takes rfl (da_cons (de_var (i := 0) rfl (by first | exact Or.inl rfl | exact Or.inr (Or.inl rfl) | exact Or.inr (Or.inr rfl))) (da_cons (de_var (i := 1) rfl (by first | exact Or.inl rfl | exact Or.inr (Or.inl rfl) | exact Or.inr (Or.inr rfl))) (da_cons (de_call c_pick hr ga (by decide) body_takes rfl (da_cons (de_var (i := 0) rfl (by first | exact Or.inl rfl | exact Or.inr (Or.inl rfl) | exact Or.inr (Or.inr rfl))) (da_cons (de_dat (df_lst (da_cons de_int (da_cons de_int (da_cons (de_op opd_mul de_int (de_op opd_pow de_int de_int)) da_nil))))) da_nil))) da_nil))))) (dss_cons (ds_par (i := 3) (j := 4) rfl sc_right.nd rfl rfl (by decide) rfl rfl (da_cons (de_callB (cd_repr ga hr.units) rfl G.b_repr PyProof.Rows.boot_repr (da_cons (de_var (i := 2) rfl (by first | exact Or.inl rfl | exact Or.inr (Or.inl rfl) | exact Or.inr (Or.inr rfl))) da_nil)) (da_cons (de_call c_lists hr ga (by decide) body_takes rfl (da_cons (de_var (i := 2) rfl (by first | exact Or.inl rfl | exact Or.inr (Or.inl rfl) | exact Or.inr (Or.inr rfl))) da_nil)) da_nil)) rfl) (dss_cons (ds_for (passes_of rfl) rfl (di_range1 rfl G.b_range de_int) (gd_name (i := 5) sc_right.nd rfl (by first | exact Or.inl rfl | exact Or.inr rfl)) (dss_cons (ds_set (i := 6) sc_right.nd rfl (by first | exact Or.inl rfl | exact Or.inr rfl) (de_new (df_lst da_nil))) (dss_cons (ds_for (passes_of rfl) rfl (di_zip rfl G.b_zip (de_ix (de_var (i := 2) rfl (by first | exact Or.inl rfl | exact Or.inr (Or.inl rfl) | exact Or.inr (Or.inr rfl))) de_int) (de_ix (de_var (i := 2) rfl (by first | exact Or.inl rfl | exact Or.inr (Or.inl rfl) | exact Or.inr (Or.inr rfl))) de_int)) (gd_tup rfl (gds_cons (gd_name (i := 7) sc_right.nd rfl (by first | exact Or.inl rfl | exact Or.inr rfl)) (gds_cons (gd_name (i := 8) sc_right.nd rfl (by first | exact Or.inl rfl | exact Or.inr rfl)) gds_nil))) (dss_cons (ds_set (i := 9) sc_right.nd rfl (by first | exact Or.inl rfl | exact Or.inr rfl) (de_cmp (opd_eq hr.units) (de_call c_take hr ga (by decide) body_takes rfl (da_cons (de_var (i := 0) rfl (by first | exact Or.inl rfl | exact Or.inr (Or.inl rfl) | exact Or.inr (Or.inr rfl))) (da_cons (de_op opd_mul de_int (de_op opd_add de_int (de_var (i := 5) rfl (by first | exact Or.inl rfl | exact Or.inr (Or.inl rfl) | exact Or.inr (Or.inr rfl))))) da_nil))) de_int)) (dss_cons (ds_set (i := 7) sc_right.nd rfl (by first | exact Or.inl rfl | exact Or.inr rfl) (de_if (dt_not (dt_e (de_var (i := 9) rfl (by first | exact Or.inl rfl | exact Or.inr (Or.inl rfl) | exact Or.inr (Or.inr rfl))))) (de_call c_pick hr ga (by decide) body_takes rfl (da_cons (de_var (i := 0) rfl (by first | exact Or.inl rfl | exact Or.inr (Or.inl rfl) | exact Or.inr (Or.inr rfl))) (da_cons (de_dat (df_lst (da_cons (de_var (i := 7) rfl (by first | exact Or.inl rfl | exact Or.inr (Or.inl rfl) | exact Or.inr (Or.inr rfl))) (da_cons de_non da_nil)))) da_nil))) (de_call c_take hr ga (by decide) body_takes rfl (da_cons (de_var (i := 0) rfl (by first | exact Or.inl rfl | exact Or.inr (Or.inl rfl) | exact Or.inr (Or.inr rfl))) (da_cons (de_op opd_add (de_var (i := 1) rfl (by first | exact Or.inl rfl | exact Or.inr (Or.inl rfl) | exact Or.inr (Or.inr rfl))) de_int) da_nil))))) (dss_one (ds_expr (de_m PySem.F.plainAttrs_list PySem.F.slot_list_append PySem.F.type_list_append md_append (de_var (i := 6) rfl (by first | exact Or.inl rfl | exact Or.inr (Or.inl rfl) | exact Or.inr (Or.inr rfl))) (da_cons (de_tup (da_cons (de_var (i := 7) rfl (by first | exact Or.inl rfl | exact Or.inr (Or.inl rfl) | exact Or.inr (Or.inr rfl))) (da_cons (de_call c_pick hr ga (by decide) body_takes rfl (da_cons (de_var (i := 0) rfl (by first | exact Or.inl rfl | exact Or.inr (Or.inl rfl) | exact Or.inr (Or.inr rfl))) (da_cons (de_dat (df_lst (da_cons (de_var (i := 8) rfl (by first | exact Or.inl rfl | exact Or.inr (Or.inl rfl) | exact Or.inr (Or.inr rfl))) (da_cons de_non (da_cons (de_op opd_add (de_var (i := 8) rfl (by first | exact Or.inl rfl | exact Or.inr (Or.inl rfl) | exact Or.inr (Or.inr rfl))) (de_callTy cd_int rfl G.b_int PySem.Pv.boot_int (da_cons (de_cmp (opd_eq hr.units) (de_call c_take hr ga (by decide) body_takes rfl (da_cons (de_var (i := 0) rfl (by first | exact Or.inl rfl | exact Or.inr (Or.inl rfl) | exact Or.inr (Or.inr rfl))) (da_cons de_int da_nil))) de_int) da_nil))) da_nil))))) da_nil))) da_nil))) da_nil))))))) (dss_freeze 6 (dss_cons (ds_par (i := 10) (j := 6) rfl sc_right.nd rfl rfl (by decide) rfl rfl (da_cons (de_call c_l_meets hr ga (by decide) body_takes rfl (da_cons (de_var (i := 2) rfl (by first | exact Or.inl rfl | exact Or.inr (Or.inl rfl) | exact Or.inr (Or.inr rfl))) (da_cons (de_var (i := 6) rfl (by first | exact Or.inl rfl | exact Or.inr (Or.inl rfl) | exact Or.inr (Or.inr rfl))) da_nil))) (da_cons (de_callTy cd_tuple rfl G.b_tuple PySem.Pv.boot_tuple (da_cons (de_var (i := 6) rfl (by first | exact Or.inl rfl | exact Or.inr (Or.inl rfl) | exact Or.inr (Or.inr rfl))) da_nil)) da_nil)) rfl) (dss_cons (ds_set (i := 11) sc_right.nd rfl (by first | exact Or.inl rfl | exact Or.inr rfl) (de_dat (df_lst (da_cons (de_call c_meets hr ga (by decide) body_takes rfl (da_cons (de_var (i := 2) rfl (by first | exact Or.inl rfl | exact Or.inr (Or.inl rfl) | exact Or.inr (Or.inr rfl))) (da_cons (de_var (i := 6) rfl (by first | exact Or.inl rfl | exact Or.inr (Or.inl rfl) | exact Or.inr (Or.inr rfl))) da_nil))) (da_cons (de_callK0 (ks := ["wish", "state"]) (x := "meets") ck_0 hr ga (by decide) body_takes rfl (dk_cons (de_call c_lists hr ga (by decide) body_takes rfl (da_cons (de_var (i := 6) rfl (by first | exact Or.inl rfl | exact Or.inr (Or.inl rfl) | exact Or.inr (Or.inr rfl))) da_nil)) (dk_cons (de_var (i := 4) rfl (by first | exact Or.inl rfl | exact Or.inr (Or.inl rfl) | exact Or.inr (Or.inr rfl))) dk_nil))) (da_cons (de_call c_meets hr ga (by decide) body_takes rfl (da_cons (de_var (i := 4) rfl (by first | exact Or.inl rfl | exact Or.inr (Or.inl rfl) | exact Or.inr (Or.inr rfl))) (da_cons (de_var (i := 6) rfl (by first | exact Or.inl rfl | exact Or.inr (Or.inl rfl) | exact Or.inr (Or.inr rfl))) da_nil))) da_nil)))))) (dss_one (ds_if (dt_not (dt_e (de_call c_same hr ga (by decide) body_takes rfl (da_cons (de_var (i := 11) rfl (by first | exact Or.inl rfl | exact Or.inr (Or.inl rfl) | exact Or.inr (Or.inr rfl))) (da_cons (de_dat (df_rep (de_dat (df_lst (da_cons (de_var (i := 10) rfl (by first | exact Or.inl rfl | exact Or.inr (Or.inl rfl) | exact Or.inr (Or.inr rfl))) da_nil))) de_int)) da_nil))))) (dss_one (ds_ret de_bl)) dss_nil)))))))) (dss_cons (ds_set (i := 12) sc_right.nd rfl (by first | exact Or.inl rfl | exact Or.inr rfl) (de_tupZip rfl rfl G.b_zip rfl G.b_tuple (de_ix (de_var (i := 2) rfl (by first | exact Or.inl rfl | exact Or.inr (Or.inl rfl) | exact Or.inr (Or.inr rfl))) de_int) (de_ix (de_var (i := 2) rfl (by first | exact Or.inl rfl | exact Or.inr (Or.inl rfl) | exact Or.inr (Or.inr rfl))) de_int))) (dss_cons (ds_set (i := 11) sc_right.nd rfl (by first | exact Or.inl rfl | exact Or.inr rfl) (de_dat (df_lst (da_cons (de_call c_meets hr ga (by decide) body_takes rfl (da_cons (de_var (i := 2) rfl (by first | exact Or.inl rfl | exact Or.inr (Or.inl rfl) | exact Or.inr (Or.inr rfl))) (da_cons (de_var (i := 12) rfl (by first | exact Or.inl rfl | exact Or.inr (Or.inl rfl) | exact Or.inr (Or.inr rfl))) da_nil))) (da_cons (de_call c_meets hr ga (by decide) body_takes rfl (da_cons (de_var (i := 2) rfl (by first | exact Or.inl rfl | exact Or.inr (Or.inl rfl) | exact Or.inr (Or.inr rfl))) (da_cons (de_op opd_mulT2 (de_tup (da_cons (de_tup (da_cons de_non (da_cons de_non da_nil))) da_nil)) (de_var (i := 1) rfl (by first | exact Or.inl rfl | exact Or.inr (Or.inl rfl) | exact Or.inr (Or.inr rfl)))) da_nil))) da_nil))))) (dss_one (ds_ret (de_and (de_call c_same hr ga (by decide) body_takes rfl (da_cons (de_var (i := 11) rfl (by first | exact Or.inl rfl | exact Or.inr (Or.inl rfl) | exact Or.inr (Or.inr rfl))) (da_cons (de_dat (df_lst (da_cons de_bl (da_cons de_bl da_nil)))) da_nil))) (de_and (de_cmp (opd_eq hr.units) (de_callB (cd_repr ga hr.units) rfl G.b_repr PyProof.Rows.boot_repr (da_cons (de_var (i := 2) rfl (by first | exact Or.inl rfl | exact Or.inr (Or.inl rfl) | exact Or.inr (Or.inr rfl))) da_nil)) (de_var (i := 3) rfl (by first | exact Or.inl rfl | exact Or.inr (Or.inl rfl) | exact Or.inr (Or.inr rfl)))) (de_one (de_cmp (opd_eq hr.units) (de_var (i := 4) rfl (by first | exact Or.inl rfl | exact Or.inr (Or.inl rfl) | exact Or.inr (Or.inr rfl))) (de_call c_lists hr ga (by decide) body_takes rfl (da_cons (de_var (i := 2) rfl (by first | exact Or.inl rfl | exact Or.inr (Or.inl rfl) | exact Or.inr (Or.inr rfl))) da_nil))))))))))))))
theorem ok_law {f : Addr} {fd : FuncData} (F : FunT K "law" "law" s_law f fd) (G : Gs mg) (c_right : Cald P w K mg base 13 "_law_right" 1 m_right) (c_box : Cald P w K mg base 1 "_law_box" 2 B.m_box) : FnD P w K mg base 14 f fd ["_law_script"] m_law :=
  fnDD F sc_law fun cdv A outer s H E hr ga => (dss_one (ds_ret (de_callB (cd_all rfl) rfl G.b_all PyProof.Rows.boot_all (da_cons (de_dat (df_lc (own := [("_law_k", 1)]) rfl sc_law.nd (di_range1 rfl G.b_range (de_op opd_add de_int (de_callB (cd_min2 rfl) rfl G.b_min PyProof.Rows.boot_min (da_cons de_int (da_cons (de_callB cd_len rfl G.b_len PySem.boot_len (da_cons (de_var (i := 0) rfl (by first | exact Or.inl rfl | exact Or.inr (Or.inl rfl) | exact Or.inr (Or.inr rfl))) da_nil)) da_nil))))) (blkOk_by rfl) (fun _ _ _ _ _ => (gv_name (i := 1) (by decide) sc_law.nd rfl (by first | exact Or.inl rfl | exact Or.inr rfl))) (fun _ _ _ _ _ => dts_nil) (fun _ _ _ _ _ => (de_call c_right hr ga (by decide) takesW0 rfl (da_cons (de_call c_box hr ga (by decide) takesW0 rfl (da_cons (de_var (i := 0) rfl (by first | exact Or.inl rfl | exact Or.inr (Or.inl rfl) | exact Or.inr (Or.inr rfl))) (da_cons (de_var (i := 1) rfl (by first | exact Or.inl rfl | exact Or.inr (Or.inl rfl) | exact Or.inr (Or.inr rfl))) da_nil))) da_nil))))) da_nil))))
end
end DL.K34
namespace DL.K34
open PySem PySem.Spec L2 DL
def fn : List He.DefD := [⟨("check_wish", none), "check_wish", "check_wish", defArgs s_check_wish, defBody s_check_wish, defScope s_check_wish, [], []⟩, ⟨("are_met", none), "are_met", "are_met", defArgs s_are_met, defBody s_are_met, defScope s_are_met, [], []⟩, ⟨("meets", none), "meets", "meets", defArgs s_meets, defBody s_meets, defScope s_meets, [], []⟩, ⟨("_law_box", none), "_law_box", "_law_box", defArgs s_box, defBody s_box, defScope s_box, [], []⟩, ⟨("_law_take", none), "_law_take", "_law_take", defArgs s_take, defBody s_take, defScope s_take, [], []⟩, ⟨("_law_pick", none), "_law_pick", "_law_pick", defArgs s_pick, defBody s_pick, defScope s_pick, [], []⟩, ⟨("_law_same", none), "_law_same", "_law_same", defArgs s_same, defBody s_same, defScope s_same, [], []⟩, ⟨("_law_strewn", none), "_law_strewn", "_law_strewn", defArgs s_strewn, defBody s_strewn, defScope s_strewn, [], []⟩, ⟨("_law_lists", none), "_law_lists", "_law_lists", defArgs s_lists, defBody s_lists, defScope s_lists, [], []⟩, ⟨("_law_some_pose", none), "_law_some_pose", "_law_some_pose", defArgs s_some_pose, defBody s_some_pose, defScope s_some_pose, [], []⟩, ⟨("_law_meets", none), "_law_meets", "_law_meets", defArgs s_l_meets, defBody s_l_meets, defScope s_l_meets, [], []⟩, ⟨("_law_right", none), "_law_right", "_law_right", defArgs s_right, defBody s_right, defScope s_right, [], []⟩, ⟨("law", none), "law", "law", defArgs s_law, defBody s_law, defScope s_law, [], []⟩, ⟨("OtherPeople", some "__init__"), "__init__", "OtherPeople.__init__", defArgs s_OtherPeople_init, defBody s_OtherPeople_init, defScope s_OtherPeople_init, [], []⟩]
def xf : List Xf := [⟨"OtherPeople", "many", "ValueError", "ValueError.__new__", "ValueError.__init__", (mroB "ValueError")⟩]
def fa : List He.Fa := [.glo "check_wish", .glo "are_met", .glo "meets", .glo "_law_box", .glo "_law_take", .glo "_law_pick", .glo "_law_same", .glo "_law_strewn", .glo "_law_lists", .glo "_law_some_pose", .glo "_law_meets", .glo "_law_right", .glo "law", .free "len", .free "zip", .free "all", .free "abs", .free "int", .free "tuple", .free "list", .free "isinstance", .free "str", .free "bool", .free "range", .free "repr", .free "min", .exm "OtherPeople" "OtherPeople" true]
theorem facts {P : Program} {w : World} {K : Frag} {h : Heap} {mg : Str → Option Value} {f : Addr} (X : K.In h) (G0 : h.Ns mainGlobals mg) (hfa : mg ("law" : Str) = some (.ref f)) (c0 : SaysX fa fn xf K) :
    ∃ fd : FuncData, (∀ (s : Shared) (v : Value), BindsTo s fd ⟨[v], []⟩ [("_law_script", v)]) ∧ ∀ base : Heap, K.In base → base.Ns mainGlobals mg → FnD P w K mg base 14 f fd ["_law_script"] m_law := by
  have c : He.SaysD fa fn K := c0.d
  have G : Gs mg := ⟨He.free_ok X G0 (c.fact 13 (f := .free "len") rfl), He.free_ok X G0 (c.fact 14 (f := .free "zip") rfl), He.free_ok X G0 (c.fact 15 (f := .free "all") rfl), He.free_ok X G0 (c.fact 16 (f := .free "abs") rfl), He.free_ok X G0 (c.fact 17 (f := .free "int") rfl), He.free_ok X G0 (c.fact 18 (f := .free "tuple") rfl), He.free_ok X G0 (c.fact 19 (f := .free "list") rfl), He.free_ok X G0 (c.fact 20 (f := .free "isinstance") rfl), He.free_ok X G0 (c.fact 21 (f := .free "str") rfl), He.free_ok X G0 (c.fact 22 (f := .free "bool") rfl), He.free_ok X G0 (c.fact 23 (f := .free "range") rfl), He.free_ok X G0 (c.fact 24 (f := .free "repr") rfl), He.free_ok X G0 (c.fact 25 (f := .free "min") rfl)⟩
  obtain ⟨fd_check_wish, F0_check_wish⟩ := c.def_ 0 (d := ⟨("check_wish", none), "check_wish", "check_wish", defArgs s_check_wish, defBody s_check_wish, defScope s_check_wish, [], []⟩) rfl
  have F_check_wish : FunT K "check_wish" "check_wish" s_check_wish _ _ := F0_check_wish
  have hm_check_wish := He.glo_ok X G0 (c.fact 0 (f := .glo "check_wish") rfl)
  obtain ⟨fd_are_met, F0_are_met⟩ := c.def_ 1 (d := ⟨("are_met", none), "are_met", "are_met", defArgs s_are_met, defBody s_are_met, defScope s_are_met, [], []⟩) rfl
  have F_are_met : FunT K "are_met" "are_met" s_are_met _ _ := F0_are_met
  have hm_are_met := He.glo_ok X G0 (c.fact 1 (f := .glo "are_met") rfl)
  obtain ⟨fd_meets, F0_meets⟩ := c.def_ 2 (d := ⟨("meets", none), "meets", "meets", defArgs s_meets, defBody s_meets, defScope s_meets, [], []⟩) rfl
  have F_meets : FunT K "meets" "meets" s_meets _ _ := F0_meets
  have hm_meets := He.glo_ok X G0 (c.fact 2 (f := .glo "meets") rfl)
  obtain ⟨fd_box, F0_box⟩ := c.def_ 3 (d := ⟨("_law_box", none), "_law_box", "_law_box", defArgs s_box, defBody s_box, defScope s_box, [], []⟩) rfl
  have F_box : FunT K "_law_box" "_law_box" s_box _ _ := F0_box
  have hm_box := He.glo_ok X G0 (c.fact 3 (f := .glo "_law_box") rfl)
  obtain ⟨fd_take, F0_take⟩ := c.def_ 4 (d := ⟨("_law_take", none), "_law_take", "_law_take", defArgs s_take, defBody s_take, defScope s_take, [], []⟩) rfl
  have F_take : FunT K "_law_take" "_law_take" s_take _ _ := F0_take
  have hm_take := He.glo_ok X G0 (c.fact 4 (f := .glo "_law_take") rfl)
  obtain ⟨fd_pick, F0_pick⟩ := c.def_ 5 (d := ⟨("_law_pick", none), "_law_pick", "_law_pick", defArgs s_pick, defBody s_pick, defScope s_pick, [], []⟩) rfl
  have F_pick : FunT K "_law_pick" "_law_pick" s_pick _ _ := F0_pick
  have hm_pick := He.glo_ok X G0 (c.fact 5 (f := .glo "_law_pick") rfl)
  obtain ⟨fd_same, F0_same⟩ := c.def_ 6 (d := ⟨("_law_same", none), "_law_same", "_law_same", defArgs s_same, defBody s_same, defScope s_same, [], []⟩) rfl
  have F_same : FunT K "_law_same" "_law_same" s_same _ _ := F0_same
  have hm_same := He.glo_ok X G0 (c.fact 6 (f := .glo "_law_same") rfl)
  obtain ⟨fd_strewn, F0_strewn⟩ := c.def_ 7 (d := ⟨("_law_strewn", none), "_law_strewn", "_law_strewn", defArgs s_strewn, defBody s_strewn, defScope s_strewn, [], []⟩) rfl
  have F_strewn : FunT K "_law_strewn" "_law_strewn" s_strewn _ _ := F0_strewn
  have hm_strewn := He.glo_ok X G0 (c.fact 7 (f := .glo "_law_strewn") rfl)
  obtain ⟨fd_lists, F0_lists⟩ := c.def_ 8 (d := ⟨("_law_lists", none), "_law_lists", "_law_lists", defArgs s_lists, defBody s_lists, defScope s_lists, [], []⟩) rfl
  have F_lists : FunT K "_law_lists" "_law_lists" s_lists _ _ := F0_lists
  have hm_lists := He.glo_ok X G0 (c.fact 8 (f := .glo "_law_lists") rfl)
  obtain ⟨fd_some_pose, F0_some_pose⟩ := c.def_ 9 (d := ⟨("_law_some_pose", none), "_law_some_pose", "_law_some_pose", defArgs s_some_pose, defBody s_some_pose, defScope s_some_pose, [], []⟩) rfl
  have F_some_pose : FunT K "_law_some_pose" "_law_some_pose" s_some_pose _ _ := F0_some_pose
  have hm_some_pose := He.glo_ok X G0 (c.fact 9 (f := .glo "_law_some_pose") rfl)
  obtain ⟨fd_l_meets, F0_l_meets⟩ := c.def_ 10 (d := ⟨("_law_meets", none), "_law_meets", "_law_meets", defArgs s_l_meets, defBody s_l_meets, defScope s_l_meets, [], []⟩) rfl
  have F_l_meets : FunT K "_law_meets" "_law_meets" s_l_meets _ _ := F0_l_meets
  have hm_l_meets := He.glo_ok X G0 (c.fact 10 (f := .glo "_law_meets") rfl)
  obtain ⟨fd_right, F0_right⟩ := c.def_ 11 (d := ⟨("_law_right", none), "_law_right", "_law_right", defArgs s_right, defBody s_right, defScope s_right, [], []⟩) rfl
  have F_right : FunT K "_law_right" "_law_right" s_right _ _ := F0_right
  have hm_right := He.glo_ok X G0 (c.fact 11 (f := .glo "_law_right") rfl)
  obtain ⟨fd_law, F0_law⟩ := c.def_ 12 (d := ⟨("law", none), "law", "law", defArgs s_law, defBody s_law, defScope s_law, [], []⟩) rfl
  have F_law : FunT K "law" "law" s_law _ _ := F0_law
  have hm_law := He.glo_ok X G0 (c.fact 12 (f := .glo "law") rfl)
  obtain ⟨fd_OtherPeople_init, F0_OtherPeople_init⟩ := c.def_ 13 (d := ⟨("OtherPeople", some "__init__"), "__init__", "OtherPeople.__init__", defArgs s_OtherPeople_init, defBody s_OtherPeople_init, defScope s_OtherPeople_init, [], []⟩) rfl
  have F_OtherPeople_init : FunT K "__init__" "OtherPeople.__init__" s_OtherPeople_init _ _ := F0_OtherPeople_init
  have o_OtherPeople := c0.err 0 rfl
  have fr_OtherPeople : mg "ValueError" = none := PySem.W.mg_none_of X G0 o_OtherPeople.fr
  have e := hfa.symm.trans hm_law
  cases e
  refine ⟨fd_law, fun s v => FunD.bindsA (ps := ["_law_script"]) F_law (fun _ _ _ _ _ _ us hl => match us, hl with | [_], _ => rfl) s [v] rfl, fun base _ _ => ?_⟩
  have p_OtherPeople := o_OtherPeople.errF (P := P) (w := w) (base := base) X G0 base_ValueError (init_OtherPeople F_OtherPeople_init fr_OtherPeople o_OtherPeople.vV) (FunD.bindsN F_OtherPeople_init (fun _ _ _ _ _ _ us hl => match us, hl with | [_, _], _ => rfl))
  have GX : Xs P w K mg base := ⟨⟨base_ValueError, p_OtherPeople.1.1, p_OtherPeople.2.1, p_OtherPeople.1.2, p_OtherPeople.2.2⟩, of_decide_eq_true (c.fact 26 (f := .exm "OtherPeople" "OtherPeople" true) rfl)⟩
  have o_check_wish := ok_check_wish (P := P) (w := w) (base := base) F_check_wish G 
  have c_check_wish := cald_of (st := s_check_wish) F_check_wish hm_check_wish o_check_wish (fun _ _ _ _ _ _ us hl => match us, hl with | [_, _], _ => rfl)
  have o_are_met := ok_are_met (P := P) (w := w) (base := base) F_are_met G 
  have c_are_met := cald_of (st := s_are_met) F_are_met hm_are_met o_are_met (fun _ _ _ _ _ _ us hl => match us, hl with | [_, _], _ => rfl)
  have o_meets := ok_meets (P := P) (w := w) (base := base) F_meets G c_check_wish c_are_met
  have c_meets := cald_of (st := s_meets) F_meets hm_meets o_meets (fun _ _ _ _ _ _ us hl => match us, hl with | [_, _], _ => rfl)
  have ck_0 := caldK_of (n := 0) (ks := ["wish", "state"]) (q := [1, 0]) (st := s_meets) F_meets hm_meets o_meets rfl (fun _ _ _ _ _ _ us ws hl hk => match us, ws, hl, hk with | [], [_, _], _, _ => rfl)
  have o_box := ok_box (P := P) (w := w) (base := base) F_box G 
  have c_box := cald_of (st := s_box) F_box hm_box o_box (fun _ _ _ _ _ _ us hl => match us, hl with | [_, _], _ => rfl)
  have o_take := ok_take (P := P) (w := w) (base := base) F_take hm_take G  10
  have c_take := cald_of (st := s_take) F_take hm_take o_take (fun _ _ _ _ _ _ us hl => match us, hl with | [_, _], _ => rfl)
  have o_pick := ok_pick (P := P) (w := w) (base := base) F_pick G c_take
  have c_pick := cald_of (st := s_pick) F_pick hm_pick o_pick (fun _ _ _ _ _ _ us hl => match us, hl with | [_, _], _ => rfl)
  have o_same := ok_same (P := P) (w := w) (base := base) F_same hm_same G  6
  have c_same := cald_of (st := s_same) F_same hm_same o_same (fun _ _ _ _ _ _ us hl => match us, hl with | [_, _], _ => rfl)
  have o_strewn := ok_strewn (P := P) (w := w) (base := base) F_strewn G c_take
  have c_strewn := cald_of (st := s_strewn) F_strewn hm_strewn o_strewn (fun _ _ _ _ _ _ us hl => match us, hl with | [_, _], _ => rfl)
  have o_lists := ok_lists (P := P) (w := w) (base := base) F_lists hm_lists G  6
  have c_lists := cald_of (st := s_lists) F_lists hm_lists o_lists (fun _ _ _ _ _ _ us hl => match us, hl with | [_], _ => rfl)
  have o_some_pose := ok_some_pose (P := P) (w := w) (base := base) F_some_pose G c_strewn c_take
  have c_some_pose := cald_of (st := s_some_pose) F_some_pose hm_some_pose o_some_pose (fun _ _ _ _ _ _ us hl => match us, hl with | [_, _, _], _ => rfl)
  have o_l_meets := ok_l_meets (P := P) (w := w) (base := base) F_l_meets G 
  have c_l_meets := cald_of (st := s_l_meets) F_l_meets hm_l_meets o_l_meets (fun _ _ _ _ _ _ us hl => match us, hl with | [_, _], _ => rfl)
  have o_right := ok_right (P := P) (w := w) (base := base) F_right G c_some_pose c_take c_pick c_lists c_meets c_same c_l_meets ck_0
  have c_right := cald_of (st := s_right) F_right hm_right o_right (fun _ _ _ _ _ _ us hl => match us, hl with | [_], _ => rfl)
  exact ok_law F_law G c_right c_box
abbrev R : PySem.W.OpenRow := PySem.W.OpenLaw.row PySem.Challenge.rw_tollround_k34_wishes_that_are_met
abbrev hk : PySem.W.Hook := hookX 5 fa fn xf
def ob (s : PySem.W.SharedT) : AlX := obsXG 5 fa fn xf (HandSHeadRun.getT s)
theorem ob_eq (s : PySem.W.SharedT) : ob s = hk.obs s.abs := obsXG_eq (HandSHeadRun.getT_eq s)
end DL.K34
namespace DL.K34
open PySem PySem.Spec L2 DL
def loose : List Str := (["OtherPeople", "meets", "check_wish", "are_met", "_law_box", "_law_take", "_law_pick", "_law_same", "_law_strewn", "_law_lists", "_law_some_pose", "_law_meets", "_law_right", "__name__"] : List Str)
theorem run (w : World) : HandSHeadRun.RunEq R (PySem.W.view R.prog [16]) hk ob 3000 loose w := by
  intro os
  kernel_rfl
end DL.K34
open PySem PySem.W PySem.Calls PyProof.Rows
theorem DL.K34.goal (hspec : ∀ ns : List Int, ns.length ≤ 63 → ∃ M, DL.K34.m_law [.s (ns.map PyData.int)] [] = .ok (.d (.bool true)) M) : PySem.Challenge.rw_tollround_k34_wishes_that_are_met.Holds := by
  w_on; o_law
  refine HandSHeadRun.head_any (r := OpenLaw.row PySem.Challenge.rw_tollround_k34_wishes_that_are_met) (q := view (OpenLaw.row PySem.Challenge.rw_tollround_k34_wishes_that_are_met).prog [16]) (H := DL.K34.hk) (ob := DL.K34.ob) (M := 3000) (loose := DL.K34.loose) (d := HandSHeadRun.topDef (OpenLaw.row PySem.Challenge.rw_tollround_k34_wishes_that_are_met).prog 16) (kwd := []) DL.K34.ob_eq
    (by kernel_rfl) (fun s => by kernel_rfl) DL.K34.run (by kernel_rfl) (by kernel_rfl) (by kernel_rfl) (by rfl) (by first | assumption | decide +kernel) (by decide +kernel) ⟨rfl, rfl, rfl, rfl, rfl, by decide +kernel⟩ ?hw ?hc
  case hw => w_witness2
  case hc =>
    refine DL.walk_end (l := PySem.Challenge.rw_tollround_k34_wishes_that_are_met) (n := 63) (k := 14) (x := "_law_script") (m := DL.K34.m_law) rfl (by decide) (by kernel_rfl) ⟨rfl, by decide, by decide⟩ ?F hspec
    intro w mg fa h Y G hmg0
    obtain ⟨K, KX, c⟩ := Y
    have hmg : mg ("law" : PySem.Str) = some (.ref fa) := by
      have e : (HandSHeadRun.topDef (OpenLaw.row PySem.Challenge.rw_tollround_k34_wishes_that_are_met).prog 16).name = ("law" : PySem.Str) := by kernel_rfl
      rw [← e]
      exact hmg0
    obtain ⟨fd, hb, hF⟩ := DL.K34.facts (P := (PySem.Challenge.rw_tollround_k34_wishes_that_are_met).prog) (w := w) KX G hmg c
    exact ⟨K, fd, KX, hb, hF⟩
theorem PySem.Challenge.cw_tollround_k34_wishes_that_are_met_holds : PySem.Challenge.rw_tollround_k34_wishes_that_are_met.Holds :=
  DL.K34.goal fun ns h => DL.K34.law_ok ns h
