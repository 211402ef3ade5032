import PyProof.Rows.All
import Wide.All
import OpenK.AllK
import Wide.FinOn
import HandS.Base
import HandS.Call
import HandS.List
import HandS.Exc
import HandS.Comp
import HandS.ExcOwn
import HandS.CallSlots
import HandS.Wide
import HandS.Text
import HandS.Deep
import HandS.IsInst
import HandS.TupLe
import HandS.Conv
import HandS.Walk
import HandS.Zip
import KE.KTupSum
import KE.GoesEnum
import HandS.Words
import HandS.WordsExc
import HandS.Defaults
import HandS.HeadEnd
import HandS.HeadHook2
import HandS.Head2
import HandS.Style
import PyProof.ReprRoads
import PyProof.ReprLen
import PyProof.FitsInt
import HandS.SortInts
import HandS.SortOrd
import HandS.TupMul
import HandS.TupAny
import PyProof.ReprBulk
import PyProof.ListIndex
import HandS.Strs
import KE.DataMinMax
import HandS.TupSets
import HandS.HeadHook1
import HandS.Ends
import HandS.More
import HandS.Head0
import HandS.Head1
import KE.KStateDown
import Lean
import PySem.Challenge.RW_tollround_k28_whole_round_the_table
set_option Elab.async false
set_option linter.all false
set_option maxRecDepth 100000
set_option maxHeartbeats 0
set_option autoImplicit false
/-! DLA: a layer of plain data over HandS. Values, a store of lists that change, outcomes; how they lie in the abstract heap. -/
namespace DL
open PySem PySem.Spec L2

/-- a value: data that does not change, a handle of a list that may change, an object of the module, a built-in class -/
inductive Vl where
  | d (x : PyData)
  | h (i : Nat)
  | a (p : Addr)
  | t (n : String)
  /-- a list that is only read: the script -/
  | s (xs : List PyData)
/-- what a handle stands for -/
inductive MO where
  | gone
  | lst (xs : List PyData)
abbrev Mem := List MO
abbrev Env := List (Option Vl)
/-- an outcome: a value and the store; an error of the class at C with its fields; no promise -/
inductive Res (α : Type) where
  | ok (x : α) (M : Mem)
  | er (C : Addr) (fs : List (Str × PyData)) (M : Mem)
  | st
def Res.bind {α β : Type} (r : Res α) (k : α → Mem → Res β) : Res β :=
  match r with
  | .ok x M => k x M
  | .er C fs M => .er C fs M
  | .st => .st
abbrev Ev := Env → Mem → Res Vl
abbrev Evs := Env → Mem → Res (List Vl)

/-- the world: where the handles stand, what is frozen -/
structure Wd where
  as : List Addr
  F : Hp
  /-- what is set aside: it stays as it is -/
  P : Hp
structure Wd.le (w w' : Wd) : Prop where
  «1» : w.as <+: w'.as
  «2» : ∀ a o, w.F a = some o → w'.F a = some o
  «3» : w'.P = w.P
theorem Wd.le_refl (w : Wd) : w.le w := ⟨List.prefix_refl _, fun _ _ h => h, rfl⟩
theorem Wd.le.trans {a b c : Wd} (h : a.le b) (k : b.le c) : a.le c := ⟨h.1.trans k.1, fun x o e => k.2 x o (h.2 x o e), k.3.trans h.3⟩
theorem Wd.le.get {w w' : Wd} (l : w.le w') {i : Nat} {a : Addr} (h : w.as[i]? = some a) : w'.as[i]? = some a := by
  obtain ⟨t, e⟩ := l.1
  have hi : i < w.as.length := (List.getElem?_eq_some_iff.mp h).1
  rw [← e, List.getElem?_append_left hi]
  exact h

theorem Rd.up {F F' : Hp} (l : ∀ a o, F a = some o → F' a = some o) {a : Addr} {u : HO} (h : Rd F a u) : Rd F' a u := by
  rcases h with h | ⟨o, h⟩
  · exact .inl (l _ _ h)
  · exact .inr ⟨o, l _ _ h⟩
theorem SqL.up {K : PySem.W.Frag} {F F' : Hp} (l : ∀ a o, F a = some o → F' a = some o) {a : Addr} {xs : List V} (h : SqL K F a xs) : SqL K F' a xs :=
  h.elim (fun r => .inl (Rd.up l r)) .inr
theorem SqT.up {K : PySem.W.Frag} {F F' : Hp} (l : ∀ a o, F a = some o → F' a = some o) {a : Addr} {xs : List V} (h : SqT K F a xs) : SqT K F' a xs :=
  h.elim (fun r => .inl (Rd.up l r)) .inr
/-! data as it lies: lists are objects that the call has made (or the script), tuples may be written ones too -/
mutual
inductive Dp (K : PySem.W.Frag) (F : Hp) : V → PyData → Prop
  | non : Dp K F .non .none
  | bl (b : Bool) : Dp K F (.bl b) (.bool b)
  | int (i : Int) : Dp K F (.int i) (.int i)
  | str (x : Str) : Dp K F (.str x) (.str x)
  | lst {p : Addr} {xs : List V} {ds : List PyData} : F p = some (.lst xs) → DpAll K F xs ds → Dp K F (.ref p) (.list ds)
  | tup {p : Addr} {xs : List V} {ds : List PyData} : SqT K F p xs → DpAll K F xs ds → Dp K F (.ref p) (.tuple ds)
inductive DpAll (K : PySem.W.Frag) (F : Hp) : List V → List PyData → Prop
  | nil : DpAll K F [] []
  | cons {v : V} {vs : List V} {d : PyData} {ds : List PyData} : Dp K F v d → DpAll K F vs ds → DpAll K F (v :: vs) (d :: ds)
end
mutual
theorem Dp.deep {K : PySem.W.Frag} {F F' : Hp} (l : ∀ a o, F a = some o → F' a = some o) : ∀ (d : PyData) (v : V), Dp K F v d → L2.Dp K F' v d
  | .none, _, h => by cases h; exact .non
  | .bool b, _, h => by cases h; exact .bl b
  | .int i, _, h => by cases h; exact .int i
  | .str x, _, h => by cases h; exact .str x
  | .list ds, _, h => by
    cases h with
    | lst hs ha => exact .lst (.inl (.inl (l _ _ hs))) (DpAll.deep l ds _ ha)
  | .tuple ds, _, h => by
    cases h with
    | tup hs ha => exact .tup (SqT.up l hs) (DpAll.deep l ds _ ha)
  | .dict _, _, h => by cases h
theorem DpAll.deep {K : PySem.W.Frag} {F F' : Hp} (l : ∀ a o, F a = some o → F' a = some o) : ∀ (ds : List PyData) (vs : List V), DpAll K F vs ds → L2.DpAll K F' vs ds
  | [], _, h => by cases h; exact .nil
  | d :: ds, _, h => by
    cases h with
    | cons h1 h2 => exact .cons (Dp.deep l d _ h1) (DpAll.deep l ds _ h2)
end
mutual
theorem Dp.up {K : PySem.W.Frag} {F F' : Hp} (l : ∀ a o, F a = some o → F' a = some o) : ∀ (d : PyData) (v : V), Dp K F v d → Dp K F' v d
  | .none, _, h => by cases h; exact .non
  | .bool b, _, h => by cases h; exact .bl b
  | .int i, _, h => by cases h; exact .int i
  | .str x, _, h => by cases h; exact .str x
  | .list ds, _, h => by
    cases h with
    | lst hs ha => exact .lst (l _ _ hs) (DpAll.up l ds _ ha)
  | .tuple ds, _, h => by
    cases h with
    | tup hs ha => exact .tup (SqT.up l hs) (DpAll.up l ds _ ha)
  | .dict _, _, h => by cases h
theorem DpAll.up {K : PySem.W.Frag} {F F' : Hp} (l : ∀ a o, F a = some o → F' a = some o) : ∀ (ds : List PyData) (vs : List V), DpAll K F vs ds → DpAll K F' vs ds
  | [], _, h => by cases h; exact .nil
  | d :: ds, _, h => by
    cases h with
    | cons h1 h2 => exact .cons (Dp.up l d _ h1) (DpAll.up l ds _ h2)
end
theorem DpAll.len {K : PySem.W.Frag} {F : Hp} : ∀ {vs : List V} {ds : List PyData}, DpAll K F vs ds → vs.length = ds.length
  | _, _, .nil => rfl
  | _, _, .cons _ t => by simp [DpAll.len t]
theorem DpAll.get {K : PySem.W.Frag} {F : Hp} : ∀ {vs : List V} {ds : List PyData} {i : Nat} {d : PyData}, DpAll K F vs ds → ds[i]? = some d → ∃ v, vs[i]? = some v ∧ Dp K F v d
  | _, _, _, _, .nil, e => by simp at e
  | _, _, 0, _, .cons r _, e => by simp at e; subst e; exact ⟨_, rfl, r⟩
  | _, _, i + 1, d, .cons _ t, e => by
    obtain ⟨u, h1, h2⟩ := DpAll.get (i := i) (d := d) t (by simpa using e)
    exact ⟨u, by simpa using h1, h2⟩
theorem DpAll.get' {K : PySem.W.Frag} {F : Hp} : ∀ {vs : List V} {ds : List PyData} {i : Nat} {v : V}, DpAll K F vs ds → vs[i]? = some v → ∃ d, ds[i]? = some d ∧ Dp K F v d
  | _, _, _, _, .nil, e => by simp at e
  | _, _, 0, _, .cons r _, e => by simp at e; subst e; exact ⟨_, rfl, r⟩
  | _, _, i + 1, v, .cons _ t, e => by
    obtain ⟨u, h1, h2⟩ := DpAll.get' (i := i) (v := v) t (by simpa using e)
    exact ⟨u, by simpa using h1, h2⟩
theorem DpAll.app {K : PySem.W.Frag} {F : Hp} : ∀ {vs ws : List V} {ds es : List PyData}, DpAll K F vs ds → DpAll K F ws es → DpAll K F (vs ++ ws) (ds ++ es)
  | _, _, _, _, .nil, h => h
  | _, _, _, _, .cons r t, h => .cons r (DpAll.app t h)
theorem DpAll.one {K : PySem.W.Frag} {F : Hp} {v : V} {d : PyData} (h : Dp K F v d) : DpAll K F [v] [d] := .cons h .nil
theorem DpAll.take {K : PySem.W.Frag} {F : Hp} : ∀ {vs : List V} {ds : List PyData} (n : Nat), DpAll K F vs ds → DpAll K F (vs.take n) (ds.take n)
  | _, _, 0, _ => .nil
  | _, _, _ + 1, .nil => .nil
  | _, _, n + 1, .cons r t => .cons r (DpAll.take n t)
theorem DpAll.drop {K : PySem.W.Frag} {F : Hp} : ∀ {vs : List V} {ds : List PyData} (n : Nat), DpAll K F vs ds → DpAll K F (vs.drop n) (ds.drop n)
  | _, _, 0, h => h
  | _, _, _ + 1, .nil => .nil
  | _, _, n + 1, .cons _ t => DpAll.drop n t
theorem DpAll.set {K : PySem.W.Frag} {F : Hp} {v : V} {d : PyData} (r : Dp K F v d) : ∀ {vs : List V} {ds : List PyData} (i : Nat), DpAll K F vs ds → DpAll K F (vs.set i v) (ds.set i d)
  | _, _, _, .nil => .nil
  | _, _, 0, .cons _ t => .cons r t
  | _, _, i + 1, .cons q t => .cons q (DpAll.set r i t)
theorem DpAll.erase {K : PySem.W.Frag} {F : Hp} : ∀ {vs : List V} {ds : List PyData} (i : Nat), DpAll K F vs ds → DpAll K F (vs.eraseIdx i) (ds.eraseIdx i)
  | _, _, _, .nil => .nil
  | _, _, 0, .cons _ t => t
  | _, _, i + 1, .cons r t => .cons r (DpAll.erase i t)
theorem DpAll.rev {K : PySem.W.Frag} {F : Hp} : ∀ {vs : List V} {ds : List PyData}, DpAll K F vs ds → DpAll K F vs.reverse ds.reverse
  | _, _, .nil => .nil
  | _, _, .cons r t => by rw [List.reverse_cons, List.reverse_cons]; exact DpAll.app (DpAll.rev t) (.cons r .nil)
theorem DpAll.rep {K : PySem.W.Frag} {F : Hp} {vs : List V} {ds : List PyData} (h : DpAll K F vs ds) : ∀ k : Nat, DpAll K F (List.replicate k vs).flatten (List.replicate k ds).flatten
  | 0 => .nil
  | k + 1 => by
    rw [List.replicate_succ, List.replicate_succ, List.flatten_cons, List.flatten_cons]
    exact DpAll.app h (DpAll.rep h k)
theorem DpAll.ints {K : PySem.W.Frag} {F : Hp} : ∀ (ns : List Int), DpAll K F (ns.map V.int) (ns.map PyData.int)
  | [] => .nil
  | n :: ns => .cons (.int n) (DpAll.ints ns)
theorem Dp.uniq {K : PySem.W.Frag} {F : Hp} {v : V} : ∀ {d : PyData}, (∀ a, v ≠ .ref a) → ∀ {d' : PyData}, Dp K F v d → Dp K F v d' → d = d' := by
  intro d hn d' h h'
  cases h <;> cases h' <;> first | rfl | exact absurd rfl (hn _)

/-- how a value lies -/
def RV (K : PySem.W.Frag) (w : Wd) : Vl → V → Prop
  | .d x, v => Dp K w.F v x
  | .h i, v => ∃ a, w.as[i]? = some a ∧ v = .ref a
  | .a p, v => v = .ref p
  | .t n, v => v = .ty n
  | .s xs, v => ∃ p vs, v = .ref p ∧ SqL K w.F p vs ∧ DpAll K w.F vs xs
theorem RV.up {K : PySem.W.Frag} {w w' : Wd} (l : w.le w') : ∀ {x : Vl} {v : V}, RV K w x v → RV K w' x v
  | .d x, v, h => Dp.up l.2 x v h
  | .h i, v, ⟨a, e, r⟩ => ⟨a, l.get e, r⟩
  | .a p, v, h => h
  | .t n, v, h => h
  | .s xs, v, ⟨p, vs, e, r, q⟩ => ⟨p, vs, e, SqL.up l.2 r, DpAll.up l.2 _ _ q⟩
inductive RVs (K : PySem.W.Frag) (w : Wd) : List Vl → List V → Prop
  | nil : RVs K w [] []
  | cons {x : Vl} {xs : List Vl} {v : V} {vs : List V} : RV K w x v → RVs K w xs vs → RVs K w (x :: xs) (v :: vs)
theorem RVs.up {K : PySem.W.Frag} {w w' : Wd} (l : w.le w') : ∀ {xs : List Vl} {vs : List V}, RVs K w xs vs → RVs K w' xs vs
  | _, _, .nil => .nil
  | _, _, .cons r t => .cons (RV.up l r) (RVs.up l t)
theorem RVs.len {K : PySem.W.Frag} {w : Wd} : ∀ {xs : List Vl} {vs : List V}, RVs K w xs vs → xs.length = vs.length
  | _, _, .nil => rfl
  | _, _, .cons _ t => by simp [RVs.len t]
theorem RVs.get {K : PySem.W.Frag} {w : Wd} : ∀ {xs : List Vl} {vs : List V} {i : Nat} {x : Vl}, RVs K w xs vs → xs[i]? = some x → ∃ v, vs[i]? = some v ∧ RV K w x v
  | _, _, _, _, .nil, e => by simp at e
  | _, _, 0, _, .cons r _, e => by simp at e; subst e; exact ⟨_, rfl, r⟩
  | _, _, i + 1, x, .cons _ t, e => by
    obtain ⟨u, h1, h2⟩ := RVs.get (i := i) (x := x) t (by simpa using e)
    exact ⟨u, by simpa using h1, h2⟩
theorem RVs.app {K : PySem.W.Frag} {w : Wd} : ∀ {xs ys : List Vl} {vs us : List V}, RVs K w xs vs → RVs K w ys us → RVs K w (xs ++ ys) (vs ++ us)
  | _, _, _, _, .nil, h => h
  | _, _, _, _, .cons r t, h => .cons r (RVs.app t h)
/-- all of them data -/
def datas : List Vl → Option (List PyData)
  | [] => some []
  | .d x :: r => (datas r).map (x :: ·)
  | _ :: _ => none
theorem datas_d : ∀ (xs : List PyData), datas (xs.map Vl.d) = some xs
  | [] => rfl
  | x :: xs => by simp [datas, datas_d xs]
theorem RVs.dat {K : PySem.W.Frag} {w : Wd} : ∀ {xs : List Vl} {vs : List V} {ds : List PyData}, RVs K w xs vs → datas xs = some ds → DpAll K w.F vs ds
  | _, _, _, .nil, e => by
    have : [] = _ := Option.some.inj e
    subst this
    exact .nil
  | .d x :: r, _, ds, .cons h t, e => by
    cases q : datas r with
    | none => simp [datas, q] at e
    | some l =>
      simp [datas, q] at e
      subst e
      exact .cons h (RVs.dat t q)
  | .h _ :: _, _, _, .cons _ _, e => by simp [datas] at e
  | .a _ :: _, _, _, .cons _ _, e => by simp [datas] at e
  | .t _ :: _, _, _, .cons _ _, e => by simp [datas] at e
  | .s _ :: _, _, _, .cons _ _, e => by simp [datas] at e

/-- the names' values -/
structure RE (K : PySem.W.Frag) (w : Wd) (e : Env) (σ : L2.St) : Prop where
  len : e.length = σ.length
  get : ∀ (i : Nat) (x : Vl), e[i]? = some (some x) → ∃ v, σ[i]? = some (some v) ∧ RV K w x v
theorem RE.up {K : PySem.W.Frag} {w w' : Wd} (l : w.le w') {e : Env} {σ : St} (h : RE K w e σ) : RE K w' e σ :=
  ⟨h.len, fun i x q => let ⟨v, a, b⟩ := h.get i x q; ⟨v, a, RV.up l b⟩⟩
theorem RE.set {K : PySem.W.Frag} {w : Wd} {e : Env} {σ : St} (h : RE K w e σ) {x : Vl} {v : V} (r : RV K w x v) (i : Nat) : RE K w (e.set i (some x)) (σ.set i (some v)) :=
  ⟨by simp [h.len], fun j y q => by
    by_cases hj : i = j
    · subst hj
      by_cases hi : i < e.length
      · rw [List.getElem?_set_self hi] at q
        cases q
        exact ⟨v, by rw [List.getElem?_set_self (by rw [← h.len]; exact hi)], r⟩
      · rw [List.getElem?_eq_none (by simpa using hi)] at q
        cases q
    · rw [List.getElem?_set_ne hj] at q ⊢
      exact h.get j y q⟩
theorem RE.unset {K : PySem.W.Frag} {w : Wd} {e : Env} {σ : St} (h : RE K w e σ) (i : Nat) : RE K w (e.set i none) (σ.set i none) :=
  ⟨by simp [h.len], fun j y q => by
    by_cases hj : i = j
    · subst hj
      by_cases hi : i < e.length
      · rw [List.getElem?_set_self hi] at q
        cases q
      · rw [List.getElem?_eq_none (by simpa using hi)] at q
        cases q
    · rw [List.getElem?_set_ne hj] at q ⊢
      exact h.get j y q⟩
theorem RE.fall {K : PySem.W.Frag} {w : Wd} {e : Env} {σ : St} (h : RE K w e σ) (i : Nat) : RE K w (e.set i none) σ :=
  ⟨by simp [h.len], fun j y q => by
    by_cases hj : i = j
    · subst hj
      by_cases hi : i < e.length
      · rw [List.getElem?_set_self hi] at q
        cases q
      · rw [List.getElem?_eq_none (by simpa using hi)] at q
        cases q
    · rw [List.getElem?_set_ne hj] at q
      exact h.get j y q⟩
/-- a slot that is known no more -/
def ewipe (e : Env) : List Nat → Env
  | [] => e
  | v :: vs => (ewipe e vs).set v none
theorem RE.wiped {K : PySem.W.Frag} {w : Wd} {e : Env} {σ : L2.St} (h : RE K w e σ) : ∀ vs : List Nat, RE K w (ewipe e vs) (wipe σ vs)
  | [] => h
  | v :: vs => (RE.wiped h vs).unset v

/-- how a handle's matter lies -/
def MOk (K : PySem.W.Frag) (w : Wd) (a : Addr) (o : Option HO) : MO → Prop
  | .gone => ∃ u, o = some u
  | .lst xs => w.F a = none ∧ ∃ vs, o = some (.lst vs) ∧ DpAll K w.F vs xs
/-- the world's shape in the abstract heap -/
structure Rel (K : PySem.W.Frag) (w : Wd) (M : Mem) (H : Hp) : Prop where
  sub : ∀ a o, w.F a = some o → H a = some o
  len : w.as.length = M.length
  nd : w.as.Nodup
  pin : ∀ a o, w.P a = some o → H a = some o ∧ w.F a = none ∧ a ∉ w.as
  ob : ∀ (i : Nat) (a : Addr) (m : MO), w.as[i]? = some a → M[i]? = some m → MOk K w a (H a) m
theorem Rel.there {K : PySem.W.Frag} {w : Wd} {M : Mem} {H : Hp} (r : Rel K w M H) {a : Addr} (h : a ∈ w.as) : ∃ u, H a = some u := by
  obtain ⟨i, hi⟩ := List.mem_iff_getElem?.mp h
  have hl : i < M.length := by rw [← r.len]; exact (List.getElem?_eq_some_iff.mp hi).1
  have q := r.ob i a _ hi (List.getElem?_eq_getElem hl)
  cases e : M[i] with
  | gone => rw [e] at q; exact q
  | lst xs => rw [e] at q; obtain ⟨_, vs, e2, _⟩ := q; exact ⟨_, e2⟩
theorem Rel.new {K : PySem.W.Frag} {w : Wd} {M : Mem} {H : Hp} (r : Rel K w M H) {p : Addr} (h : H p = none) : p ∉ w.as ∧ w.F p = none := by
  refine ⟨fun hm => ?_, ?_⟩
  · obtain ⟨u, e⟩ := r.there hm
    rw [h] at e; cases e
  · cases e : w.F p with
    | none => rfl
    | some o => have := r.sub p o e; rw [h] at this; cases this
/-- the world with p frozen as o -/
def Wd.fz (w : Wd) (p : Addr) (o : HO) : Wd := ⟨w.as, upd w.F p o, w.P⟩
def Wd.add (w : Wd) (p : Addr) : Wd := ⟨w.as ++ [p], w.F, w.P⟩
theorem Wd.le_fz {w : Wd} {p : Addr} {o : HO} (h : w.F p = none) : w.le (w.fz p o) :=
  ⟨List.prefix_refl _, fun a u e => by
    show upd w.F p o a = some u
    rw [upd_ne (ne_of_none e h)]; exact e, rfl⟩
theorem Wd.le_add {w : Wd} {p : Addr} : w.le (w.add p) := ⟨List.prefix_append _ _, fun _ _ e => e, rfl⟩
theorem MOk.up {K : PySem.W.Frag} {w w' : Wd} (l : w.le w') {a : Addr} {o : Option HO} (hF : w'.F a = none ∨ w.F a = w'.F a) : ∀ {m : MO}, MOk K w a o m → MOk K w' a o m
  | .gone, h => h
  | .lst xs, ⟨e, vs, e2, d⟩ => ⟨by rcases hF with q | q; exact q; rw [← q]; exact e, vs, e2, DpAll.up l.2 _ _ d⟩
/-- a new frozen object -/
theorem Rel.alloc {K : PySem.W.Frag} {w : Wd} {M : Mem} {H : Hp} (r : Rel K w M H) {p : Addr} (h : H p = none) (o : HO) : Rel K (w.fz p o) M (upd H p o) := by
  obtain ⟨h1, h2⟩ := r.new h
  refine ⟨fun a u e => ?_, r.len, r.nd, fun a u e => ?_, fun i a m e1 e2 => ?_⟩
  rotate_left
  · obtain ⟨q1, q2, q3⟩ := r.pin a u e
    have ha : a ≠ p := ne_of_none q1 h
    exact ⟨by rw [upd_ne ha]; exact q1, by show upd w.F p o a = none; rw [upd_ne ha]; exact q2, q3⟩
  rotate_left
  · have e : upd w.F p o a = some u := e
    by_cases ha : a = p
    · subst ha; rw [upd_same] at e ⊢; exact e
    · rw [upd_ne ha] at e ⊢; exact r.sub a u e
  · have ha : a ≠ p := fun z => h1 (z ▸ List.mem_of_getElem? e1)
    rw [upd_ne ha]
    exact (r.ob i a m e1 e2).up (Wd.le_fz h2) (.inr (by show _ = upd w.F p o a; rw [upd_ne ha]))
/-- a new handle -/
theorem Rel.fresh {K : PySem.W.Frag} {w : Wd} {M : Mem} {H : Hp} (r : Rel K w M H) {p : Addr} (h : H p = none) {vs : List V} {xs : List PyData} (d : DpAll K w.F vs xs) : Rel K (w.add p) (M ++ [.lst xs]) (upd H p (.lst vs)) := by
  obtain ⟨h1, h2⟩ := r.new h
  refine ⟨fun a u e => ?_, by show (w.as ++ [p]).length = _; simp [r.len], ?_, fun a u e => ?_, fun i a m e1 e2 => ?_⟩
  rotate_left 2
  · obtain ⟨q1, q2, q3⟩ := r.pin a u e
    have ha : a ≠ p := ne_of_none q1 h
    exact ⟨by rw [upd_ne ha]; exact q1, q2, by show a ∉ w.as ++ [p]; simp [q3, ha]⟩
  rotate_left
  · have e : w.F a = some u := e
    rw [upd_ne (ne_of_none e h2)]; exact r.sub a u e
  · show (w.as ++ [p]).Nodup
    rw [List.nodup_append]
    refine ⟨r.nd, by simp, fun a ha b hb z => ?_⟩
    have : b = p := by simpa using hb
    exact h1 (this ▸ z ▸ ha)
  · have e1 : (w.as ++ [p])[i]? = some a := e1
    by_cases hi : i < w.as.length
    · rw [List.getElem?_append_left hi] at e1
      rw [List.getElem?_append_left (by rw [← r.len]; exact hi)] at e2
      have ha : a ≠ p := fun z => h1 (z ▸ List.mem_of_getElem? e1)
      rw [upd_ne ha]
      exact (r.ob i a m e1 e2).up Wd.le_add (.inr rfl)
    · have hl : i = w.as.length := by
        have := (List.getElem?_eq_some_iff.mp e1).1
        simp at this; omega
      subst hl
      rw [List.getElem?_append_right (Nat.le_refl _)] at e1
      rw [r.len, List.getElem?_append_right (Nat.le_refl _)] at e2
      simp at e1 e2
      subst e1 e2
      rw [upd_same]
      exact ⟨h2, vs, rfl, d⟩
theorem Rel.at {K : PySem.W.Frag} {w : Wd} {M : Mem} {H : Hp} (r : Rel K w M H) {i : Nat} {a : Addr} {xs : List PyData} (h : w.as[i]? = some a) (hm : M[i]? = some (.lst xs)) : w.F a = none ∧ ∃ vs, H a = some (.lst vs) ∧ DpAll K w.F vs xs := r.ob i a _ h hm
theorem nodup_get {l : List Addr} (h : l.Nodup) {i j : Nat} {a : Addr} (hi : l[i]? = some a) (hj : l[j]? = some a) : i = j := by
  obtain ⟨h1, e1⟩ := List.getElem?_eq_some_iff.mp hi
  obtain ⟨h2, e2⟩ := List.getElem?_eq_some_iff.mp hj
  exact (List.getElem_inj h).mp (e1.trans e2.symm)
/-- a handle's list is changed -/
theorem Rel.write {K : PySem.W.Frag} {w : Wd} {M : Mem} {H : Hp} (r : Rel K w M H) {i : Nat} {a : Addr} (h : w.as[i]? = some a) (hF : w.F a = none) {vs : List V} {xs : List PyData} (d : DpAll K w.F vs xs) : Rel K w (M.set i (.lst xs)) (upd H a (.lst vs)) := by
  have ha : a ∈ w.as := List.mem_of_getElem? h
  refine ⟨fun b u e => ?_, by simp [r.len], r.nd, fun b u e => ?_, fun j b m e1 e2 => ?_⟩
  rotate_left
  · obtain ⟨q1, q2, q3⟩ := r.pin b u e
    have hb : b ≠ a := fun z => q3 (z ▸ ha)
    exact ⟨by rw [upd_ne hb]; exact q1, q2, q3⟩
  rotate_left
  · rw [upd_ne (ne_of_none e hF)]; exact r.sub b u e
  · by_cases hj : i = j
    · subst hj
      rw [h] at e1; cases e1
      have hl : i < M.length := by rw [← r.len]; exact (List.getElem?_eq_some_iff.mp h).1
      rw [List.getElem?_set_self hl] at e2; cases e2
      rw [upd_same]
      exact ⟨hF, vs, rfl, d⟩
    · rw [List.getElem?_set_ne hj] at e2
      have hb : b ≠ a := fun z => hj (nodup_get r.nd h (z ▸ e1))
      rw [upd_ne hb]
      exact r.ob j b m e1 e2
/-- a handle's list is frozen -/
theorem Rel.freeze {K : PySem.W.Frag} {w : Wd} {M : Mem} {H : Hp} (r : Rel K w M H) {i : Nat} {a : Addr} (h : w.as[i]? = some a) {vs : List V} {xs : List PyData} (hF : w.F a = none) (e : H a = some (.lst vs)) : Rel K (w.fz a (.lst vs)) (M.set i .gone) H := by
  have ha : a ∈ w.as := List.mem_of_getElem? h
  refine ⟨fun b u q => ?_, by show w.as.length = _; simp [r.len], r.nd, fun b u e => ?_, fun j b m e1 e2 => ?_⟩
  rotate_left
  · obtain ⟨q1, q2, q3⟩ := r.pin b u e
    have hb : b ≠ a := fun z => q3 (z ▸ ha)
    exact ⟨q1, by show upd w.F a _ b = none; rw [upd_ne hb]; exact q2, q3⟩
  rotate_left
  · have q : upd w.F a (.lst vs) b = some u := q
    by_cases hb : b = a
    · subst hb; rw [upd_same] at q; rw [← q]; exact e
    · rw [upd_ne hb] at q; exact r.sub b u q
  · have e1 : w.as[j]? = some b := e1
    by_cases hj : i = j
    · subst hj
      rw [h] at e1; cases e1
      have hl : i < M.length := by rw [← r.len]; exact (List.getElem?_eq_some_iff.mp h).1
      rw [List.getElem?_set_self hl] at e2; cases e2
      exact ⟨_, e⟩
    · rw [List.getElem?_set_ne hj] at e2
      have hb : b ≠ a := fun z => hj (nodup_get r.nd h (z ▸ e1))
      exact (r.ob j b m e1 e2).up (Wd.le_fz hF) (.inr (by show _ = upd w.F a _ b; rw [upd_ne hb]))
/-- set aside, and taken back -/
theorem Rel.aside {K : PySem.W.Frag} {w : Wd} {M : Mem} {H : Hp} (r : Rel K w M H) {p : Addr} {o : HO} (hF : w.F p = none) (hA : p ∉ w.as) : Rel K ⟨w.as, w.F, upd w.P p o⟩ M (upd H p o) := by
  refine ⟨fun a u e => ?_, r.len, r.nd, fun a u e => ?_, fun i a m e1 e2 => ?_⟩
  · rw [upd_ne (ne_of_none e hF)]; exact r.sub a u e
  · have e : upd w.P p o a = some u := e
    by_cases ha : a = p
    · subst ha
      rw [upd_same] at e
      exact ⟨by rw [upd_same]; exact e, hF, hA⟩
    · rw [upd_ne ha] at e
      rw [upd_ne ha]
      exact r.pin a u e
  · have ha : a ≠ p := fun z => hA (z ▸ List.mem_of_getElem? e1)
    rw [upd_ne ha]
    have q := r.ob i a m e1 e2
    cases m with
    | gone => exact q
    | lst xs => exact q
theorem Rel.back {K : PySem.W.Frag} {w : Wd} {M : Mem} {H : Hp} (r : Rel K w M H) {P : Hp} (hP : ∀ a o, P a = some o → w.P a = some o) : Rel K ⟨w.as, w.F, P⟩ M H := by
  refine ⟨r.sub, r.len, r.nd, fun a u e => r.pin a u (hP a u e), fun i a m e1 e2 => ?_⟩
  have q := r.ob i a m e1 e2
  cases m with
  | gone => exact q
  | lst xs => exact q
/-- younger handles are forgotten -/
theorem Rel.cut {K : PySem.W.Frag} {w : Wd} {M : Mem} {H : Hp} (r : Rel K w M H) (n : Nat) : Rel K ⟨w.as.take n, w.F, w.P⟩ (M.take n) H := by
  refine ⟨r.sub, by simp [r.len], r.nd.sublist (List.take_sublist _ _), fun a u e => let ⟨q1, q2, q3⟩ := r.pin a u e; ⟨q1, q2, fun z => q3 (List.mem_of_mem_take z)⟩, fun i a m e1 e2 => ?_⟩
  have e1 : (w.as.take n)[i]? = some a := e1
  have hi : i < n := by
    have := (List.getElem?_eq_some_iff.mp e1).1
    simp at this; omega
  rw [List.getElem?_take_of_lt hi] at e1 e2
  have q := r.ob i a m e1 e2
  cases m with
  | gone => exact q
  | lst xs => exact q
end DL

namespace DL
open PySem PySem.Spec L2
abbrev Frag := PySem.W.Frag

/-- an error's own dict -/
def XD (K : Frag) (w : Wd) (H : Hp) (d : Option Addr) (fs : List (Str × PyData)) : Prop :=
  fs ≠ [] → ∃ p vs, d = some p ∧ H p = some (.xd vs) ∧ vs.map (·.1) = fs.map (·.1) ∧ DpAll K w.F (vs.map (·.2)) (fs.map (·.2))
/-- what is wanted of an outcome -/
def Post {α β : Type} (K : Frag) (E : XK) (RR : Wd → α → β → Prop) (w : Wd) (r : Res α) (Q : β → Hp → Prop) : Prop :=
  match r with
  | .ok x M => ∀ w' v H', w.le w' → Rel K w' M H' → RR w' x v → Q v H'
  | .er C fs M => ∀ w' d H', w.le w' → Rel K w' M H' → XD K w' H' d fs → E (.ref C) d H'
  | .st => False
section
variable {α β γ δ : Type} {K : Frag} {E : XK} {RR : Wd → α → β → Prop} {RS : Wd → γ → δ → Prop} {w w' : Wd}
theorem Post.up {r : Res α} {Q : β → Hp → Prop} (l : w.le w') (h : Post K E RR w r Q) : Post K E RR w' r Q := by
  cases r with
  | ok x M => exact fun w2 v H' l2 => h w2 v H' (l.trans l2)
  | er C fs M => exact fun w2 d H' l2 => h w2 d H' (l.trans l2)
  | st => exact h
theorem Post.bind {r : Res α} {k : α → Mem → Res γ} {Q : δ → Hp → Prop} {R : β → Hp → Prop} (p : Post K E RS w (r.bind k) Q)
    (h : ∀ x M w' v H', w.le w' → Rel K w' M H' → RR w' x v → Post K E RS w' (k x M) Q → R v H') : Post K E RR w r R := by
  cases r with
  | ok x M => exact fun w' v H' l a b => h x M w' v H' l a b (Post.up l p)
  | er C fs M => exact p
  | st => exact p
theorem Post.at {x : α} {M : Mem} {Q : β → Hp → Prop} {H : Hp} {v : β} (p : Post K E RR w (.ok x M) Q) (r : Rel K w M H) (rv : RR w x v) : Q v H := p w v H (Wd.le_refl w) r rv
end
def tG {α β : Type} (K : Frag) (W : WX) (RR : Wd → α → β → Prop) (f : Env → Mem → Res α) : L2.St → Hp → (β → Hp → Prop) → Prop := fun σ H Q =>
  ∃ w e M, Rel K w M H ∧ RE K w e σ ∧ Post K (WE W σ) RR w (f e M) Q
abbrev tE (K : Frag) (W : WX) (f : Ev) : TE := tG K W (RV K) f
abbrev tT (K : Frag) (W : WX) (f : Env → Mem → Res Bool) : TT := tG K W (fun _ a b => a = b) f
abbrev tA (K : Frag) (W : WX) (f : Evs) : TA := tG K W (RVs K) f
/-- an expression's worth -/
def DE (X : Cx) (W : WX) (e : Expr) (f : Ev) : Prop := PE X e (tE X.K W f)
def DT (X : Cx) (W : WX) (e : Expr) (f : Env → Mem → Res Bool) : Prop := PT X e (tT X.K W f)
def DA (X : Cx) (W : WX) (es : List Expr) (f : Evs) : Prop := PA X es (tA X.K W f)

theorem PEweak {X : Cx} {e : Expr} {t t' : TE} (h : PE X e t) (k : ∀ σ H Q, t' σ H Q → t σ H Q) : PE X e t' := ⟨fun pins s σ H Q I q => h.run pins s σ H Q I (k σ H Q q)⟩
theorem PTweak {X : Cx} {e : Expr} {t t' : TT} (h : PT X e t) (k : ∀ σ H Q, t' σ H Q → t σ H Q) : PT X e t' := ⟨fun pins s σ H Q I q => h.run pins s σ H Q I (k σ H Q q)⟩
theorem PWweak {X : Cx} {e : Expr} {t t' : TT} (h : PW X e t) (k : ∀ σ H Q, t' σ H Q → t σ H Q) : PW X e t' := ⟨fun wh pins s σ H Q I q => h.run wh pins s σ H Q I (k σ H Q q)⟩
theorem PAweak {X : Cx} {e : List Expr} {t t' : TA} (h : PA X e t) (k : ∀ σ H Q, t' σ H Q → t σ H Q) : PA X e t' := ⟨fun pos pins s σ H Q I q => h.run pos pins s σ H Q I (k σ H Q q)⟩
theorem PSweak {X : Cx} {e : Stmt} {t t' : TS} (h : PS X e t) (k : ∀ D σ H, t' D σ H → t D σ H) : PS X e t' := ⟨fun pins s σ H D I q => h.run pins s σ H D I (k D σ H q)⟩
theorem PSsweak {X : Cx} {e : List Stmt} {t t' : TS} (h : PSs X e t) (k : ∀ D σ H, t' D σ H → t D σ H) : PSs X e t' := ⟨fun pins s σ H D I q => h.run pins s σ H D I (k D σ H q)⟩

section
variable {X : Cx} {W : WX}
/-! ### names and constants -/
def getV (i : Nat) : Ev := fun e M => match e[i]? with
  | some (some v) => .ok v M
  | _ => .st
def cst (v : Vl) : Ev := fun _ M => .ok v M
theorem de_var {i : Nat} {x : Str} {pos : Pos} (hN : X.N[i]? = some x) (hv : Vis X.env.scope x) (hd : (x == ("__debug__" : Str)) = false := by decide) (hcd : (x == ("__classdict__" : Str)) = false := by decide) : DE X W (.Name x pos) (getV i) :=
  PEweak (pe_var hN hv hd hcd) fun σ H Q ⟨w, e, M, r, re, p⟩ => by
    unfold getV at p
    cases h : e[i]? with
    | none => rw [h] at p; exact p.elim
    | some o =>
      cases o with
      | none => rw [h] at p; exact p.elim
      | some v =>
        rw [h] at p
        obtain ⟨u, e1, rv⟩ := re.get i v h
        exact ⟨u, e1, p.at r rv⟩
theorem de_c {ex : Expr} {v : V} {x : Vl} (h : PE X ex (tC v)) (hx : ∀ w, RV X.K w x v) : DE X W ex (cst x) :=
  PEweak h fun σ H Q ⟨w, e, M, r, re, p⟩ => p.at r (hx w)
theorem de_int {i j pos} : DE X W (.Constant (.int i) j pos) (cst (.d (.int i))) := de_c pe_int fun _ => .int i
theorem de_bl {b j pos} : DE X W (.Constant (.bool b) j pos) (cst (.d (.bool b))) := de_c pe_bl fun _ => .bl b
theorem de_non {j pos} : DE X W (.Constant .none j pos) (cst (.d .none)) := de_c pe_non fun _ => .non
theorem de_str {x j pos} : DE X W (.Constant (.str x) j pos) (cst (.d (.str x))) := de_c pe_str fun _ => .str x
theorem de_glob {x : Str} {p : Addr} {pos : Pos} (hg : Gl X x) (hm : X.mg x = some (.ref p)) (hd : (x == ("__debug__" : Str)) = false := by decide) : DE X W (.Name x pos) (cst (.a p)) := de_c (pe_glob (v := .ref p) hg hm rfl hd) fun _ => rfl
theorem de_ty {x : Str} {n : String} {pos : Pos} (hg : Gl X x) (hm : X.mg x = none) (hv : bootBuiltins x = some (.type n)) (hn : x ≠ "__name__" := by decide) (hd : (x == ("__debug__" : Str)) = false := by decide) : DE X W (.Name x pos) (cst (.t n)) :=
  de_c (pe_bltn (v := .ty n) hg hm hv rfl hn hd) fun _ => rfl

/-! ### argument lists -/
def nilA : Evs := fun _ M => .ok [] M
def consA (f : Ev) (g : Evs) : Evs := fun e M => (f e M).bind fun x M1 => (g e M1).bind fun xs M2 => .ok (x :: xs) M2
theorem da_nil : DA X W [] nilA := PAweak pa_nil fun σ H Q ⟨w, e, M, r, re, p⟩ => p.at r .nil
theorem da_cons {e : Expr} {es : List Expr} {f : Ev} {g : Evs} (ha : DE X W e f) (hr : DA X W es g) (hs : starEach (e :: es) X.env = (false, eval e X.env) :: starEach es X.env := by rfl) : DA X W (e :: es) (consA f g) :=
  PAweak (pa_cons ha hr hs) fun σ H Q ⟨w, e, M, r, re, p⟩ =>
    ⟨w, e, M, r, re, p.bind fun x M1 w1 v H1 l1 r1 rv p1 =>
      ⟨w1, e, M1, r1, re.up l1, p1.bind fun xs M2 w2 vs H2 l2 r2 rvs p2 => p2.at r2 (.cons (rv.up l2) rvs)⟩⟩

/-! ### two-place operations -/
/-- an operation on values, in data's words -/
def OpD (X : Cx) (F : Value → Value → Sem Value) (g : Vl → Vl → Mem → Res Vl) : Prop :=
  OpR X F fun x y H Q => ∃ (w : Wd) (M : Mem) (a b : Vl), Rel X.K w M H ∧ RV X.K w a x ∧ RV X.K w b y ∧ Post X.K (fun _ _ _ => False) (RV X.K) w (g a b M) Q
/-- no error comes of it -/
def Res.pur {α : Type} : Res α → Res α
  | .ok x M => .ok x M
  | _ => .st
theorem Post.pur {α β : Type} {K : Frag} {E E' : XK} {RR : Wd → α → β → Prop} {w : Wd} {r : Res α} {Q : β → Hp → Prop} (p : Post K E RR w r.pur Q) : Post K E' RR w r Q := by
  cases r with
  | ok x M => exact p
  | er C fs M => exact p.elim
  | st => exact p
def op2 (g : Vl → Vl → Mem → Res Vl) (f1 f2 : Ev) : Ev := fun e M => (f1 e M).bind fun x M1 => (f2 e M1).bind fun y M2 => (g x y M2).pur
theorem de_op {op : Operator} {a b : Expr} {g : Vl → Vl → Mem → Res Vl} {f1 f2 : Ev} {pos : Pos} (ho : OpD X (binaryOp op) g) (ha : DE X W a f1) (hb : DE X W b f2) : DE X W (.BinOp a op b pos) (op2 g f1 f2) :=
  PEweak (pe_op ho ha hb) fun σ H Q ⟨w, e, M, r, re, p⟩ =>
    ⟨w, e, M, r, re, p.bind fun x M1 w1 v H1 l1 r1 rv p1 =>
      ⟨w1, e, M1, r1, re.up l1, p1.bind fun y M2 w2 u H2 l2 r2 ru p2 => ⟨w2, M2, x, y, r2, rv.up l2, ru, p2.pur⟩⟩⟩
theorem de_cmp {op : CmpOp} {a b : Expr} {g : Vl → Vl → Mem → Res Vl} {f1 f2 : Ev} {pos : Pos} (ho : OpD X (compareOp op) g) (ha : DE X W a f1) (hb : DE X W b f2)
    (hm : behindInMarks op b = false := by first | exact nomark _ | rfl) : DE X W (.Compare a [op] [b] pos) (op2 g f1 f2) :=
  PEweak (pe_cmpR ho ha hb hm) fun σ H Q ⟨w, e, M, r, re, p⟩ =>
    ⟨w, e, M, r, re, p.bind fun x M1 w1 v H1 l1 r1 rv p1 =>
      ⟨w1, e, M1, r1, re.up l1, p1.bind fun y M2 w2 u H2 l2 r2 ru p2 => ⟨w2, M2, x, y, r2, rv.up l2, ru, p2.pur⟩⟩⟩
end
end DL

namespace DL
open PySem PySem.Spec L2

/-! ### lists and tuples, as they are read -/
/-- a list that stands by itself -/
def lstOf (M : Mem) : Vl → Option (List PyData)
  | .d (.list xs) => some xs
  | .h i => match M[i]? with
    | some (.lst xs) => some xs
    | _ => none
  | _ => none
/-- a list that may be read -/
def rdOf (M : Mem) : Vl → Option (List PyData)
  | .s xs => some xs
  | x => lstOf M x
def tupOf : Vl → Option (List PyData)
  | .d (.tuple xs) => some xs
  | _ => none
section
variable {K : Frag} {w : Wd} {M : Mem} {H : Hp} {x : Vl} {v : V} {xs : List PyData}
theorem lst_at (r : Rel K w M H) (rv : RV K w x v) (h : lstOf M x = some xs) : ∃ p vs, v = .ref p ∧ H p = some (.lst vs) ∧ DpAll K w.F vs xs := by
  cases x with
  | d y =>
    cases y with
    | list ys =>
      obtain rfl : ys = xs := Option.some.inj h
      cases rv with
      | lst h1 h2 => exact ⟨_, _, rfl, r.sub _ _ h1, h2⟩
    | _ => cases h
  | h i =>
    obtain ⟨a, e, ev⟩ := rv
    unfold lstOf at h
    cases q : M[i]? with
    | none => simp only [q] at h; cases h
    | some m =>
      cases m with
      | gone => simp only [q] at h; cases h
      | lst ys =>
        simp only [q] at h
        cases h
        obtain ⟨_, vs, e2, d⟩ := r.at e q
        exact ⟨a, vs, ev, e2, d⟩
  | _ => cases h
theorem rd_at (r : Rel K w M H) (rv : RV K w x v) (h : rdOf M x = some xs) : ∃ p vs, v = .ref p ∧ SqL K H p vs ∧ DpAll K w.F vs xs := by
  cases x with
  | s ys =>
    have h : some ys = some xs := h
    cases h
    obtain ⟨p, vs, e, q, d⟩ := rv
    exact ⟨p, vs, e, SqL.up r.sub q, d⟩
  | d y => obtain ⟨p, vs, e, q, d⟩ := lst_at r rv (show lstOf M _ = _ from h); exact ⟨p, vs, e, .of q, d⟩
  | h i => obtain ⟨p, vs, e, q, d⟩ := lst_at r rv (show lstOf M _ = _ from h); exact ⟨p, vs, e, .of q, d⟩
  | a p => cases h
  | t n => cases h
theorem tup_at (r : Rel K w M H) (rv : RV K w x v) (h : tupOf x = some xs) : ∃ p vs, v = .ref p ∧ SqT K H p vs ∧ DpAll K w.F vs xs := by
  cases x with
  | d y =>
    cases y with
    | tuple ys =>
      obtain rfl : ys = xs := Option.some.inj h
      cases rv with
      | tup h1 h2 => exact ⟨_, _, rfl, SqT.up r.sub h1, h2⟩
    | _ => cases h
  | _ => cases h
end

/-! ### outcomes of operations -/
def ret (x : PyData) (M : Mem) : Res Vl := .ok (.d x) M
def retI (i : Int) (M : Mem) : Res Vl := .ok (.d (.int i)) M
def retB (b : Bool) (M : Mem) : Res Vl := .ok (.d (.bool b)) M
def addV : Vl → Vl → Mem → Res Vl
  | .d (.int i), .d (.int j), M => .ok (.d (.int (i + j))) M
  | .d (.str i), .d (.str j), M => if i.length + j.length ≤ sizeLine then .ok (.d (.str (i ++ j))) M else .st
  | .d (.tuple xs), .d (.tuple ys), M => if xs ≠ [] ∧ xs.length + ys.length ≤ sizeLine then .ok (.d (.tuple (xs ++ ys))) M else .st
  | a, b, M => match lstOf M a, lstOf M b with
    | some xs, some ys => if xs.length + ys.length ≤ sizeLine then .ok (.d (.list (xs ++ ys))) M else .st
    | _, _ => .st
def subV : Vl → Vl → Mem → Res Vl
  | .d (.int i), .d (.int j), M => .ok (.d (.int (i - j))) M
  | _, _, _ => .st
/-- two ints multiplied: below a million bits together; a list so many times -/
def mulV : Vl → Vl → Mem → Res Vl
  | .d (.int i), .d (.int j), M => if (-(2 ^ 64) < i ∧ i < 2 ^ 64) ∨ (-(2 ^ 64) < j ∧ j < 2 ^ 64) ∨ i.natAbs.log2 + j.natAbs.log2 < 1000000 then .ok (.d (.int (i * j))) M else .st
  | a, .d (.int k), M => match lstOf M a with
    | some xs => if k < 2 ^ 62 ∧ -(2 ^ 62) < k ∧ xs.length * k.toNat ≤ sizeLine then .ok (.d (.list (List.replicate k.toNat xs).flatten)) M else .st
    | none => .st
  | _, _, _ => .st
def fdivV : Vl → Vl → Mem → Res Vl
  | .d (.int i), .d (.int j), M => if 0 < j ∧ j.natAbs.log2 < 9000 then .ok (.d (.int (i / j))) M else .st
  | _, _, _ => .st
def modV : Vl → Vl → Mem → Res Vl
  | .d (.int i), .d (.int j), M => if 0 < j then .ok (.d (.int (i % j))) M else .st
  | _, _, _ => .st
def powV : Vl → Vl → Mem → Res Vl
  | .d (.int i), .d (.int j), M => if 0 ≤ j ∧ j ≤ 1000000 ∧ i.natAbs < 2 ^ 64 then .ok (.d (.int (i ^ j.toNat))) M else .st
  | _, _, _ => .st
section
variable {X : Cx} {W : WX}
theorem lift_int {F : Value → Value → Sem Value} {C : Int → Int → Prop} {g : Int → Int → V} (h : OpR X F (rI C g)) {p : List (Addr × Obj)} {s : Shared} {σ : L2.St} {H : Hp} {i j : Int} {v u : Value} {Q : VK}
    (I : Inv X p σ H s) (r : RelV (.int i) v) (r' : RelV (.int j) u) (hc : C i j) (q : Q (g i j) H) : wpAny (model X.prog X.w) X.A (F v u) (EP X p σ Q) X.xe s := h p s σ H _ _ v u Q I r r' ⟨i, j, rfl, rfl, hc, q⟩
theorem opd_add : OpD X (binaryOp .Add) addV := by
  rintro pins s σ H x y v u Q I rx ry ⟨w, M, a, b, r, ra, rb, p⟩
  unfold addV at p
  split at p
  · cases ra; cases rb
    exact op_add pins s σ H _ _ v u Q I rx ry ⟨_, _, rfl, rfl, p.at r (.int _)⟩
  · split at p
    · rename_i hz
      cases ra; cases rb
      exact op_add_str pins s σ H _ _ v u Q I rx ry ⟨_, _, rfl, rfl, hz, p.at r (.str _)⟩
    · exact p.elim
  · split at p
    · rename_i hz
      obtain ⟨p1, vs, rfl, s1, d1⟩ := tup_at r ra (show tupOf _ = some _ from rfl)
      obtain ⟨p2, us, rfl, s2, d2⟩ := tup_at r rb (show tupOf _ = some _ from rfl)
      have l1 := d1.len
      have l2 := d2.len
      refine op_catT pins s σ H _ _ v u Q I rx ry ⟨p1, p2, vs, us, rfl, rfl, s1, s2, fun z => hz.1 ?_, by rw [l1, l2]; exact hz.2, fun z => ?_, fun _ q hq => ?_⟩
      · subst z; exact List.eq_nil_of_length_eq_zero (by simpa using l1.symm)
      · subst z
        have e : _ = [] := List.eq_nil_of_length_eq_zero (by simpa using l2.symm)
        subst e
        rw [List.append_nil] at p
        exact p.at r ra
      · exact p _ _ _ (Wd.le_fz (r.new hq).2) (r.alloc hq _) (Dp.tup (.inl (.inl upd_same)) (DpAll.up (Wd.le_fz (w := w) (o := .tup (vs ++ us)) (r.new hq).2).2 _ _ (DpAll.app d1 d2)))
    · exact p.elim
  · split at p
    · rename_i xs ys h1 h2
      split at p
      · rename_i hz
        obtain ⟨p1, vs, rfl, s1, d1⟩ := lst_at r ra h1
        obtain ⟨p2, us, rfl, s2, d2⟩ := lst_at r rb h2
        refine op_cat pins s σ H _ _ v u Q I rx ry ⟨p1, p2, vs, us, rfl, rfl, s1, s2, by rw [d1.len, d2.len]; exact hz, fun q hq => ?_⟩
        exact p _ _ _ (Wd.le_fz (r.new hq).2) (r.alloc hq _) (Dp.lst upd_same (DpAll.up (Wd.le_fz (w := w) (o := .lst (vs ++ us)) (r.new hq).2).2 _ _ (DpAll.app d1 d2)))
      · exact p.elim
    · exact p.elim
theorem opd_sub : OpD X (binaryOp .Sub) subV := by
  rintro pins s σ H x y v u Q I rx ry ⟨w, M, a, b, r, ra, rb, p⟩
  unfold subV at p
  split at p
  · cases ra; cases rb
    exact op_sub pins s σ H _ _ v u Q I rx ry ⟨_, _, rfl, rfl, p.at r (.int _)⟩
  · exact p.elim
theorem opd_mul : OpD X (binaryOp .Mult) mulV := by
  rintro pins s σ H x y v u Q I rx ry ⟨w, M, a, b, r, ra, rb, p⟩
  unfold mulV at p
  split at p
  · split at p
    · rename_i hz
      cases ra; cases rb
      rcases hz with hz | hz | hz
      · exact op_mul pins s σ H _ _ v u Q I rx ry ⟨_, _, rfl, rfl, .inl hz, p.at r (.int _)⟩
      · exact op_mul pins s σ H _ _ v u Q I rx ry ⟨_, _, rfl, rfl, .inr hz, p.at r (.int _)⟩
      · exact op_mulW pins s σ H _ _ v u Q I rx ry ⟨_, _, rfl, rfl, hz, p.at r (.int _)⟩
    · exact p.elim
  · split at p
    · rename_i xs h1
      split at p
      · rename_i hz
        cases rb
        obtain ⟨p1, vs, rfl, s1, d1⟩ := lst_at r ra h1
        refine op_rep pins s σ H _ _ v u Q I rx ry ⟨p1, _, vs, rfl, rfl, s1, by have := hz.1; have := hz.2.1; omega, by have := hz.1; omega, by rw [d1.len]; exact hz.2.2, fun q hq => ?_⟩
        exact p _ _ _ (Wd.le_fz (r.new hq).2) (r.alloc hq _) (Dp.lst upd_same (DpAll.up (Wd.le_fz (w := w) (r.new hq).2).2 _ _ (DpAll.rep d1 _)))
      · exact p.elim
    · exact p.elim
  · exact p.elim
theorem opd_fdiv : OpD X (binaryOp .FloorDiv) fdivV := by
  rintro pins s σ H x y v u Q I rx ry ⟨w, M, a, b, r, ra, rb, p⟩
  unfold fdivV at p
  split at p
  · split at p
    · rename_i hz
      cases ra; cases rb
      exact op_fdivW pins s σ H _ _ v u Q I rx ry ⟨_, _, rfl, rfl, hz, p.at r (.int _)⟩
    · exact p.elim
  · exact p.elim
theorem opd_mod : OpD X (binaryOp .Mod) modV := by
  rintro pins s σ H x y v u Q I rx ry ⟨w, M, a, b, r, ra, rb, p⟩
  unfold modV at p
  split at p
  · split at p
    · rename_i hz
      cases ra; cases rb
      exact op_mod pins s σ H _ _ v u Q I rx ry ⟨_, _, rfl, rfl, hz, p.at r (.int _)⟩
    · exact p.elim
  · exact p.elim
theorem opd_pow : OpD X (binaryOp .Pow) powV := by
  rintro pins s σ H x y v u Q I rx ry ⟨w, M, a, b, r, ra, rb, p⟩
  unfold powV at p
  split at p
  · split at p
    · rename_i hz
      cases ra; cases rb
      exact op_pow pins s σ H _ _ v u Q I rx ry ⟨_, _, rfl, rfl, hz, p.at r (.int _)⟩
    · exact p.elim
  · exact p.elim
end
end DL

namespace DL
open PySem PySem.Spec L2
/-! ### comparisons -/
/-- a value as data -/
def datOf (M : Mem) : Vl → Option PyData
  | .d x => some x
  | .s xs => some (.list xs)
  | .h i => match M[i]? with
    | some (.lst xs) => some (.list xs)
    | _ => none
  | _ => none
theorem dat_at {K : Frag} {w : Wd} {M : Mem} {H : Hp} {x : Vl} {v : V} {y : PyData} (r : Rel K w M H) (rv : RV K w x v) (h : datOf M x = some y) : L2.Dp K H v y := by
  cases x with
  | d z =>
    obtain rfl : z = y := Option.some.inj h
    exact Dp.deep r.sub z v rv
  | s zs =>
    obtain rfl : PyData.list zs = y := Option.some.inj h
    obtain ⟨p, vs, e, q, d⟩ := rv
    subst e
    exact .lst (SqL.up r.sub q) (DpAll.deep r.sub _ _ d)
  | h i =>
    obtain ⟨a, e, ev⟩ := rv
    unfold datOf at h
    cases q : M[i]? with
    | none => simp only [q] at h; cases h
    | some m =>
      cases m with
      | gone => simp only [q] at h; cases h
      | lst ys =>
        simp only [q] at h
        cases h
        obtain ⟨_, vs, e2, d⟩ := r.at e q
        subst ev
        exact .lst (.inl (.inl e2)) (DpAll.deep r.sub _ _ d)
  | a p => cases h
  | t n => cases h
/-- == of data: of texts that are well formed, one of them not deep -/
def eqOk (x y : PyData) : Bool := x.canLay0 && y.canLay0 && decide (min x.depth y.depth ≤ 64)
def eqD (x y : PyData) (M : Mem) : Res Vl := match x, y with
  | .str a, .str b => .ok (.d (.bool (decide (a = b)))) M
  | x, y => if eqOk x y = true then .ok (.d (.bool (PyData.eqv x y))) M else .st
def neD (x y : PyData) (M : Mem) : Res Vl := match x, y with
  | .str a, .str b => .ok (.d (.bool (!decide (a = b)))) M
  | x, y => if eqOk x y = true then .ok (.d (.bool (!PyData.eqv x y))) M else .st
def eqV : Vl → Vl → Mem → Res Vl := fun a b M => match datOf M a, datOf M b with
  | some x, some y => eqD x y M
  | _, _ => .st
def neV : Vl → Vl → Mem → Res Vl := fun a b M => match datOf M a, datOf M b with
  | some x, some y => neD x y M
  | _, _ => .st
def ltV : Vl → Vl → Mem → Res Vl
  | .d (.int i), .d (.int j), M => .ok (.d (.bool (decide (i < j)))) M
  | _, _, _ => .st
def leV : Vl → Vl → Mem → Res Vl
  | .d (.int i), .d (.int j), M => .ok (.d (.bool (decide (i ≤ j)))) M
  | _, _, _ => .st
def gtV : Vl → Vl → Mem → Res Vl
  | .d (.int i), .d (.int j), M => .ok (.d (.bool (decide (j < i)))) M
  | _, _, _ => .st
def geV : Vl → Vl → Mem → Res Vl
  | .d (.int i), .d (.int j), M => .ok (.d (.bool (decide (j ≤ i)))) M
  | _, _, _ => .st
/-- is, beside None, True and False -/
def isV : Vl → Vl → Mem → Res Vl
  | .d .none, .d .none, M => .ok (.d (.bool true)) M
  | _, .d .none, M => .ok (.d (.bool false)) M
  | .d (.bool a), .d (.bool b), M => .ok (.d (.bool (decide (a = b)))) M
  | _, _, _ => .st
def isntV : Vl → Vl → Mem → Res Vl
  | .d .none, .d .none, M => .ok (.d (.bool false)) M
  | _, .d .none, M => .ok (.d (.bool true)) M
  | .d (.bool a), .d (.bool b), M => .ok (.d (.bool (!decide (a = b)))) M
  | _, _, _ => .st
section
variable {X : Cx} {W : WX}
theorem opd_eq (hu : X.A.units + 64 < cLine) : OpD X (compareOp .Eq) eqV := by
  rintro pins s σ H x y v u Q I rx ry ⟨w, M, a, b, r, ra, rb, p⟩
  unfold eqV at p
  split at p
  · rename_i d1 d2 h1 h2
    unfold eqD at p
    split at p
    · rename_i z1 z2
      have q1 := dat_at r ra h1
      have q2 := dat_at r rb h2
      cases q1
      cases q2
      refine op_eq pins s σ H _ _ v u Q I rx ry ⟨rfl, ?_⟩
      have e : decide (V.str z1 = V.str z2) = decide (z1 = z2) := by
        rw [Bool.eq_iff_iff]
        simp
      rw [e]
      exact p.at r (.bl _)
    · split at p
      · rename_i hz
        unfold eqOk at hz
        simp only [Bool.and_eq_true, decide_eq_true_eq] at hz
        obtain ⟨as, r1⟩ := L2.Dp.reads I d1 x v (dat_at r ra h1) rx
        obtain ⟨bs, r2⟩ := L2.Dp.reads I d2 y u (dat_at r rb h2) ry
        exact SeqAt.compareEq_reads r1 r2 hz.1.1 hz.1.2 (by omega) ⟨.bl _, H, I, rfl, p.at r (.bl _)⟩
      · exact p.elim
  · exact p.elim
theorem opd_ne (hu : X.A.units + 64 < cLine) : OpD X (compareOp .NotEq) neV := by
  rintro pins s σ H x y v u Q I rx ry ⟨w, M, a, b, r, ra, rb, p⟩
  unfold neV at p
  split at p
  · rename_i d1 d2 h1 h2
    unfold neD at p
    split at p
    · rename_i z1 z2
      have q1 := dat_at r ra h1
      have q2 := dat_at r rb h2
      cases q1
      cases q2
      refine op_ne pins s σ H _ _ v u Q I rx ry ⟨rfl, ?_⟩
      have e : decide (V.str z1 = V.str z2) = decide (z1 = z2) := by
        rw [Bool.eq_iff_iff]
        simp
      rw [e]
      exact p.at r (.bl _)
    · split at p
      · rename_i hz
        unfold eqOk at hz
        simp only [Bool.and_eq_true, decide_eq_true_eq] at hz
        obtain ⟨as, r1⟩ := L2.Dp.reads I d1 x v (dat_at r ra h1) rx
        obtain ⟨bs, r2⟩ := L2.Dp.reads I d2 y u (dat_at r rb h2) ry
        exact SeqAt.compareNe_reads r1 r2 hz.1.1 hz.1.2 (by omega) ⟨.bl _, H, I, rfl, p.at r (.bl _)⟩
      · exact p.elim
  · exact p.elim
theorem opd_lt : OpD X (compareOp .Lt) ltV := by
  rintro pins s σ H x y v u Q I rx ry ⟨w, M, a, b, r, ra, rb, p⟩
  unfold ltV at p
  split at p
  · cases ra; cases rb
    exact op_lt pins s σ H _ _ v u Q I rx ry ⟨_, _, rfl, rfl, p.at r (.bl _)⟩
  · exact p.elim
theorem opd_le : OpD X (compareOp .LtE) leV := by
  rintro pins s σ H x y v u Q I rx ry ⟨w, M, a, b, r, ra, rb, p⟩
  unfold leV at p
  split at p
  · cases ra; cases rb
    exact op_le pins s σ H _ _ v u Q I rx ry ⟨_, _, rfl, rfl, p.at r (.bl _)⟩
  · exact p.elim
theorem opd_gt : OpD X (compareOp .Gt) gtV := by
  rintro pins s σ H x y v u Q I rx ry ⟨w, M, a, b, r, ra, rb, p⟩
  unfold gtV at p
  split at p
  · cases ra; cases rb
    exact op_gt pins s σ H _ _ v u Q I rx ry ⟨_, _, rfl, rfl, p.at r (.bl _)⟩
  · exact p.elim
theorem opd_ge : OpD X (compareOp .GtE) geV := by
  rintro pins s σ H x y v u Q I rx ry ⟨w, M, a, b, r, ra, rb, p⟩
  unfold geV at p
  split at p
  · cases ra; cases rb
    exact op_ge pins s σ H _ _ v u Q I rx ry ⟨_, _, rfl, rfl, p.at r (.bl _)⟩
  · exact p.elim
theorem rv_none {K : Frag} {w : Wd} {v : V} : ∀ {a : Vl}, (a = .d .none → False) → RV K w a v → v ≠ .non
  | .d x, h, r => by
    intro z
    subst z
    cases r
    exact h rfl
  | .h i, _, ⟨a, _, e⟩ => by rw [e]; exact fun z => by cases z
  | .a p, _, e => by rw [show v = _ from e]; exact fun z => by cases z
  | .t n, _, e => by rw [show v = _ from e]; exact fun z => by cases z
  | .s xs, _, ⟨p, vs, e, _⟩ => by rw [e]; exact fun z => by cases z
theorem opd_is : OpD X (compareOp .Is) isV := by
  rintro pins s σ H x y v u Q I rx ry ⟨w, M, a, b, r, ra, rb, p⟩
  unfold isV at p
  split at p
  · cases ra; cases rb
    exact op_isN pins s σ H _ _ v u Q I rx ry ⟨rfl, p.at r (.bl _)⟩
  · rename_i hn
    cases rb
    refine op_isN pins s σ H _ _ v u Q I rx ry ⟨rfl, ?_⟩
    rw [decide_eq_false (rv_none hn ra)]
    exact p.at r (.bl _)
  · cases ra; cases rb
    exact op_is_bl pins s σ H _ _ v u Q I rx ry ⟨_, _, rfl, rfl, p.at r (.bl _)⟩
  · exact p.elim
theorem opd_isnt : OpD X (compareOp .IsNot) isntV := by
  rintro pins s σ H x y v u Q I rx ry ⟨w, M, a, b, r, ra, rb, p⟩
  unfold isntV at p
  split at p
  · cases ra; cases rb
    exact op_notN pins s σ H _ _ v u Q I rx ry ⟨rfl, p.at r (.bl _)⟩
  · rename_i hn
    cases rb
    refine op_notN pins s σ H _ _ v u Q I rx ry ⟨rfl, ?_⟩
    rw [decide_eq_false (rv_none hn ra)]
    exact p.at r (.bl _)
  · cases ra; cases rb
    exact op_isnot_bl pins s σ H _ _ v u Q I rx ry ⟨_, _, rfl, rfl, p.at r (.bl _)⟩
  · exact p.elim
end
end DL

namespace DL
open PySem PySem.Spec L2
section
variable {X : Cx} {W : WX}
/-! ### tests -/
def tstV (M : Mem) : Vl → Option Bool
  | .d .none => some false
  | .d (.bool b) => some b
  | .d (.int i) => some (i != 0)
  | .d (.str y) => if y.length ≤ sizeLine then some ((y.length : Int) != 0) else none
  | .d (.tuple xs) => some (!xs.isEmpty)
  | x => (rdOf M x).map fun xs => !xs.isEmpty
def asB (x : Vl) (M : Mem) : Res Bool := match tstV M x with
  | some b => .ok b M
  | none => .st
theorem empty_same {K : Frag} {F : Hp} {vs : List V} {ds : List PyData} (h : DpAll K F vs ds) : (!vs.isEmpty) = !ds.isEmpty := by cases h <;> rfl
theorem tst_at {K : Frag} {w : Wd} {M : Mem} {H : Hp} {x : Vl} {v : V} {b : Bool} (r : Rel K w M H) (rv : RV K w x v) (h : tstV M x = some b) : TruV K v H b := by
  have lst : ∀ {xs}, rdOf M x = some xs → (!xs.isEmpty) = b → TruV K v H b := fun {xs} e q => by
    obtain ⟨p, vs, e1, h1, d1⟩ := rd_at r rv e
    subst e1
    exact .inl ⟨vs, h1, by rw [empty_same d1]; exact q.symm⟩
  cases x with
  | d y =>
    cases y with
    | none => cases rv; exact (Option.some.inj h).symm
    | bool c => cases rv; exact (Option.some.inj h).symm
    | int i => cases rv; exact (Option.some.inj h).symm
    | str z =>
      cases rv
      have h : (if z.length ≤ sizeLine then some ((z.length : Int) != 0) else none) = some b := h
      by_cases hz : z.length ≤ sizeLine
      · rw [if_pos hz] at h; exact ⟨hz, (Option.some.inj h).symm⟩
      · rw [if_neg hz] at h; cases h
    | tuple xs =>
      obtain ⟨p, vs, e1, h1, d1⟩ := tup_at r rv (show tupOf _ = some _ from rfl)
      subst e1
      exact .inr (.inl ⟨vs, h1, by rw [empty_same d1]; exact (Option.some.inj h).symm⟩)
    | list xs => exact lst rfl (Option.some.inj h)
    | dict _ => cases h
  | h i =>
    have h : (rdOf M (.h i)).map _ = some b := h
    cases e : rdOf M (.h i) with
    | none => rw [e] at h; cases h
    | some xs => rw [e] at h; exact lst e (Option.some.inj h)
  | s xs => exact lst rfl (Option.some.inj h)
  | a p => cases h
  | t n => cases h
def tstE (f : Ev) : Env → Mem → Res Bool := fun e M => (f e M).bind asB
theorem dt_e {ex : Expr} {f : Ev} (h : DE X W ex f) (he : ∀ whole, isTrue ex X.env whole = (do let v ← whole; standAt ex.pos; holding [v] (truthy v)) := by intro _; rfl) : DT X W ex (tstE f) :=
  PTweak (pt_truth h he) fun σ H Q ⟨w, e, M, r, re, p⟩ =>
    ⟨w, e, M, r, re, p.bind fun x M1 w1 v H1 l1 r1 rv p1 => by
      unfold asB at p1
      split at p1
      · rename_i b hb
        exact ⟨b, tst_at r1 rv hb, p1.at r1 rfl⟩
      · exact p1.elim⟩
theorem Res.bind_assoc {α β γ : Type} (r : Res α) (f : α → Mem → Res β) (g : β → Mem → Res γ) : (r.bind f).bind g = r.bind fun x M => (f x M).bind g := by
  cases r <;> rfl
def boolOf : Vl → Mem → Res Bool
  | .d (.bool b), M => .ok b M
  | _, _ => .st
/-- a comparison as a test -/
def opT (g : Vl → Vl → Mem → Res Vl) (f1 f2 : Ev) : Env → Mem → Res Bool := fun e M => (f1 e M).bind fun x M1 => (f2 e M1).bind fun y M2 => (g x y M2).pur.bind boolOf
theorem boolOf_at {K : Frag} {E : XK} {w : Wd} {M : Mem} {H : Hp} {z : Vl} {v : V} {Q : Bool → Hp → Prop} (r : Rel K w M H) (rv : RV K w z v) (p : Post K E (fun _ a b => a = b) w (boolOf z M) Q) : ∃ k, v = .bl k ∧ Q k H := by
  unfold boolOf at p
  split at p
  · cases rv
    exact ⟨_, rfl, p.at r rfl⟩
  · exact p.elim
theorem dt_cmp {op : CmpOp} {a b : Expr} {g : Vl → Vl → Mem → Res Vl} {f1 f2 : Ev} {pos : Pos} (ho : OpD X (compareOp op) g) (ha : DE X W a f1) (hb : DE X W b f2)
    (hm : behindInMarks op b = false := by first | exact nomark _ | rfl) : DT X W (.Compare a [op] [b] pos) (opT g f1 f2) :=
  PTweak (pt_cmpR ho ha hb hm) fun σ H Q ⟨w, e, M, r, re, p⟩ =>
    ⟨w, e, M, r, re, p.bind fun x M1 w1 v H1 l1 r1 rv p1 =>
      ⟨w1, e, M1, r1, re.up l1, p1.bind fun y M2 w2 u H2 l2 r2 ru p2 =>
        ⟨w2, M2, x, y, r2, rv.up l2, ru, (Post.bind (RR := RV X.K) p2 fun z M3 w3 t H3 l3 r3 rt p3 => boolOf_at r3 rt p3).pur⟩⟩⟩
/-- a chain of two comparisons -/
def chE (g g' : Vl → Vl → Mem → Res Vl) (f1 f2 f3 : Ev) : Ev := fun e M => (f1 e M).bind fun x M1 => (f2 e M1).bind fun y M2 => (g x y M2).pur.bind fun z M3 => (boolOf z M3).bind fun k M4 =>
  if k = true then (f3 e M4).bind fun u M5 => (g' y u M5).pur else .ok (.d (.bool false)) M4
/-! ### and, or, not -/
def DW (X : Cx) (W : WX) (e : Expr) (f : Env → Mem → Res Bool) : Prop := PW X e (tT X.K W f)
variable {a b c : Expr} {rest : List Expr} {pos : Pos} {f g : Env → Mem → Res Bool}
def andT (f g : Env → Mem → Res Bool) : Env → Mem → Res Bool := fun e M => (f e M).bind fun b M1 => if b = true then g e M1 else .ok false M1
def orT (f g : Env → Mem → Res Bool) : Env → Mem → Res Bool := fun e M => (f e M).bind fun b M1 => if b = true then .ok true M1 else g e M1
def notT (f : Env → Mem → Res Bool) : Env → Mem → Res Bool := fun e M => (f e M).bind fun b M1 => .ok (!b) M1
theorem dw_and1 (h : DT X W a f) : DW X W (.BoolOp .And [a] pos) f := pw_and1 h
theorem dw_or1 (h : DT X W a f) : DW X W (.BoolOp .Or [a] pos) f := pw_or1 h
theorem dw_and (h : DT X W a f) (k : DW X W (.BoolOp .And (b :: rest) pos) g) : DW X W (.BoolOp .And (a :: b :: rest) pos) (andT f g) :=
  PWweak (pw_and h k) fun σ H Q ⟨w, e, M, r, re, p⟩ =>
    ⟨w, e, M, r, re, p.bind fun x M1 w1 v H1 l1 r1 rv p1 => by
      have rv : x = v := rv
      subst rv
      cases x with
      | true => exact ⟨w1, e, M1, r1, re.up l1, p1⟩
      | false => exact p1.at r1 rfl⟩
theorem dw_or (h : DT X W a f) (k : DW X W (.BoolOp .Or (b :: rest) pos) g) : DW X W (.BoolOp .Or (a :: b :: rest) pos) (orT f g) :=
  PWweak (pw_or h k) fun σ H Q ⟨w, e, M, r, re, p⟩ =>
    ⟨w, e, M, r, re, p.bind fun x M1 w1 v H1 l1 r1 rv p1 => by
      have rv : x = v := rv
      subst rv
      cases x with
      | true => exact p1.at r1 rfl
      | false => exact ⟨w1, e, M1, r1, re.up l1, p1⟩⟩
theorem dt_w (h : DW X W a f) : DT X W a f := PW.pt h
theorem dt_not (h : DT X W a f) : DT X W (.UnaryOp .Not a pos) (notT f) :=
  PTweak (pt_not h) fun σ H Q ⟨w, e, M, r, re, p⟩ =>
    ⟨w, e, M, r, re, p.bind fun x M1 w1 v H1 l1 r1 rv p1 => by
      have rv : x = v := rv
      subst rv
      exact p1.at r1 rfl⟩
/-- .. as values -/
def andE (f g : Ev) : Ev := fun e M => (f e M).bind fun x M1 => (boolOf x M1).bind fun b M2 => if b = true then g e M2 else .ok (.d (.bool false)) M2
def orE (f g : Ev) : Ev := fun e M => (f e M).bind fun x M1 => (boolOf x M1).bind fun b M2 => if b = true then .ok (.d (.bool true)) M2 else g e M2
def notE (f : Ev) : Ev := fun e M => (f e M).bind fun x M1 => (boolOf x M1).bind fun b M2 => .ok (.d (.bool !b)) M2
variable {f1 f2 : Ev}
theorem de_one {op : PySem.BoolOp} (h : DE X W a f1) : DE X W (.BoolOp op [a] pos) f1 := pe_one h
theorem boolOf_is {K : Frag} {w : Wd} {z : Vl} {M M' : Mem} {v : V} {b : Bool} (h : boolOf z M = .ok b M') (rv : RV K w z v) : v = .bl b ∧ M' = M := by
  unfold boolOf at h
  split at h
  · cases rv; cases h; exact ⟨rfl, rfl⟩
  · cases h
theorem de_and (h : DE X W a f1) (k : DE X W (.BoolOp .And (b :: rest) pos) f2) : DE X W (.BoolOp .And (a :: b :: rest) pos) (andE f1 f2) :=
  PEweak (pe_and h k) fun σ H Q ⟨w, e, M, r, re, p⟩ =>
    ⟨w, e, M, r, re, p.bind fun x M1 w1 v H1 l1 r1 rv p1 => by
      cases hb : boolOf x M1 with
      | st => rw [hb] at p1; exact p1.elim
      | er C fs M' => unfold boolOf at hb; split at hb <;> cases hb
      | ok b M2 =>
        obtain ⟨e1, e2⟩ := boolOf_is hb rv
        subst e1 e2
        rw [hb] at p1
        refine ⟨b, rfl, ?_⟩
        cases b with
        | true => exact ⟨w1, e, _, r1, re.up l1, p1⟩
        | false => exact Post.at (show Post X.K (WE W σ) (RV X.K) w1 (.ok (.d (.bool false)) _) Q from p1) r1 (.bl _)⟩
theorem de_or (h : DE X W a f1) (k : DE X W (.BoolOp .Or (b :: rest) pos) f2) : DE X W (.BoolOp .Or (a :: b :: rest) pos) (orE f1 f2) :=
  PEweak (pe_or h k) fun σ H Q ⟨w, e, M, r, re, p⟩ =>
    ⟨w, e, M, r, re, p.bind fun x M1 w1 v H1 l1 r1 rv p1 => by
      cases hb : boolOf x M1 with
      | st => rw [hb] at p1; exact p1.elim
      | er C fs M' => unfold boolOf at hb; split at hb <;> cases hb
      | ok b M2 =>
        obtain ⟨e1, e2⟩ := boolOf_is hb rv
        subst e1 e2
        rw [hb] at p1
        refine ⟨b, rfl, ?_⟩
        cases b with
        | true => exact Post.at (show Post X.K (WE W σ) (RV X.K) w1 (.ok (.d (.bool true)) _) Q from p1) r1 (.bl _)
        | false => exact ⟨w1, e, _, r1, re.up l1, p1⟩⟩
theorem de_not (h : DE X W a f1) : DE X W (.UnaryOp .Not a pos) (notE f1) :=
  PEweak (pe_not h) fun σ H Q ⟨w, e, M, r, re, p⟩ =>
    ⟨w, e, M, r, re, p.bind fun x M1 w1 v H1 l1 r1 rv p1 => by
      cases hb : boolOf x M1 with
      | st => rw [hb] at p1; exact p1.elim
      | er C fs M' => unfold boolOf at hb; split at hb <;> cases hb
      | ok b M2 =>
        obtain ⟨e1, e2⟩ := boolOf_is hb rv
        subst e1 e2
        rw [hb] at p1
        exact ⟨b, rfl, Post.at (show Post X.K (WE W σ) (RV X.K) w1 (.ok (.d (.bool !b)) _) Q from p1) r1 (.bl _)⟩⟩
def ifE (c : Env → Mem → Res Bool) (f g : Ev) : Ev := fun e M => (c e M).bind fun b M1 => if b = true then f e M1 else g e M1
theorem de_if (hc : DT X W c f) (ha : DE X W a f1) (hb : DE X W b f2) : DE X W (.IfExp c a b pos) (ifE f f1 f2) :=
  PEweak (pe_ifExp hc ha hb) fun σ H Q ⟨w, e, M, r, re, p⟩ =>
    ⟨w, e, M, r, re, p.bind fun x M1 w1 v H1 l1 r1 rv p1 => by
      have rv : x = v := rv
      subst rv
      cases x with
      | true => exact ⟨w1, e, M1, r1, re.up l1, p1⟩
      | false => exact ⟨w1, e, M1, r1, re.up l1, p1⟩⟩
def negE (f : Ev) : Ev := fun e M => (f e M).bind fun x M1 => match x with
  | .d (.int i) => .ok (.d (.int (-i))) M1
  | _ => .st
theorem de_neg (h : DE X W a f1) : DE X W (.UnaryOp .USub a pos) (negE f1) :=
  PEweak (pe_un un_neg h) fun σ H Q ⟨w, e, M, r, re, p⟩ =>
    ⟨w, e, M, r, re, p.bind fun x M1 w1 v H1 l1 r1 rv p1 => by
      split at p1
      · cases rv
        exact ⟨_, rfl, p1.at r1 (.int _)⟩
      · exact p1.elim⟩
end
end DL

namespace DL
open PySem PySem.Spec L2
/-! ### new lists -/
/-- a list just made: its items -/
def DF (X : Cx) (W : WX) (e : Expr) (f : Env → Mem → Res (List PyData)) : Prop :=
  PE X e fun σ H Q => tG X.K W (fun w xs vs => DpAll X.K w.F vs xs) f σ H fun vs H1 => ∀ p, H1 p = none → Q (.ref p) (upd H1 p (.lst vs))
/-- kept as data -/
def datE (f : Env → Mem → Res (List PyData)) : Ev := fun e M => (f e M).bind fun xs M1 => .ok (.d (.list xs)) M1
/-- kept under a handle -/
def newE (f : Env → Mem → Res (List PyData)) : Ev := fun e M => (f e M).bind fun xs M1 => .ok (.h M1.length) (M1 ++ [.lst xs])
section
variable {X : Cx} {W : WX} {e a b : Expr} {es : List Expr} {pos : Pos} {f f1 f2 : Ev} {g : Evs}
theorem de_dat {f : Env → Mem → Res (List PyData)} (h : DF X W e f) : DE X W e (datE f) :=
  PEweak h fun σ H Q ⟨w, e, M, r, re, p⟩ =>
    ⟨w, e, M, r, re, p.bind fun xs M1 w1 vs H1 l1 r1 d1 p1 q hq =>
      p1 _ _ _ (Wd.le_fz (r1.new hq).2) (r1.alloc hq _) (Dp.lst upd_same (DpAll.up (Wd.le_fz (w := w1) (o := .lst vs) (r1.new hq).2).2 _ _ d1))⟩
theorem de_new {f : Env → Mem → Res (List PyData)} (h : DF X W e f) : DE X W e (newE f) :=
  PEweak h fun σ H Q ⟨w, e, M, r, re, p⟩ =>
    ⟨w, e, M, r, re, p.bind fun xs M1 w1 vs H1 l1 r1 d1 p1 q hq =>
      p1 _ _ _ Wd.le_add (r1.fresh hq d1) ⟨q, by show (w1.as ++ [q])[M1.length]? = some q; rw [← r1.len, List.getElem?_append_right (Nat.le_refl _)]; simp, rfl⟩⟩
/-- all of them data, so many -/
def asDs (xs : List Vl) (M : Mem) : Res (List PyData) := match datas xs with
  | some ds => if ds.length ≤ sizeLine then .ok ds M else .st
  | none => .st
def dispE (f : Evs) : Env → Mem → Res (List PyData) := fun e M => (f e M).bind asDs
theorem df_lst (h : DA X W es g) : DF X W (.List es pos) (dispE g) :=
  PEweak (pe_lst h) fun σ H Q ⟨w, e, M, r, re, p⟩ =>
    ⟨w, e, M, r, re, p.bind fun xs M1 w1 vs H1 l1 r1 rv p1 => by
      unfold asDs at p1
      split at p1
      · rename_i ds hd
        split at p1
        · rename_i hz
          have d1 := rv.dat hd
          exact ⟨by rw [d1.len]; exact hz, p1.at r1 d1⟩
        · exact p1.elim
      · exact p1.elim⟩
def tupE (f : Evs) : Ev := fun e M => (f e M).bind fun xs M1 => (asDs xs M1).bind fun ds M2 => .ok (.d (.tuple ds)) M2
theorem de_tup {k : Nat} (h : DA X W es g) : DE X W (.Tuple es k pos) (tupE g) :=
  PEweak (pe_tup h) fun σ H Q ⟨w, e, M, r, re, p⟩ =>
    ⟨w, e, M, r, re, p.bind fun xs M1 w1 vs H1 l1 r1 rv p1 => by
      unfold asDs at p1
      split at p1
      · rename_i ds hd
        split at p1
        · rename_i hz
          have d1 := rv.dat hd
          exact ⟨by rw [d1.len]; exact hz, fun q hq =>
            Post.up (RR := RV X.K) (Wd.le_refl _) p1 _ _ _ (Wd.le_fz (r1.new hq).2) (r1.alloc hq _) (Dp.tup (.inl (.inl upd_same)) (DpAll.up (Wd.le_fz (w := w1) (o := .tup vs) (r1.new hq).2).2 _ _ d1))⟩
        · exact p1.elim
      · exact p1.elim⟩
/-- a list that is made by an operation of two lists, a list so many times -/
def catE (f1 f2 : Ev) : Env → Mem → Res (List PyData) := fun e M => (f1 e M).bind fun x M1 => (f2 e M1).bind fun y M2 => match lstOf M2 x, lstOf M2 y with
  | some xs, some ys => if xs.length + ys.length ≤ sizeLine then .ok (xs ++ ys) M2 else .st
  | _, _ => .st
theorem df_cat (ha : DE X W a f1) (hb : DE X W b f2) : DF X W (.BinOp a .Add b pos) (catE f1 f2) :=
  PEweak (pe_op op_cat ha hb) fun σ H Q ⟨w, e, M, r, re, p⟩ =>
    ⟨w, e, M, r, re, p.bind fun x M1 w1 v H1 l1 r1 rv p1 =>
      ⟨w1, e, M1, r1, re.up l1, p1.bind fun y M2 w2 u H2 l2 r2 ru p2 => by
        split at p2
        · rename_i xs ys h1 h2
          split at p2
          · rename_i hz
            obtain ⟨q1, vs, rfl, s1, d1⟩ := lst_at r2 (rv.up l2) h1
            obtain ⟨q2, us, rfl, s2, d2⟩ := lst_at r2 ru h2
            exact ⟨q1, q2, vs, us, rfl, rfl, s1, s2, by rw [d1.len, d2.len]; exact hz, p2.at r2 (DpAll.app d1 d2)⟩
          · exact p2.elim
        · exact p2.elim⟩⟩
def repE (f1 f2 : Ev) : Env → Mem → Res (List PyData) := fun e M => (f1 e M).bind fun x M1 => (f2 e M1).bind fun y M2 => match lstOf M2 x, y with
  | some xs, .d (.int k) => if k < 2 ^ 62 ∧ -(2 ^ 62) < k ∧ xs.length * k.toNat ≤ sizeLine then .ok (List.replicate k.toNat xs).flatten M2 else .st
  | _, _ => .st
theorem df_rep (ha : DE X W a f1) (hb : DE X W b f2) : DF X W (.BinOp a .Mult b pos) (repE f1 f2) :=
  PEweak (pe_op op_rep ha hb) fun σ H Q ⟨w, e, M, r, re, p⟩ =>
    ⟨w, e, M, r, re, p.bind fun x M1 w1 v H1 l1 r1 rv p1 =>
      ⟨w1, e, M1, r1, re.up l1, p1.bind fun y M2 w2 u H2 l2 r2 ru p2 => by
        split at p2
        · rename_i xs k h1
          split at p2
          · rename_i hz
            cases ru
            obtain ⟨q1, vs, rfl, s1, d1⟩ := lst_at r2 (rv.up l2) h1
            exact ⟨q1, k, vs, rfl, rfl, s1, by have := hz.1; have := hz.2.1; omega, by have := hz.1; omega, by rw [d1.len]; exact hz.2.2, p2.at r2 (DpAll.rep d1 _)⟩
          · exact p2.elim
        · exact p2.elim⟩⟩

/-! ### items and slices -/
theorem atI_map {K : Frag} {F : Hp} {vs : List V} {ds : List PyData} {i : Int} {d : PyData} (h : DpAll K F vs ds) (e : atI ds i = some d) : ∃ v, atI vs i = some v ∧ Dp K F v d := by
  unfold atI at e ⊢
  rw [h.len]
  cases q : ixN ds.length i with
  | none => rw [q] at e; cases e
  | some j =>
    rw [q] at e
    exact h.get e
/-- a sequence: a list or a tuple -/
def seqOf (M : Mem) (x : Vl) : Option (List PyData) := match tupOf x with
  | some xs => some xs
  | none => rdOf M x
theorem seq_at {K : Frag} {w : Wd} {M : Mem} {H : Hp} {x : Vl} {v : V} {xs : List PyData} (r : Rel K w M H) (rv : RV K w x v) (h : seqOf M x = some xs) : ∃ p vs, v = .ref p ∧ (SqL K H p vs ∨ SqT K H p vs) ∧ DpAll K w.F vs xs := by
  unfold seqOf at h
  cases q : tupOf x with
  | some ys =>
    rw [q] at h
    obtain rfl : ys = xs := Option.some.inj h
    obtain ⟨p, vs, e, s, d⟩ := tup_at r rv q
    exact ⟨p, vs, e, .inr s, d⟩
  | none =>
    rw [q] at h
    obtain ⟨p, vs, e, s, d⟩ := rd_at r rv h
    exact ⟨p, vs, e, .inl s, d⟩
def ixV (x y : Vl) (M : Mem) : Res Vl := match y with
  | .d (.int i) => match x with
    | .d (.str z) => match atI z.cps.toList i with
      | some c => if z.length ≤ sizeLine then .ok (.d (.str ⟨#[c]⟩)) M else .st
      | none => .st
    | x => match seqOf M x with
      | some xs => match atI xs i with
        | some d => .ok (.d d) M
        | none => .st
      | none => .st
  | _ => .st
theorem de_ix (ha : DE X W a f1) (hb : DE X W b f2) (hs : PlainIx b := by exact fun _ _ => rfl) : DE X W (.Subscript a b pos) (op2 ixV f1 f2) :=
  PEweak (pe_ix ix_seq ha hb hs) fun σ H Q ⟨w, e, M, r, re, p⟩ =>
    ⟨w, e, M, r, re, p.bind fun x M1 w1 v H1 l1 r1 rv p1 =>
      ⟨w1, e, M1, r1, re.up l1, p1.bind fun y M2 w2 u H2 l2 r2 ru p2 => by
        have p2 : Post X.K (WE W σ) (RV X.K) w2 (ixV x y M2) Q := p2.pur
        have rv := rv.up l2
        unfold ixV at p2
        split at p2
        · cases ru
          split at p2
          · cases rv
            split at p2
            · split at p2
              · rename_i hc hz
                exact .inr (.inr ⟨_, _, _, rfl, rfl, hz, hc, p2.at r2 (.str _)⟩)
              · exact p2.elim
            · exact p2.elim
          · split at p2
            · rename_i hq
              split at p2
              · rename_i hd
                obtain ⟨q, vs, rfl, hs | hs, d⟩ := seq_at r2 rv hq
                · obtain ⟨u, h1, h2⟩ := atI_map d hd
                  exact .inl ⟨q, vs, _, u, rfl, rfl, hs, h1, p2.at r2 h2⟩
                · obtain ⟨u, h1, h2⟩ := atI_map d hd
                  exact .inr (.inl ⟨q, vs, _, u, rfl, rfl, hs, h1, p2.at r2 h2⟩)
              · exact p2.elim
            · exact p2.elim
        · exact p2.elim⟩⟩
end
end DL

namespace DL
open PySem PySem.Spec L2
/-! ### calls of what is built in -/
def CallD (X : Cx) (F : Value) (g : List Vl → Mem → Res Vl) : Prop :=
  CallR X F fun vs H Q => ∃ (w : Wd) (M : Mem) (xs : List Vl), Rel X.K w M H ∧ RVs X.K w xs vs ∧ Post X.K (fun _ _ _ => False) (RV X.K) w (g xs M) Q
def callE (g : List Vl → Mem → Res Vl) (f : Evs) : Ev := fun e M => (f e M).bind fun xs M1 => (g xs M1).pur
section
variable {X : Cx} {W : WX} {e : Expr} {es : List Expr} {p pos : Pos} {x : Str} {id T : String} {g : List Vl → Mem → Res Vl} {f : Evs}
theorem de_callB (hc : CallD X (.builtin id) g) (hg : Gl X x) (hm : X.mg x = none) (hv : bootBuiltins x = some (.builtin id)) (ha : DA X W (e :: es) f) (hn : x ≠ "__name__" := by decide) (hdb : (x == ("__debug__" : Str)) = false := by decide)
    (he : starEach (e :: es) X.env = (false, eval e X.env) :: starEach es X.env := by rfl) (hpl : (backTo pos (starEach es X.env)).any (·.1) = false := by rfl) : DE X W (.Call (.Name x p) (e :: es) [] pos) (callE g f) :=
  PEweak (pe_callB hc hg hm hv ha hn hdb he hpl) fun σ H Q ⟨w, e, M, r, re, q⟩ =>
    ⟨w, e, M, r, re, q.bind fun xs M1 w1 vs H1 l1 r1 rv p1 => ⟨w1, M1, xs, r1, rv, p1.pur⟩⟩
theorem de_callTy (hc : CallD X (.type T) g) (hg : Gl X x) (hm : X.mg x = none) (hv : bootBuiltins x = some (.type T)) (ha : DA X W (e :: es) f) (hn : x ≠ "__name__" := by decide) (hdb : (x == ("__debug__" : Str)) = false := by decide)
    (he : starEach (e :: es) X.env = (false, eval e X.env) :: starEach es X.env := by rfl) (hpl : (backTo pos (starEach es X.env)).any (·.1) = false := by rfl) : DE X W (.Call (.Name x p) (e :: es) [] pos) (callE g f) :=
  PEweak (pe_callTy hc hg hm hv ha hn hdb he hpl) fun σ H Q ⟨w, e, M, r, re, q⟩ =>
    ⟨w, e, M, r, re, q.bind fun xs M1 w1 vs H1 l1 r1 rv p1 => ⟨w1, M1, xs, r1, rv, p1.pur⟩⟩
end
def lenV : List Vl → Mem → Res Vl
  | [.d (.str z)], M => if z.length ≤ sizeLine then .ok (.d (.int (z.length : Nat))) M else .st
  | [x], M => match seqOf M x with
    | some xs => .ok (.d (.int (xs.length : Nat))) M
    | none => .st
  | _, _ => .st
def absV : List Vl → Mem → Res Vl
  | [.d (.int i)], M => .ok (.d (.int (if i < 0 then -i else i))) M
  | _, _ => .st
def intV : List Vl → Mem → Res Vl
  | [.d (.int i)], M => .ok (.d (.int i)) M
  | [.d (.bool b)], M => .ok (.d (.int (if b then 1 else 0))) M
  | _, _ => .st
def maxV : List Vl → Mem → Res Vl
  | [.d (.int i), .d (.int j)], M => .ok (.d (.int (if j > i then j else i))) M
  | _, _ => .st
def minV : List Vl → Mem → Res Vl
  | [.d (.int i), .d (.int j)], M => .ok (.d (.int (if j < i then j else i))) M
  | _, _ => .st
def strV : List Vl → Mem → Res Vl
  | [.d (.int i)], M => if i.natAbs.log2 < 1920 then .ok (.d (.str (toString i))) M else .st
  | _, _ => .st
/-- the whole numbers among data, if all are -/
def intsOf : List PyData → Option (List Int)
  | [] => some []
  | .int i :: r => (intsOf r).map (i :: ·)
  | _ :: _ => none
def blsOf : List PyData → Option (List Bool)
  | [] => some []
  | .bool i :: r => (blsOf r).map (i :: ·)
  | _ :: _ => none
theorem intsOf_map : ∀ ns : List Int, intsOf (ns.map PyData.int) = some ns
  | [] => rfl
  | n :: ns => by simp [intsOf, intsOf_map ns]
theorem blsOf_map : ∀ ns : List Bool, blsOf (ns.map PyData.bool) = some ns
  | [] => rfl
  | n :: ns => by simp [blsOf, blsOf_map ns]
theorem ints_at {K : Frag} {F : Hp} : ∀ {vs : List V} {ds : List PyData} {ns : List Int}, DpAll K F vs ds → intsOf ds = some ns → vs = ns.map V.int
  | _, _, _, .nil, h => by cases h; rfl
  | _, .int i :: r, ns, .cons h1 h2, h => by
    cases q : intsOf r with
    | none => simp [intsOf, q] at h
    | some l =>
      simp [intsOf, q] at h
      subst h
      cases h1
      rw [List.map_cons, ints_at h2 q]
  | _, .none :: _, _, .cons _ _, h => by simp [intsOf] at h
  | _, .bool _ :: _, _, .cons _ _, h => by simp [intsOf] at h
  | _, .str _ :: _, _, .cons _ _, h => by simp [intsOf] at h
  | _, .list _ :: _, _, .cons _ _, h => by simp [intsOf] at h
  | _, .tuple _ :: _, _, .cons _ _, h => by simp [intsOf] at h
  | _, .dict _ :: _, _, .cons _ _, h => by simp [intsOf] at h
theorem bls_at {K : Frag} {F : Hp} : ∀ {vs : List V} {ds : List PyData} {ns : List Bool}, DpAll K F vs ds → blsOf ds = some ns → vs = ns.map V.bl
  | _, _, _, .nil, h => by cases h; rfl
  | _, .bool i :: r, ns, .cons h1 h2, h => by
    cases q : blsOf r with
    | none => simp [blsOf, q] at h
    | some l =>
      simp [blsOf, q] at h
      subst h
      cases h1
      rw [List.map_cons, bls_at h2 q]
  | _, .none :: _, _, .cons _ _, h => by simp [blsOf] at h
  | _, .int _ :: _, _, .cons _ _, h => by simp [blsOf] at h
  | _, .str _ :: _, _, .cons _ _, h => by simp [blsOf] at h
  | _, .list _ :: _, _, .cons _ _, h => by simp [blsOf] at h
  | _, .tuple _ :: _, _, .cons _ _, h => by simp [blsOf] at h
  | _, .dict _ :: _, _, .cons _ _, h => by simp [blsOf] at h
/-- sum of a list or a tuple of whole numbers -/
def sumV : List Vl → Mem → Res Vl
  | [x], M => match (rdOf M x).bind intsOf with
    | some ns => .ok (.d (.int ns.sum)) M
    | none => .st
  | _, _ => .st
def allV : List Vl → Mem → Res Vl
  | [x], M => match (rdOf M x).bind blsOf with
    | some bs => .ok (.d (.bool (bs.all id))) M
    | none => .st
  | _, _ => .st
def anyV : List Vl → Mem → Res Vl
  | [x], M => match (rdOf M x).bind blsOf with
    | some bs => .ok (.d (.bool (bs.any id))) M
    | none => .st
  | _, _ => .st
def tupleV : List Vl → Mem → Res Vl
  | [.d (.tuple xs)], M => .ok (.d (.tuple xs)) M
  | [x], M => match rdOf M x with
    | some xs => .ok (.d (.tuple xs)) M
    | none => .st
  | _, _ => .st
section
variable {X : Cx}
theorem rvs1 {K : Frag} {w : Wd} {x : Vl} {vs : List V} (h : RVs K w [x] vs) : ∃ v, vs = [v] ∧ RV K w x v := by
  cases h with
  | cons a b => cases b; exact ⟨_, rfl, a⟩
theorem rvs2 {K : Frag} {w : Wd} {x y : Vl} {vs : List V} (h : RVs K w [x, y] vs) : ∃ v u, vs = [v, u] ∧ RV K w x v ∧ RV K w y u := by
  cases h with
  | cons a b =>
    obtain ⟨u, rfl, r⟩ := rvs1 b
    exact ⟨_, u, rfl, a, r⟩
theorem cd_len : CallD X (.builtin "len") lenV := by
  rintro pins s σ H vs us Q I rv ⟨w, M, xs, r, rx, p⟩
  unfold lenV at p
  split at p
  · split at p
    · rename_i hz
      obtain ⟨v, rfl, hv⟩ := rvs1 rx
      cases hv
      exact call_len_str pins s σ H _ us Q I rv ⟨_, rfl, hz, p.at r (.int _)⟩
    · exact p.elim
  · split at p
    · rename_i hq
      obtain ⟨v, rfl, hv⟩ := rvs1 rx
      obtain ⟨q, ws, rfl, hs, d⟩ := seq_at r hv hq
      refine call_len_seq pins s σ H _ us Q I rv ⟨q, ws, rfl, hs, ?_⟩
      rw [d.len]
      exact p.at r (.int _)
    · exact p.elim
  · exact p.elim
theorem cd_abs : CallD X (.builtin "abs") DL.absV := by
  rintro pins s σ H vs us Q I rv ⟨w, M, xs, r, rx, p⟩
  unfold DL.absV at p
  split at p
  · obtain ⟨v, rfl, hv⟩ := rvs1 rx
    cases hv
    exact call_abs pins s σ H _ us Q I rv ⟨_, rfl, p.at r (.int _)⟩
  · exact p.elim
theorem cd_int : CallD X (.type "int") intV := by
  rintro pins s σ H vs us Q I rv ⟨w, M, xs, r, rx, p⟩
  unfold intV at p
  split at p
  · obtain ⟨v, rfl, hv⟩ := rvs1 rx
    cases hv
    exact call_int1 pins s σ H _ us Q I rv (.inl ⟨_, rfl, p.at r (.int _)⟩)
  · obtain ⟨v, rfl, hv⟩ := rvs1 rx
    cases hv
    exact call_int1 pins s σ H _ us Q I rv (.inr ⟨_, rfl, p.at r (.int _)⟩)
  · exact p.elim
theorem cd_str : CallD X (.type "str") strV := by
  rintro pins s σ H vs us Q I rv ⟨w, M, xs, r, rx, p⟩
  unfold strV at p
  split at p
  · split at p
    · rename_i hz
      obtain ⟨v, rfl, hv⟩ := rvs1 rx
      cases hv
      exact call_str_int pins s σ H _ us Q I rv ⟨_, rfl, hz, p.at r (.str _)⟩
    · exact p.elim
  · exact p.elim
theorem cd_max2 (hc : X.calm = true) : CallD X (.builtin "max") maxV := by
  rintro pins s σ H vs us Q I rv ⟨w, M, xs, r, rx, p⟩
  unfold maxV at p
  split at p
  · obtain ⟨v, u, rfl, hv, hu⟩ := rvs2 rx
    cases hv; cases hu
    exact call_max2 hc pins s σ H _ us Q I rv ⟨_, _, rfl, p.at r (.int _)⟩
  · exact p.elim
theorem cd_min2 (hc : X.calm = true) : CallD X (.builtin "min") minV := by
  rintro pins s σ H vs us Q I rv ⟨w, M, xs, r, rx, p⟩
  unfold minV at p
  split at p
  · obtain ⟨v, u, rfl, hv, hu⟩ := rvs2 rx
    cases hv; cases hu
    exact call_min2 hc pins s σ H _ us Q I rv ⟨_, _, rfl, p.at r (.int _)⟩
  · exact p.elim
theorem cd_sumL (hc : X.calm = true) : CallD X (.builtin "sum") sumV := by
  rintro pins s σ H vs us Q I rv ⟨w, M, xs, r, rx, p⟩
  unfold sumV at p
  split at p
  · split at p
    · rename_i ns hq
      obtain ⟨v, rfl, hv⟩ := rvs1 rx
      obtain ⟨ds, h1, h2⟩ := Option.bind_eq_some_iff.mp hq
      obtain ⟨q, ws, rfl, hs, d⟩ := rd_at r hv h1
      refine cr_sum hc pins s σ H _ us Q I rv ⟨q, ns, rfl, ?_, p.at r (.int _)⟩
      rw [← ints_at d h2]
      exact hs
    · exact p.elim
  · exact p.elim
theorem cd_all (hc : X.calm = true) : CallD X (.builtin "all") allV := by
  rintro pins s σ H vs us Q I rv ⟨w, M, xs, r, rx, p⟩
  unfold allV at p
  split at p
  · split at p
    · rename_i ns hq
      obtain ⟨v, rfl, hv⟩ := rvs1 rx
      obtain ⟨ds, h1, h2⟩ := Option.bind_eq_some_iff.mp hq
      obtain ⟨q, ws, rfl, hs, d⟩ := rd_at r hv h1
      refine cr_all hc pins s σ H _ us Q I rv ⟨q, ns, rfl, ?_, p.at r (.bl _)⟩
      rw [← bls_at d h2]
      exact hs
    · exact p.elim
  · exact p.elim
theorem cd_any (hc : X.calm = true) : CallD X (.builtin "any") anyV := by
  rintro pins s σ H vs us Q I rv ⟨w, M, xs, r, rx, p⟩
  unfold anyV at p
  split at p
  · split at p
    · rename_i ns hq
      obtain ⟨v, rfl, hv⟩ := rvs1 rx
      obtain ⟨ds, h1, h2⟩ := Option.bind_eq_some_iff.mp hq
      obtain ⟨q, ws, rfl, hs, d⟩ := rd_at r hv h1
      refine cr_any hc pins s σ H _ us Q I rv ⟨q, ns, rfl, ?_, p.at r (.bl _)⟩
      rw [← bls_at d h2]
      exact hs
    · exact p.elim
  · exact p.elim
theorem cd_tuple : CallD X (.type "tuple") tupleV := by
  rintro pins s σ H vs us Q I rv ⟨w, M, xs, r, rx, p⟩
  unfold tupleV at p
  split at p
  · obtain ⟨v, rfl, hv⟩ := rvs1 rx
    obtain ⟨q, ws, rfl, hs, d⟩ := tup_at r hv (show tupOf _ = some _ from rfl)
    exact call_tuple_of pins s σ H _ us Q I rv ⟨q, ws, rfl, .inr ⟨hs, p.at r hv⟩⟩
  · split at p
    · rename_i hq
      obtain ⟨v, rfl, hv⟩ := rvs1 rx
      obtain ⟨q, ws, rfl, hs, d⟩ := rd_at r hv hq
      refine call_tuple_of pins s σ H _ us Q I rv ⟨q, ws, rfl, .inl ⟨hs, fun z hz => ?_⟩⟩
      exact p _ _ _ (Wd.le_fz (r.new hz).2) (r.alloc hz _) (Dp.tup (.inl (.inl upd_same)) (DpAll.up (Wd.le_fz (w := w) (o := .tup ws) (r.new hz).2).2 _ _ d))
    · exact p.elim
  · exact p.elim
end
/-! ### isinstance -/
/-- a built-in class's name -/
def tyN (M : Mem) : Vl → Option String
  | .d .none => some "NoneType"
  | .d (.bool _) => some "bool"
  | .d (.int _) => some "int"
  | .d (.str _) => some "str"
  | .d (.tuple _) => some "tuple"
  | x => (rdOf M x).map fun _ => "list"
theorem ty_at {K : Frag} {w : Wd} {M : Mem} {H : Hp} {x : Vl} {v : V} {n : String} (r : Rel K w M H) (rv : RV K w x v) (h : tyN M x = some n) : TyX K H v (.type n) := by
  have lst : ∀ {ys : List PyData}, rdOf M x = some ys → "list" = n → TyX K H v (.type n) := fun {ys} e q => by
    obtain ⟨p, vs, e1, h1, _⟩ := rd_at r rv e
    subst e1 q
    rcases h1 with (h1 | ⟨o, h1⟩) | ⟨o, its, k, h1, h2, _⟩
    · exact .base (.lst h1)
    · exact .base (.frz h1)
    · exact .kList h1 h2
  cases x with
  | d y =>
    cases y with
    | none => cases rv; cases h; exact .base .non
    | bool c => cases rv; cases h; exact .base (.bl _)
    | int i => cases rv; cases h; exact .base (.int _)
    | str z => cases rv; cases h; exact .base (.str _)
    | tuple xs =>
      obtain ⟨p, vs, e1, h1, _⟩ := tup_at r rv (show tupOf _ = some _ from rfl)
      subst e1
      obtain rfl : "tuple" = n := Option.some.inj h
      rcases h1 with (h1 | ⟨o, h1⟩) | ⟨o, its, k, h1, h2, _⟩
      · exact .base (.tup h1)
      · exact .fTuple h1
      · exact .kTuple h1 h2
    | list xs => exact lst rfl (Option.some.inj h)
    | dict _ => cases h
  | h i =>
    have h : (rdOf M (.h i)).map (fun _ => "list") = some n := h
    cases e : rdOf M (.h i) with
    | none => rw [e] at h; cases h
    | some xs => rw [e] at h; exact lst e (Option.some.inj h)
  | s xs => exact lst rfl (Option.some.inj h)
  | a p => cases h
  | t n => cases h
def isiV : List Vl → Mem → Res Vl
  | [x, .t n], M => match (tyN M x).bind fun t => kitB t n with
    | some b => .ok (.d (.bool b)) M
    | none => .st
  | _, _ => .st
section
variable {X : Cx} {W : WX}
theorem cd_isi : CallD X (.builtin "isinstance") isiV := by
  rintro pins s σ H vs us Q I rv ⟨w, M, xs, r, rx, p⟩
  unfold isiV at p
  split at p
  · split at p
    · rename_i b hq
      obtain ⟨v, u, rfl, hv, hu⟩ := rvs2 rx
      have hu : u = .ty _ := hu
      subst hu
      obtain ⟨t, h1, h2⟩ := Option.bind_eq_some_iff.mp hq
      exact call_isi pins s σ H _ us Q I rv ⟨v, _, _, _, b, rfl, .ty _, ty_at r hv h1, kit_ty h2, p.at r (.bl _)⟩
    · exact p.elim
  · exact p.elim
/-- isinstance of one class out of several -/
def isiAny (t : String) : List String → Option Bool
  | [] => some false
  | n :: ns => match kitB t n with
    | some true => some true
    | some false => isiAny t ns
    | none => none
theorem isiAny_kit {K : Frag} {t : String} : ∀ {ns : List String} {b : Bool}, isiAny t ns = some b → PySem.W.kitAny K (.type t) (ns.map Value.type) = some b
  | [], b, h => by cases h; exact kitAny_nil
  | n :: ns, b, h => by
    unfold isiAny at h
    cases q : kitB t n with
    | none => rw [q] at h; cases h
    | some c =>
      rw [q] at h
      cases c with
      | true => cases h; exact kitAny_cons (kit_ty q) (fun z => by cases z) fun _ => rfl
      | false => exact kitAny_cons (kit_ty q) (fun _ => isiAny_kit h) fun z => by cases z
def tysOf : List Vl → Option (List String)
  | [] => some []
  | .t n :: r => (tysOf r).map (n :: ·)
  | _ :: _ => none
theorem tys_at {K : Frag} {w : Wd} : ∀ {xs : List Vl} {vs : List V} {ns : List String}, RVs K w xs vs → tysOf xs = some ns → vs = ns.map V.ty
  | _, _, _, .nil, h => by cases h; rfl
  | .t n :: r, _, ns, .cons h1 h2, h => by
    cases q : tysOf r with
    | none => simp [tysOf, q] at h
    | some l =>
      simp [tysOf, q] at h
      subst h
      rw [List.map_cons, tys_at h2 q, show _ = V.ty n from h1]
  | .d _ :: _, _, _, .cons _ _, h => by simp [tysOf] at h
  | .h _ :: _, _, _, .cons _ _, h => by simp [tysOf] at h
  | .a _ :: _, _, _, .cons _ _, h => by simp [tysOf] at h
  | .s _ :: _, _, _, .cons _ _, h => by simp [tysOf] at h
theorem cls_tys : ∀ ns : List String, Paired ClsV (ns.map V.ty) (ns.map Value.type)
  | [] => .nil
  | n :: ns => .cons (.ty n) (cls_tys ns)
def isiTE (f : Ev) (g : Evs) : Ev := fun e M => (f e M).bind fun x M1 => (g e M1).bind fun ts M2 => match (tysOf ts).bind fun ns => (tyN M2 x).bind fun t => isiAny t ns with
  | some b => if ts.length ≤ 16 then .ok (.d (.bool b)) M2 else .st
  | none => .st
theorem de_isiT {e : Expr} {es : List Expr} {f : Ev} {g : Evs} {k : Nat} {p pos tpos : Pos} (hg : Gl X "isinstance") (hm : X.mg "isinstance" = none) (ha : DE X W e f) (hb : DA X W es g)
    (he : starEach [e, .Tuple es k tpos] X.env = (false, eval e X.env) :: starEach [.Tuple es k tpos] X.env := by rfl) (he2 : starEach [.Tuple es k tpos] X.env = (false, eval (.Tuple es k tpos) X.env) :: starEach [] X.env := by rfl)
    (hpl : (backTo pos (starEach [.Tuple es k tpos] X.env)).any (·.1) = false := by rfl) : DE X W (.Call (.Name "isinstance" p) [e, .Tuple es k tpos] [] pos) (isiTE f g) :=
  PEweak (pe_callB call_isiT hg hm PyProof.Rows.boot_isinstance (pa_cons ha (pa_cons (pe_tup hb) pa_nil he2) he) (by decide) (by decide) he hpl) fun σ H Q ⟨w, e, M, r, re, p⟩ =>
    ⟨w, e, M, r, re, p.bind fun x M1 w1 v H1 l1 r1 rv p1 =>
      ⟨w1, e, M1, r1, re.up l1, p1.bind fun ts M2 w2 vs H2 l2 r2 rvs p2 => by
        have rv := rv.up l2
        split at p2
        · rename_i b hq
          split at p2
          · rename_i hz
            obtain ⟨ns, h1, h2⟩ := Option.bind_eq_some_iff.mp hq
            obtain ⟨t, h3, h4⟩ := Option.bind_eq_some_iff.mp h2
            have e1 := tys_at rvs h1
            refine ⟨by rw [← rvs.len, sizeLine_eq]; omega, fun q hq' => ?_⟩
            have hle : w2.le (w2.fz q (.tup vs)) := Wd.le_fz (r2.new hq').2
            have r3 := r2.alloc hq' (.tup vs)
            refine ⟨v, q, vs, .type t, ns.map Value.type, b, rfl, upd_same, by rw [e1]; exact cls_tys ns, ty_at r3 (rv.up hle) h3, isiAny_kit h4, p2 _ _ _ hle r3 (.bl _)⟩
          · exact p2.elim
        · exact p2.elim⟩⟩
end
end DL

namespace DL
open PySem PySem.Spec L2
section
variable {X : Cx} {W : WX}
/-! ### sum of a tuple -/
open PyProof.Rows in
theorem sum_tup {prog : Program} {w : World} {A : Around} {E : Value → Shared → Prop} {s : Shared} {l : Addr} {its : List Value} {ns : List Int} {Q : Value → Shared → Prop} (hh : A.handled = none) (hl : s.heap.IsTuple l its.toArray) (hi : PyProof.Rows.IntsAre its ns)
    (h : ∀ h' tk t', (∀ b o, s.heap.get? b = some o → h'.get? b = some o) → Q (.int ns.sum t') { s with heap := h', toks := tk }) : wpAny (model prog w) A (call (.builtin "sum") [.ref l]) Q E s := by
  obtain ⟨xs, e⟩ := hi.allInts.items
  have hn : numsOf (intItems xs).toList = ns := by rw [← e]; exact hi.numsOf
  rw [nums_intItems] at hn
  rw [e] at hl
  refine PySem.W.ktm_sumG hh hl fun h' tk t' hk => ?_
  have q := h h' tk t' hk
  rw [preSum_eq, List.take_of_length_le (by simp), hn]
  exact q
def sumTV : List Vl → Mem → Res Vl
  | [.d (.tuple xs)], M => match intsOf xs with
    | some ns => .ok (.d (.int ns.sum)) M
    | none => .st
  | xs, M => sumV xs M
theorem cd_sum (hc : X.calm = true) : CallD X (.builtin "sum") sumTV := by
  rintro pins s σ H vs us Q I rv ⟨w, M, xs, r, rx, p⟩
  unfold sumTV at p
  split at p
  · split at p
    · rename_i ns hq
      obtain ⟨v, rfl, hv⟩ := rvs1 rx
      obtain ⟨q, ws, rfl, hs, d⟩ := tup_at r hv (show tupOf _ = some _ from rfl)
      have e := ints_at d hq
      subst e
      have eu := rv.ref1
      subst eu
      obtain ⟨its, rt, ht, _⟩ := I.tuple hs
      exact sum_tup (I.ok.hd hc) (show s.heap.IsTuple q its.toArray from ht) rt.ints fun h' tk t' k => ⟨.int ns.sum, H, I.kept (t' := tk) k, ⟨t', rfl⟩, p.at r (.int _)⟩
    · exact p.elim
  · exact cd_sumL hc pins s σ H vs us Q I rv ⟨w, M, xs, r, rx, p⟩
/-! ### methods of lists -/
def MtD (X : Cx) (id : String) (g : Nat → List PyData → List Vl → Mem → Res Vl) : Prop :=
  MtR X id fun v us H Q => ∃ (w : Wd) (M : Mem) (i : Nat) (xs : List PyData) (ys : List Vl), Rel X.K w M H ∧ RV X.K w (.h i) v ∧ M[i]? = some (.lst xs) ∧ RVs X.K w ys us ∧ Post X.K (fun _ _ _ => False) (RV X.K) w (g i xs ys M) Q
/-- o.m(e, ..), o a handle -/
def methE (g : Nat → List PyData → List Vl → Mem → Res Vl) (f : Ev) (h : Evs) : Ev := fun e M => (f e M).bind fun x M1 => match x with
  | .h i => match M1[i]? with
    | some (.lst _) => (h e M1).bind fun ys M2 => match M2[i]? with
      | some (.lst xs) => (g i xs ys M2).pur
      | _ => .st
    | _ => .st
  | _ => .st
theorem handle_ty {K : Frag} {w : Wd} {M : Mem} {H : Hp} {i : Nat} {v : V} {xs : List PyData} (r : Rel K w M H) (rv : RV K w (.h i) v) (h : M[i]? = some (.lst xs)) : tyV K "list" v H := by
  obtain ⟨a, e, rfl⟩ := rv
  obtain ⟨_, vs, e2, _⟩ := r.at e h
  exact .inl ⟨rfl, vs, .of e2⟩
variable {o e : Expr} {es : List Expr} {f : Ev} {h : Evs} {g : Nat → List PyData → List Vl → Mem → Res Vl} {name : Str} {apos cpos : Pos} {id : String}
theorem de_m (pa : PlainAttrs "list") (slot : Slot "list" name id) (hty : typeOf (.builtin id) = pure (.type "method_descriptor")) (hm : MtD X id g) (ho : DE X W o f) (ha : DA X W (e :: es) h)
    (hbase : attributeBase o name X.env (eval o X.env) = eval o X.env := by rfl)
    (hfew : ((backTo cpos (starEach (e :: es) X.env)).all (fun x => !x.1) && (backToKw cpos (keywordEach [] X.env)).all (fun x => x.1.isSome)
      && decide ((e :: es).length + ([] : List Keyword).length + (if ([] : List Keyword).isEmpty then 0 else 1) < 30)) = true := by rfl)
    (hline : (apos.endLine == cpos.line) = true := by rfl) (hs : starEach (e :: es) X.env = (false, eval e X.env) :: starEach es X.env := by rfl) (hplain : (backTo cpos (starEach es X.env)).any (·.1) = false := by rfl) :
    DE X W (.Call (.Attribute o name apos) (e :: es) [] cpos) (methE g f h) :=
  PEweak (pe_bm pa slot hty hm ho ha hbase hfew hline hs hplain) fun σ H Q ⟨w, e, M, r, re, p⟩ =>
    ⟨w, e, M, r, re, p.bind fun x M1 w1 v H1 l1 r1 rv p1 => by
      split at p1
      · split at p1
        · rename_i q1
          exact ⟨handle_ty r1 rv q1, w1, e, M1, r1, re.up l1, p1.bind fun ys M2 w2 us H2 l2 r2 rys p2 => by
            split at p2
            · rename_i q2
              exact ⟨w2, M2, _, _, ys, r2, rv.up l2, q2, rys, p2.pur⟩
            · exact p2.elim⟩
        · exact p1.elim
      · exact p1.elim⟩
def meth0E (g : Nat → List PyData → List Vl → Mem → Res Vl) (f : Ev) : Ev := fun e M => (f e M).bind fun x M1 => match x with
  | .h i => match M1[i]? with
    | some (.lst xs) => (g i xs [] M1).pur
    | _ => .st
  | _ => .st
theorem de_m0 (pa : PlainAttrs "list") (slot : Slot "list" name id) (hty : typeOf (.builtin id) = pure (.type "method_descriptor")) (hm : MtD X id g) (ho : DE X W o f)
    (hbase : attributeBase o name X.env (eval o X.env) = eval o X.env := by rfl) (hline : (apos.endLine == cpos.line) = true := by rfl) :
    DE X W (.Call (.Attribute o name apos) [] [] cpos) (meth0E g f) :=
  PEweak (pe_bm0 pa slot hty hm ho hbase hline) fun σ H Q ⟨w, e, M, r, re, p⟩ =>
    ⟨w, e, M, r, re, p.bind fun x M1 w1 v H1 l1 r1 rv p1 => by
      split at p1
      · split at p1
        · rename_i q1
          exact ⟨handle_ty r1 rv q1, w1, M1, _, _, [], r1, rv, q1, .nil, p1.pur⟩
        · exact p1.elim
      · exact p1.elim⟩
def appM (i : Nat) (xs : List PyData) (ys : List Vl) (M : Mem) : Res Vl := match ys with
  | [.d y] => if xs.length < sizeLine then .ok (.d .none) (M.set i (.lst (xs ++ [y]))) else .st
  | _ => .st
theorem md_append : MtD X "list.append" appM := by
  rintro pins s σ H x us v ws Q I rx rv ⟨w, M, i, xs, ys, r, rh, hm, rys, p⟩
  unfold appM at p
  split at p
  · split at p
    · rename_i hz
      obtain ⟨u, rfl, hu⟩ := rvs1 rys
      obtain ⟨a, ea, rfl⟩ := rh
      obtain ⟨hF, vs, e2, d⟩ := r.at ea hm
      exact mt_append pins s σ H _ _ v ws Q I rx rv ⟨a, vs, u, rfl, rfl, e2, by rw [d.len]; exact hz, p _ _ _ (Wd.le_refl w) (r.write ea hF (d.app (.cons hu .nil))) .non⟩
    · exact p.elim
  · exact p.elim
def popM (i : Nat) (xs : List PyData) (ys : List Vl) (M : Mem) : Res Vl := match ys with
  | [] => match xs[xs.length - 1]? with
    | some y => .ok (.d y) (M.set i (.lst xs.dropLast))
    | none => .st
  | [.d (.int j)] => match ixN xs.length j with
    | some k => if -(2 ^ 63) ≤ j ∧ j < 2 ^ 63 then match xs[k]? with
      | some y => .ok (.d y) (M.set i (.lst (xs.eraseIdx k)))
      | none => .st
      else .st
    | none => .st
  | _ => .st
theorem DpAll.dropLast {K : Frag} {F : Hp} {vs : List V} {ds : List PyData} (h : DpAll K F vs ds) : DpAll K F vs.dropLast ds.dropLast := by
  rw [List.dropLast_eq_take, List.dropLast_eq_take, h.len]
  exact h.take _
theorem md_pop : MtD X "list.pop" popM := by
  rintro pins s σ H x us v ws Q I rx rv ⟨w, M, i, xs, ys, r, rh, hm, rys, p⟩
  unfold popM at p
  split at p
  · split at p
    · rename_i y hy
      cases rys
      obtain ⟨a, ea, rfl⟩ := rh
      obtain ⟨hF, vs, e2, d⟩ := r.at ea hm
      obtain ⟨u, h1, h2⟩ := d.get hy
      exact mt_pop pins s σ H _ _ v ws Q I rx rv ⟨a, vs, u, rfl, rfl, e2, by rw [d.len]; exact h1, p _ _ _ (Wd.le_refl w) (r.write ea hF d.dropLast) h2⟩
    · exact p.elim
  · split at p
    · rename_i k hk
      split at p
      · rename_i hb
        split at p
        · rename_i y hy
          obtain ⟨u, rfl, hu⟩ := rvs1 rys
          cases hu
          obtain ⟨a, ea, rfl⟩ := rh
          obtain ⟨hF, vs, e2, d⟩ := r.at ea hm
          obtain ⟨u, h1, h2⟩ := d.get hy
          refine mt_popAt pins s σ H _ _ v ws Q I rx rv ⟨a, vs, _, k, u, rfl, rfl, e2, hb.1, hb.2, ?_, h1, p _ _ _ (Wd.le_refl w) (r.write ea hF (d.erase k)) h2⟩
          rw [d.len]
          exact (ixN_seq hk).1
        · exact p.elim
      · exact p.elim
    · exact p.elim
  · exact p.elim
def revM (i : Nat) (xs : List PyData) (ys : List Vl) (M : Mem) : Res Vl := match ys with
  | [] => .ok (.d .none) (M.set i (.lst xs.reverse))
  | _ => .st
theorem md_reverse : MtD X "list.reverse" revM := by
  rintro pins s σ H x us v ws Q I rx rv ⟨w, M, i, xs, ys, r, rh, hm, rys, p⟩
  unfold revM at p
  split at p
  · cases rys
    obtain ⟨a, ea, rfl⟩ := rh
    obtain ⟨hF, vs, e2, d⟩ := r.at ea hm
    exact mt_reverse pins s σ H _ _ v ws Q I rx rv ⟨a, vs, rfl, rfl, e2, p _ _ _ (Wd.le_refl w) (r.write ea hF d.rev) .non⟩
  · exact p.elim
/-! ### slices -/
def cutD (xs : List PyData) (lo hi : Option Int) : List PyData := (xs.drop (HT.sIx xs.length 0 lo)).take (HT.sIx xs.length xs.length hi - HT.sIx xs.length 0 lo)
theorem cut_at {K : Frag} {F : Hp} {vs : List V} {ds : List PyData} (h : DpAll K F vs ds) (lo hi : Option Int) : DpAll K F (cutV vs lo hi) (cutD ds lo hi) := by
  unfold cutV cutD
  rw [h.len]
  exact (h.drop _).take _
abbrev Eo := Env → Mem → Res (Option Int)
def noP : Eo := fun _ M => .ok none M
def someP (f : Ev) : Eo := fun e M => (f e M).bind fun x M1 => match x with
  | .d (.int i) => .ok (some i) M1
  | _ => .st
def DO (X : Cx) (W : WX) (e : Option Expr) (f : Eo) : Prop := PO X e (tG X.K W (fun _ a b => a = b) f)
theorem POweak {e : Option Expr} {t t' : TO} (h : PO X e t) (k : ∀ σ H Q, t' σ H Q → t σ H Q) : PO X e t' := ⟨fun pins s σ H Q I q => h.run pins s σ H Q I (k σ H Q q)⟩
theorem do_none : DO X W none noP := POweak po_none fun σ H Q ⟨w, e, M, r, re, p⟩ => p.at r rfl
theorem do_some {e : Expr} {f : Ev} (h : DE X W e f) : DO X W (some e) (someP f) := POweak (po_some h) fun σ H Q ⟨w, e, M, r, re, p⟩ =>
  ⟨w, e, M, r, re, p.bind fun x M1 w1 v H1 l1 r1 rv p1 => by
    split at p1
    · cases rv
      exact ⟨_, rfl, p1.at r1 rfl⟩
    · exact p1.elim⟩
/-- a slice of a list, of a text, of a tuple (not the whole of it) -/
def slV (x : Vl) (lo hi : Option Int) (M : Mem) : Res Vl := match x with
  | .d (.str z) => if z.length ≤ sizeLine then .ok (.d (.str (cutS z lo hi))) M else .st
  | .d (.tuple xs) => if HT.sIx xs.length 0 lo = 0 ∧ HT.sIx xs.length xs.length hi = xs.length then .st else .ok (.d (.tuple (cutD xs lo hi))) M
  | x => match rdOf M x with
    | some xs => .ok (.d (.list (cutD xs lo hi))) M
    | none => .st
def slE (f : Ev) (a b : Eo) : Ev := fun e M => (f e M).bind fun x M1 => (a e M1).bind fun lo M2 => (b e M2).bind fun hi M3 => (slV x lo hi M3).pur
theorem de_slice {a : Expr} {lo hi : Option Expr} {l u : Eo} {p2 pos : Pos} (ha : DE X W a f) (hl : DO X W lo l) (hu : DO X W hi u) : DE X W (.Subscript a (.Slice lo hi none p2) pos) (slE f l u) :=
  PEweak (pe_slice (sl_list.or (sl_tup.or sl_str)) ha hl hu) fun σ H Q ⟨w, e, M, r, re, p⟩ =>
    ⟨w, e, M, r, re, p.bind fun x M1 w1 v H1 l1 r1 rv p1 =>
      ⟨w1, e, M1, r1, re.up l1, p1.bind fun lo M2 w2 lo' H2 l2 r2 elo p2 =>
        ⟨w2, e, M2, r2, (re.up l1).up l2, p2.bind fun hi M3 w3 hi' H3 l3 r3 ehi p3 => by
          have elo : lo = lo' := elo
          have ehi : hi = hi' := ehi
          subst elo ehi
          have rv := (rv.up l2).up l3
          have p3 : Post X.K (WE W σ) (RV X.K) w3 (slV x lo hi M3) Q := p3.pur
          unfold slV at p3
          split at p3
          · split at p3
            · rename_i hz
              cases rv
              exact .inr (.inr ⟨_, rfl, hz, p3.at r3 (.str _)⟩)
            · exact p3.elim
          · split at p3
            · exact p3.elim
            · rename_i hz
              obtain ⟨q, ws, rfl, hs, d⟩ := tup_at r3 rv (show tupOf _ = some _ from rfl)
              refine .inr (.inl ⟨q, ws, rfl, hs, by rw [d.len]; exact hz, fun z hz' => ?_⟩)
              exact p3 _ _ _ (Wd.le_fz (r3.new hz').2) (r3.alloc hz' _) (Dp.tup (.inl (.inl upd_same)) (DpAll.up (Wd.le_fz (w := w3) (o := .tup (cutV ws lo hi)) (r3.new hz').2).2 _ _ (cut_at d lo hi)))
          · split at p3
            · rename_i hq
              obtain ⟨q, ws, rfl, hs, d⟩ := rd_at r3 rv hq
              refine .inl ⟨q, ws, rfl, hs, fun z hz' => ?_⟩
              exact p3 _ _ _ (Wd.le_fz (r3.new hz').2) (r3.alloc hz' _) (Dp.lst upd_same (DpAll.up (Wd.le_fz (w := w3) (o := .lst (cutV ws lo hi)) (r3.new hz').2).2 _ _ (cut_at d lo hi)))
            · exact p3.elim⟩⟩⟩
/-- list(x) -/
def listE (f : Ev) : Env → Mem → Res (List PyData) := fun e M => (f e M).bind fun x M1 => match seqOf M1 x with
  | some xs => .ok xs M1
  | none => .st
theorem df_list {e : Expr} {f : Ev} {p pos : Pos} (hg : Gl X "list") (hm : X.mg "list" = none) (ha : DE X W e f) (he : starEach [e] X.env = (false, eval e X.env) :: starEach [] X.env := by rfl)
    (hpl : (backTo pos (starEach [] X.env)).any (·.1) = false := by rfl) (hv : bootBuiltins "list" = some (.type "list") := by decide +kernel) : DF X W (.Call (.Name "list" p) [e] [] pos) (listE f) :=
  PEweak (pe_callTy call_list_of hg hm hv (pa_cons ha pa_nil he) (by decide) (by decide) he hpl) fun σ H Q ⟨w, e, M, r, re, p⟩ =>
    ⟨w, e, M, r, re, p.bind fun x M1 w1 v H1 l1 r1 rv p1 => by
      split at p1
      · rename_i xs hq
        obtain ⟨q, ws, rfl, hs, d⟩ := seq_at r1 rv hq
        exact ⟨q, ws, rfl, hs, p1.at r1 d⟩
      · exact p1.elim⟩
/-- list(range(..)) -/
def rangeD (a b : Int) : List PyData := (List.range (b - a).toNat).map fun (i : Nat) => .int (a + (i : Nat))
theorem range_at {K : Frag} {F : Hp} (a b : Int) : DpAll K F (rgV a b) (rangeD a b) := by
  unfold rgV rangeD
  generalize List.range (b - a).toNat = l
  induction l with
  | nil => exact .nil
  | cons x l ih => exact .cons (.int _) ih
/-- the ends of a range, as they may be -/
def rgOk (a b : Int) : Bool := decide (-(2 ^ 62) ≤ a ∧ a < 2 ^ 62 ∧ -(2 ^ 62) ≤ b ∧ b < 2 ^ 62 ∧ (b - a).toNat ≤ 2 ^ 24)
theorem rgOk_of {a b : Int} (h : rgOk a b = true) : RgOk a b := by
  unfold rgOk at h
  unfold RgOk
  exact of_decide_eq_true h
def rgE1 (f : Ev) : Env → Mem → Res (List PyData) := fun e M => (f e M).bind fun x M1 => match x with
  | .d (.int i) => if rgOk 0 i = true then .ok (rangeD 0 i) M1 else .st
  | _ => .st
def rgE2 (f g : Ev) : Env → Mem → Res (List PyData) := fun e M => (f e M).bind fun x M1 => (g e M1).bind fun y M2 => match x, y with
  | .d (.int i), .d (.int j) => if rgOk i j = true then .ok (rangeD i j) M2 else .st
  | _, _ => .st
theorem df_range1 {a : Expr} {f : Ev} {p pos p2 pos2 : Pos} (hc : X.calm = true) (hg : Gl X "list") (hm : X.mg "list" = none) (hg2 : Gl X "range") (hm2 : X.mg "range" = none) (ha : DE X W a f) (na : starEach [a] X.env = (false, eval a X.env) :: starEach [] X.env := by rfl)
    (n2 : starEach [.Call (.Name "range" p2) [a] [] pos2] X.env = (false, eval (.Call (.Name "range" p2) [a] [] pos2) X.env) :: starEach [] X.env := by rfl) : DF X W (.Call (.Name "list" p) [.Call (.Name "range" p2) [a] [] pos2] [] pos) (rgE1 f) :=
  PEweak (pe_listRg hc hg hm (prg_1 hg2 hm2 ha na) n2) fun σ H Q ⟨w, e, M, r, re, p⟩ =>
    ⟨w, e, M, r, re, p.bind fun x M1 w1 v H1 l1 r1 rv p1 => by
      split at p1
      · split at p1
        · rename_i hz
          cases rv
          exact ⟨_, rfl, rgOk_of hz, p1.at r1 (range_at _ _)⟩
        · exact p1.elim
      · exact p1.elim⟩
theorem df_range2 {a b : Expr} {f g : Ev} {p pos p2 pos2 : Pos} (hc : X.calm = true) (hg : Gl X "list") (hm : X.mg "list" = none) (hg2 : Gl X "range") (hm2 : X.mg "range" = none) (ha : DE X W a f) (hb : DE X W b g) (na : starEach [a, b] X.env = (false, eval a X.env) :: starEach [b] X.env := by rfl)
    (nb : starEach [b] X.env = (false, eval b X.env) :: starEach [] X.env := by rfl) (hp : (backTo pos2 (starEach [b] X.env)).any (·.1) = false := by rfl)
    (n2 : starEach [.Call (.Name "range" p2) [a, b] [] pos2] X.env = (false, eval (.Call (.Name "range" p2) [a, b] [] pos2) X.env) :: starEach [] X.env := by rfl) : DF X W (.Call (.Name "list" p) [.Call (.Name "range" p2) [a, b] [] pos2] [] pos) (rgE2 f g) :=
  PEweak (pe_listRg hc hg hm (prg_2 hg2 hm2 ha hb na nb hp) n2) fun σ H Q ⟨w, e, M, r, re, p⟩ =>
    ⟨w, e, M, r, re, p.bind fun x M1 w1 v H1 l1 r1 rv p1 =>
      ⟨w1, e, M1, r1, re.up l1, p1.bind fun y M2 w2 u H2 l2 r2 ru p2 => by
        split at p2
        · split at p2
          · rename_i hz
            have rv := rv.up l2
            cases rv
            cases ru
            exact ⟨_, _, rfl, rfl, rgOk_of hz, p2.at r2 (range_at _ _)⟩
          · exact p2.elim
        · exact p2.elim⟩⟩
/-- tuple(range(..)) -/
theorem de_tupRange1 {a : Expr} {f : Ev} {p pos p2 pos2 : Pos} (hc : X.calm = true) (hg : Gl X "tuple") (hm : X.mg "tuple" = none) (hg2 : Gl X "range") (hm2 : X.mg "range" = none) (ha : DE X W a f) (na : starEach [a] X.env = (false, eval a X.env) :: starEach [] X.env := by rfl)
    (n2 : starEach [.Call (.Name "range" p2) [a] [] pos2] X.env = (false, eval (.Call (.Name "range" p2) [a] [] pos2) X.env) :: starEach [] X.env := by rfl) : DE X W (.Call (.Name "tuple" p) [.Call (.Name "range" p2) [a] [] pos2] [] pos) (fun e M => (rgE1 f e M).bind fun xs M1 => .ok (.d (.tuple xs)) M1) :=
  PEweak (pe_tupRg hc hg hm (prg_1 hg2 hm2 ha na) n2) fun σ H Q ⟨w, e, M, r, re, p⟩ => by
    have p : Post X.K (WE W σ) (RV X.K) w ((rgE1 f e M).bind fun xs M1 => .ok (.d (.tuple xs)) M1) Q := p
    unfold rgE1 at p
    rw [Res.bind_assoc] at p
    exact ⟨w, e, M, r, re, p.bind fun x M1 w1 v H1 l1 r1 rv p1 => by
      split at p1
      · split at p1
        · rename_i hz
          cases rv
          exact ⟨_, rfl, rgOk_of hz, fun q hq => p1 _ _ _ (Wd.le_fz (r1.new hq).2) (r1.alloc hq _) (Dp.tup (.inl (.inl upd_same)) (range_at _ _))⟩
        · exact p1.elim
      · exact p1.elim⟩
end
end DL

namespace DL
open PySem PySem.Spec L2
/-! ### statements -/
inductive Fl where
  | nx | rt (v : Vl) | bk | ct
inductive RS where
  | go (f : Fl) (e : Env) (M : Mem)
  | er (C : Addr) (fs : List (Str × PyData)) (e : Env) (M : Mem)
  | st
abbrev Sv := Env → Mem → RS
def PostS (K : Frag) (W : WX) (w : Wd) (r : RS) (D : Ends) : Prop :=
  match r with
  | .go .nx e M => ∀ w' σ' H', w.le w' → Rel K w' M H' → RE K w' e σ' → D.nx σ' H'
  | .go .bk e M => ∀ w' σ' H', w.le w' → Rel K w' M H' → RE K w' e σ' → D.bk σ' H'
  | .go .ct e M => ∀ w' σ' H', w.le w' → Rel K w' M H' → RE K w' e σ' → D.ct σ' H'
  | .go (.rt x) _ M => ∀ w' v H', w.le w' → Rel K w' M H' → RV K w' x v → D.rt v H'
  | .er C fs e M => ∀ w' σ' d H', w.le w' → Rel K w' M H' → RE K w' e σ' → XD K w' H' d fs → W (.ref C) d σ' H'
  | .st => False
def tS (K : Frag) (W : WX) (g : Sv) : TS := fun D σ H => ∃ w e M, Rel K w M H ∧ RE K w e σ ∧ PostS K W w (g e M) D
def DS (X : Cx) (W : WX) (s : Stmt) (g : Sv) : Prop := PS X s (tS X.K W g)
def DSs (X : Cx) (W : WX) (s : List Stmt) (g : Sv) : Prop := PSs X s (tS X.K W g)
theorem PostS.up {K : Frag} {W : WX} {w w' : Wd} {r : RS} {D : Ends} (l : w.le w') (p : PostS K W w r D) : PostS K W w' r D := by
  cases r with
  | go f e M =>
    cases f with
    | nx => exact fun w2 σ H l2 => p w2 σ H (l.trans l2)
    | bk => exact fun w2 σ H l2 => p w2 σ H (l.trans l2)
    | ct => exact fun w2 σ H l2 => p w2 σ H (l.trans l2)
    | rt x => exact fun w2 σ H l2 => p w2 σ H (l.trans l2)
  | er C fs e M => exact fun w2 σ d H l2 => p w2 σ d H (l.trans l2)
  | st => exact p
/-- an expression within a statement -/
def lift {α : Type} (f : Env → Mem → Res α) (k : α → Env → Mem → RS) : Sv := fun e M => match f e M with
  | .ok x M1 => k x e M1
  | .er C fs M1 => .er C fs e M1
  | .st => .st
section
variable {X : Cx} {W : WX}
theorem PostS.of {α β : Type} {K : Frag} {RR : Wd → α → β → Prop} {w : Wd} {f : Env → Mem → Res α} {k : α → Env → Mem → RS} {e : Env} {M : Mem} {D : Ends} {σ : L2.St} {R : β → Hp → Prop} (p : PostS K W w (lift f k e M) D) (re : RE K w e σ)
    (h : ∀ x M' w' v H', w.le w' → Rel K w' M' H' → RR w' x v → PostS K W w' (k x e M') D → R v H') : Post K (WE W σ) RR w (f e M) R := by
  unfold lift at p
  cases q : f e M with
  | ok x M1 => rw [q] at p; exact fun w' v H' l a b => h x M1 w' v H' l a b (PostS.up l p)
  | er C fs M1 => rw [q] at p; exact fun w' d H' l a b => p w' σ d H' l a (re.up l) b
  | st => rw [q] at p; exact p
theorem PostS.nx {K : Frag} {w : Wd} {e : Env} {M : Mem} {D : Ends} {σ : L2.St} {H : Hp} (p : PostS K W w (.go .nx e M) D) (r : Rel K w M H) (re : RE K w e σ) : D.nx σ H := p w σ H (Wd.le_refl w) r re
theorem PostS.rt {K : Frag} {w : Wd} {e : Env} {M : Mem} {D : Ends} {x : Vl} {v : V} {H : Hp} (p : PostS K W w (.go (.rt x) e M) D) (r : Rel K w M H) (rv : RV K w x v) : D.rt v H := p w v H (Wd.le_refl w) r rv

def nopS : Sv := fun e M => .go .nx e M
def seqS (g h : Sv) : Sv := fun e M => match g e M with
  | .go .nx e1 M1 => h e1 M1
  | r => r
variable {st : Stmt} {rest : List Stmt} {g h : Sv} {e c : Expr} {f : Ev} {t : Env → Mem → Res Bool} {pos : Pos}
theorem dss_nil : DSs X W [] nopS := PSsweak pss_nil fun D σ H ⟨w, e, M, r, re, p⟩ => p.nx r re
theorem dss_cons (h1 : DS X W st g) (h2 : DSs X W rest h) : DSs X W (st :: rest) (seqS g h) :=
  PSsweak (pss_cons h1 h2) fun D σ H ⟨w, e, M, r, re, p⟩ => ⟨w, e, M, r, re, by
    unfold seqS at p
    cases q : g e M with
    | go f e1 M1 =>
      rw [q] at p
      cases f with
      | nx => exact fun w' σ' H' l a b => ⟨w', e1, M1, a, b, PostS.up l p⟩
      | rt x => exact p
      | bk => exact p
      | ct => exact p
    | er C fs e1 M1 => rw [q] at p; exact p
    | st => rw [q] at p; exact p⟩
theorem dss_one (h1 : DS X W st g) : DSs X W [st] g := pss_one h1
theorem ds_pass : DS X W (.Pass pos) nopS := PSweak ps_pass fun D σ H ⟨w, e, M, r, re, p⟩ => p.nx r re
theorem ds_break : DS X W (.Break pos) (fun e M => .go .bk e M) := PSweak ps_break fun D σ H ⟨w, e, M, r, re, p⟩ => p w σ H (Wd.le_refl w) r re
theorem ds_continue : DS X W (.Continue pos) (fun e M => .go .ct e M) := PSweak ps_continue fun D σ H ⟨w, e, M, r, re, p⟩ => p w σ H (Wd.le_refl w) r re
theorem ds_doc {x j pos pos'} : DS X W (.Expr (.Constant (.str x) j pos) pos') nopS := PSweak ps_doc fun D σ H ⟨w, e, M, r, re, p⟩ => p.nx r re
def dropS (f : Ev) : Sv := lift f fun _ e M => .go .nx e M
theorem ds_expr (he : DE X W e f) (hs : swapsWith e none pos.line X.env = pure false := by rfl) : DS X W (.Expr e pos) (dropS f) :=
  PSweak (ps_expr he hs) fun D σ H ⟨w, e, M, r, re, p⟩ => ⟨w, e, M, r, re, p.of re fun x M1 w1 v H1 l1 r1 rv p1 => p1.nx r1 (re.up l1)⟩
def retS (f : Ev) : Sv := lift f fun x e M => .go (.rt x) e M
theorem ds_ret (he : DE X W e f) : DS X W (.Return (some e) pos) (retS f) :=
  PSweak (ps_ret he) fun D σ H ⟨w, e, M, r, re, p⟩ => ⟨w, e, M, r, re, p.of re fun x M1 w1 v H1 l1 r1 rv p1 => p1.rt r1 rv⟩
theorem ds_retN : DS X W (.Return none pos) (fun e M => .go (.rt (.d .none)) e M) := PSweak ps_retN fun D σ H ⟨w, e, M, r, re, p⟩ => p.rt r .non
def ifS (t : Env → Mem → Res Bool) (g h : Sv) : Sv := lift t fun b e M => if b = true then g e M else h e M
theorem ds_if {a b : List Stmt} (hc : DT X W c t) (ha : DSs X W a g) (hb : DSs X W b h) : DS X W (.If c a b pos) (ifS t g h) :=
  PSweak (ps_if hc ha hb) fun D σ H ⟨w, e, M, r, re, p⟩ => ⟨w, e, M, r, re, p.of re fun x M1 w1 v H1 l1 r1 rv p1 => by
    have rv : x = v := rv
    subst rv
    cases x with
    | true => exact ⟨w1, e, M1, r1, re.up l1, p1⟩
    | false => exact ⟨w1, e, M1, r1, re.up l1, p1⟩⟩
def setS (i : Nat) (f : Ev) : Sv := lift f fun x e M => .go .nx (e.set i (some x)) M
theorem ds_set {i : Nat} {x : Str} {pos' : Pos} (hN : X.N.Nodup) (hi : X.N[i]? = some x) (hx : Loc X.env.scope x) (he : DE X W e f) (hs : swapsWith e (some (.Name x pos')) pos.line X.env = pure false := by rfl)
    (hf : X.fn x = true ∨ X.env.scope.names.lookup x = some .local := by first | exact .inl rfl | exact .inr rfl | assumption) : DS X W (.Assign [.Name x pos'] e pos) (setS i f) :=
  PSweak (ps_set hN hi hx he hs hf) fun D σ H ⟨w, e, M, r, re, p⟩ => ⟨w, e, M, r, re, p.of re fun x M1 w1 v H1 l1 r1 rv p1 => p1.nx r1 ((re.up l1).set rv i)⟩
/-- a ghost step ahead of a block: a handle at slot i is frozen -/
def freeze (i : Nat) : Sv := fun e M => match e[i]? with
  | some (some (.h j)) => match M[j]? with
    | some (.lst xs) => .go .nx (e.set i (some (.d (.list xs)))) (M.set j .gone)
    | _ => .st
  | _ => .st
theorem RE.put {K : Frag} {w : Wd} {e : Env} {σ : L2.St} (h : RE K w e σ) {x : Vl} {v : V} {i : Nat} (r : RV K w x v) (hv : σ[i]? = some (some v)) : RE K w (e.set i (some x)) σ :=
  ⟨by simp [h.len], fun j y q => by
    by_cases hj : i = j
    · subst hj
      by_cases hi : i < e.length
      · rw [List.getElem?_set_self hi] at q
        cases q
        exact ⟨v, hv, r⟩
      · rw [List.getElem?_eq_none (by simpa using hi)] at q
        cases q
    · rw [List.getElem?_set_ne hj] at q
      exact h.get j y q⟩
theorem freeze_nx {i : Nat} {e : Env} {M : Mem} : freeze i e M = .st ∨ ∃ j xs, e[i]? = some (some (.h j)) ∧ M[j]? = some (.lst xs) ∧ freeze i e M = .go .nx (e.set i (some (.d (.list xs)))) (M.set j .gone) := by
  unfold freeze
  split
  · rename_i j hj
    split
    · rename_i xs hm
      exact .inr ⟨j, xs, hj, hm, rfl⟩
    · exact .inl rfl
  · exact .inl rfl
theorem dss_freeze {sts : List Stmt} (i : Nat) (h2 : DSs X W sts h) : DSs X W sts (seqS (freeze i) h) :=
  PSsweak h2 fun D σ H ⟨w, e, M, r, re, p⟩ => by
    unfold seqS at p
    rcases freeze_nx (i := i) (e := e) (M := M) with q | ⟨j, xs, hj, hm, q⟩
    · rw [q] at p; exact p.elim
    · rw [q] at p
      obtain ⟨v, hv, a, ea, ev⟩ := re.get i _ hj
      subst ev
      obtain ⟨hF, vs, e2, d⟩ := r.at ea hm
      have hle : w.le (w.fz a (.lst vs)) := Wd.le_fz hF
      exact ⟨w.fz a (.lst vs), _, _, r.freeze (xs := xs) ea hF e2, (re.up hle).put (x := .d (.list xs)) (Dp.lst upd_same (DpAll.up hle.2 _ _ d)) hv, PostS.up hle p⟩
end
end DL

namespace DL
open PySem PySem.Spec L2
/-! ### targets -/
abbrev Tg := Vl → Env → Mem → Res Env
abbrev Tgs := List PyData → Env → Mem → Res Env
abbrev W0 : WX := fun _ _ _ _ => False
def tTg (K : Frag) (γ : Tg) : TG := fun v σ H Q => ∃ (w : Wd) (e : Env) (M : Mem) (x : Vl), Rel K w M H ∧ RE K w e σ ∧ RV K w x v ∧ Post K (fun _ _ _ => False) (RE K) w (γ x e M) Q
def GD (X : Cx) (tg : Expr) (γ : Tg) : Prop := PG X tg (tTg X.K γ)
def GDs (X : Cx) (tgs : List Expr) (γ : Tgs) : Prop := PGs X tgs fun vs σ H Q => ∃ (w : Wd) (e : Env) (M : Mem) (xs : List PyData), Rel X.K w M H ∧ RE X.K w e σ ∧ DpAll X.K w.F vs xs ∧ Post X.K (fun _ _ _ => False) (RE X.K) w (γ xs e M) Q
def setT (i : Nat) : Tg := fun x e M => .ok (e.set i (some x)) M
def nilT : Tgs := fun xs e M => match xs with
  | [] => .ok e M
  | _ => .st
def consT (γ : Tg) (δ : Tgs) : Tgs := fun xs e M => match xs with
  | x :: r => (γ (.d x) e M).bind fun e1 M1 => δ r e1 M1
  | [] => .st
def tupT (n : Nat) (δ : Tgs) : Tg := fun x e M => match tupOf x with
  | some xs => if xs.length = n then δ xs e M else .st
  | none => .st
section
variable {X : Cx} {W : WX} {pos : Pos}
theorem PGweak {tg : Expr} {t t' : TG} (h : PG X tg t) (k : ∀ v σ H Q, t' v σ H Q → t v σ H Q) : PG X tg t' := ⟨fun pins s σ H v u Q I r q => h.run pins s σ H v u Q I r (k v σ H Q q)⟩
theorem PGsweak {tg : List Expr} {t t' : TGs} (h : PGs X tg t) (k : ∀ v σ H Q, t' v σ H Q → t v σ H Q) : PGs X tg t' := ⟨fun pins s σ H v u Q I r q => h.run pins s σ H v u Q I r (k v σ H Q q)⟩
theorem gd_name {i : Nat} {x : Str} (hN : X.N.Nodup) (hi : X.N[i]? = some x) (hx : Loc X.env.scope x) (hf : X.fn x = true ∨ X.env.scope.names.lookup x = some .local := by first | exact .inl rfl | exact .inr rfl | assumption) : GD X (.Name x pos) (setT i) :=
  PGweak (pg_name hN hi hx hf) fun v σ H Q ⟨w, e, M, x, r, re, rv, p⟩ => p.at r (re.set rv i)
theorem gds_nil : GDs X [] nilT := PGsweak pgs_nil fun vs σ H Q ⟨w, e, M, xs, r, re, d, p⟩ => by
  unfold nilT at p
  split at p
  · cases d; exact ⟨rfl, p.at r re⟩
  · exact p.elim
theorem gds_cons {tg : Expr} {tgs : List Expr} {γ : Tg} {δ : Tgs} (h1 : GD X tg γ) (h2 : GDs X tgs δ) (hs : (assignEach (tg :: tgs) X.env).map (·.2) = assign tg X.env :: (assignEach tgs X.env).map (·.2) := by rfl) : GDs X (tg :: tgs) (consT γ δ) :=
  PGsweak (pgs_cons h1 h2 hs) fun vs σ H Q ⟨w, e, M, xs, r, re, d, p⟩ => by
    unfold consT at p
    split at p
    · cases d with
      | cons d1 d2 =>
        exact ⟨_, _, rfl, w, e, M, .d _, r, re, d1, p.bind fun e1 M1 w1 σ1 H1 l1 r1 re1 p1 => ⟨w1, e1, M1, _, r1, re1, d2.up l1.2, p1⟩⟩
    · exact p.elim
theorem gd_tup {es : List Expr} {k n : Nat} {δ : Tgs} (hc : X.calm = true) (h : GDs X es δ) (hn : (assignEach es X.env).length = n := by rfl) (hst : (assignEach es X.env).findIdx? (·.1) = none := by rfl) : GD X (.Tuple es k pos) (tupT n δ) :=
  PGweak (pg_tup hc h hn hst) fun v σ H Q ⟨w, e, M, x, r, re, rv, p⟩ => by
    unfold tupT at p
    split at p
    · rename_i xs hx
      split at p
      · rename_i hl
        obtain ⟨q, vs, rfl, hs, d⟩ := tup_at r rv hx
        exact ⟨q, vs, rfl, hs, by rw [d.len]; exact hl, w, e, M, xs, r, re, d, p⟩
      · exact p.elim
    · exact p.elim
/-- o[i] = .., o a handle -/
def subT (f g : Ev) : Tg := fun x e M => (f e M).bind fun o M1 => (g e M1).bind fun j M2 => match o, j, x with
  | .h i, .d (.int k), .d y => match M2[i]? with
    | some (.lst xs) => match ixN xs.length k with
      | some n => .ok e (M2.set i (.lst (xs.set n y)))
      | none => .st
    | _ => .st
  | _, _, _ => .st
theorem gd_sub {o i : Expr} {f g : Ev} (ho : DE X W0 o f) (hi : DE X W0 i g)
    (ha : ∀ v, assign (.Subscript o i pos) X.env v = (do
      let ov ← holding [v] (eval o X.env)
      let iv ← holding [v, ov] (eval i X.env)
      standAt pos
      holding [v, ov, iv] (setItem ov iv v)
      release [v, ov, iv] []) := by intro _; rfl) : GD X (.Subscript o i pos) (subT f g) :=
  PGweak (pg_sub ho hi set_list ha) fun v σ H Q ⟨w, e, M, x, r, re, rv, p⟩ =>
    ⟨w, e, M, r, re, p.bind fun o M1 w1 ov H1 l1 r1 ro p1 =>
      ⟨w1, e, M1, r1, re.up l1, p1.bind fun j M2 w2 jv H2 l2 r2 rj p2 => by
        split at p2
        · split at p2
          · rename_i xs hm
            split at p2
            · rename_i n hn
              have ro := ro.up l2
              obtain ⟨a, ea, rfl⟩ := ro
              cases rj
              have rv := (rv.up l1).up l2
              obtain ⟨hF, vs, e2, d⟩ := r2.at ea hm
              exact ⟨a, vs, _, n, rfl, rfl, e2, by rw [d.len]; exact hn, p2 _ _ _ (Wd.le_refl w2) (r2.write ea hF (d.set rv n)) ((re.up l1).up l2)⟩
            · exact p2.elim
          · exact p2.elim
        · exact p2.elim⟩⟩
def asgS (f : Ev) (γ : Tg) : Sv := lift f fun x e M => match γ x e M with
  | .ok e1 M1 => .go .nx e1 M1
  | _ => .st
theorem ds_asg {tg e : Expr} {f : Ev} {γ : Tg} (he : DE X W e f) (hg : GD X tg γ) (hs : swapsWithSole [tg] e pos.line X.env = pure false := by rfl) (hw : swappedStores [tg] e X.env = pure none := by rfl)
    (h1 : (assignEach [tg] X.env).map (·.2) = [assign tg X.env] := by rfl) : DS X W (.Assign [tg] e pos) (asgS f γ) :=
  PSweak (ps_asg he hg hs hw h1) fun D σ H ⟨w, e, M, r, re, p⟩ => ⟨w, e, M, r, re, p.of re fun x M1 w1 v H1 l1 r1 rv p1 => ⟨w1, e, M1, x, r1, re.up l1, rv, by
    cases q : γ x e M1 with
    | ok e1 M2 => rw [q] at p1; exact fun w' σ' H' l a b => p1 w' σ' H' l a b
    | er C fs M2 => rw [q] at p1; exact p1.elim
    | st => rw [q] at p1; exact p1.elim⟩⟩
/-! ### what is walked -/
/-- the iterator gives these, one after another -/
def IsIt (K : Frag) (w : Wd) (xs : List PyData) (J : It) : Prop := Walk J xs.length (fun H => ∀ a o, w.F a = some o → H a = some o)
  (fun i H x H' => ∃ d, xs[i]? = some d ∧ ((H' = H ∧ Dp K w.F x d) ∨ ∃ T o, H T = none ∧ H' = upd H T o ∧ Dp K (upd w.F T o) x d))
abbrev Ei := Env → Mem → Res (List PyData)
def DI (X : Cx) (W : WX) (tg it : Expr) (f : Ei) : Prop := PI X tg it fun σ H R => tG X.K W (IsIt X.K) f σ H R
theorem PIweak {tg it : Expr} {t t' : TI} (h : PI X tg it t) (k : ∀ σ H R, t' σ H R → t σ H R) : PI X tg it t' := ⟨fun pins s σ H R I q => h.run pins s σ H R I (k σ H R q)⟩
def forL (γ : Tg) (g : Sv) : List PyData → Env → Mem → RS
  | [], e, M => .go .nx e M
  | x :: xs, e, M => match γ (.d x) e M with
    | .ok e1 M1 => match g e1 M1 with
      | .go .nx e2 M2 => forL γ g xs e2 M2
      | .go .ct e2 M2 => forL γ g xs e2 M2
      | .go .bk e2 M2 => .go .nx e2 M2
      | r => r
    | _ => .st
def forS (f : Ei) (γ : Tg) (g : Sv) : Sv := lift f fun xs e M => forL γ g xs e M
theorem ds_for {tg it : Expr} {body : List Stmt} {f : Ei} {γ : Tg} {g : Sv} (hp : PassesOwn (model X.prog X.w) X.A X.env X.xe) (hc : X.calm = true) (hi : DI X W tg it f) (hg : GD X tg γ) (hb : DSs X W body g)
    (hs : ∀ x, foldedSetIterable it X.env x = pure x := by intro _; rfl) : DS X W (.For tg it body [] pos) (forS f γ g) :=
  PSweak (ps_for hp hc hi hg hb hs) fun D σ H ⟨w, e, M, r, re, p⟩ => ⟨w, e, M, r, re, p.of re fun xs M1 w1 J H1 l1 r1 hit p1 => by
    refine for_it (g := tTg X.K γ) (tb := tS X.K W g) (D := D) hit (fun i σ H => ∃ w2 e2 M2, w1.le w2 ∧ Rel X.K w2 M2 H ∧ RE X.K w2 e2 σ ∧ PostS X.K W w2 (forL γ g (xs.drop i) e2 M2) D) ⟨w1, e, M1, Wd.le_refl _, r1, re.up l1, p1⟩ (fun i σ H _ ⟨w2, e2, M2, l2, r2, _, _⟩ a o q => r2.sub _ _ (l2.2 _ _ q)) ?_ ?_
    · rintro i x σ H H' hi ⟨w2, e2, M2, l2, r2, re2, p2⟩ ⟨d, hd, hx⟩
      have e1 : xs.drop i = d :: xs.drop (i + 1) := by
        rw [List.drop_eq_getElem_cons hi]
        rw [List.getElem?_eq_getElem hi] at hd
        rw [Option.some.inj hd]
      rw [e1] at p2
      unfold forL at p2
      have go : ∀ w3, w2.le w3 → Rel X.K w3 M2 H' → Dp X.K w3.F x d → tTg X.K γ x σ H' fun σ2 H2 =>
          tS X.K W g { D with
            nx := fun σ H => ∃ w2 e2 M2, w1.le w2 ∧ Rel X.K w2 M2 H ∧ RE X.K w2 e2 σ ∧ PostS X.K W w2 (forL γ g (xs.drop (i + 1)) e2 M2) D
            ct := fun σ H => ∃ w2 e2 M2, w1.le w2 ∧ Rel X.K w2 M2 H ∧ RE X.K w2 e2 σ ∧ PostS X.K W w2 (forL γ g (xs.drop (i + 1)) e2 M2) D
            bk := D.nx } σ2 H2 := fun w3 l3 r3 dx => by
        refine ⟨w3, e2, M2, .d d, r3, re2.up l3, dx, ?_⟩
        cases q : γ (.d d) e2 M2 with
        | st => rw [q] at p2; exact p2.elim
        | er C fs M3 => rw [q] at p2; exact p2.elim
        | ok e3 M3 =>
          rw [q] at p2
          dsimp only at p2
          intro w4 σ4 H4 l4 r4 re4
          refine ⟨w4, e3, M3, r4, re4, ?_⟩
          have l14 : w1.le w4 := (l2.trans l3).trans l4
          have p2 := PostS.up (l3.trans l4) p2
          cases q2 : g e3 M3 with
          | st => rw [q2] at p2; exact p2.elim
          | er C fs e4 M4 => rw [q2] at p2; exact p2
          | go f e4 M4 =>
            rw [q2] at p2
            cases f with
            | nx => exact fun w5 σ5 H5 l5 r5 re5 => ⟨w5, e4, M4, l14.trans l5, r5, re5, PostS.up l5 p2⟩
            | ct => exact fun w5 σ5 H5 l5 r5 re5 => ⟨w5, e4, M4, l14.trans l5, r5, re5, PostS.up l5 p2⟩
            | bk => exact p2
            | rt x => exact p2
      rcases hx with ⟨rfl, dx⟩ | ⟨T, o, hT, rfl, dx⟩
      · exact go w2 (Wd.le_refl _) r2 (Dp.up l2.2 _ _ dx)
      · have hF := (r2.new hT).2
        refine go (w2.fz T o) (Wd.le_fz hF) (r2.alloc hT o) (Dp.up (fun a u q => ?_) _ _ dx)
        show upd w2.F T o a = some u
        by_cases ha : a = T
        · subst ha; rw [upd_same] at q ⊢; exact q
        · rw [upd_ne ha] at q ⊢; exact l2.2 _ _ q
    · rintro σ H ⟨w2, e2, M2, l2, r2, re2, p2⟩
      rw [List.drop_length] at p2
      exact p2.nx r2 re2⟩
/-! ### while -/
def whileL (c : Env → Mem → Res Bool) (g : Sv) : Nat → Env → Mem → RS
  | 0, _, _ => .st
  | n + 1, e, M => lift c (fun b e M1 => if b = true then match g e M1 with
      | .go .nx e2 M2 => whileL c g n e2 M2
      | .go .ct e2 M2 => whileL c g n e2 M2
      | .go .bk e2 M2 => .go .nx e2 M2
      | r => r
    else .go .nx e M1) e M
def whileS (c : Env → Mem → Res Bool) (g : Sv) (n : Env → Mem → Nat) : Sv := fun e M => whileL c g (n e M) e M
theorem ds_while {c : Expr} {body : List Stmt} {f : Env → Mem → Res Bool} {g : Sv} (n : Env → Mem → Nat) (hp : PassesOwn (model X.prog X.w) X.A X.env X.xe) (hc : DT X W c f) (hb : DSs X W body g) : DS X W (.While c body [] pos) (whileS f g n) :=
  PSweak (ps_while hp hc hb) fun D σ H ⟨w, e, M, r, re, p⟩ => by
    refine ⟨fun m σ H => ∃ w e M, Rel X.K w M H ∧ RE X.K w e σ ∧ PostS X.K W w (whileL f g m e M) D, ⟨n e M, w, e, M, r, re, p⟩, ?_⟩
    rintro m σ H ⟨w, e, M, r, re, p⟩
    cases m with
    | zero => exact p.elim
    | succ m =>
      unfold whileL at p
      refine ⟨w, e, M, r, re, p.of re fun x M1 w1 v H1 l1 r1 rv p1 => ?_⟩
      have rv : x = v := rv
      subst rv
      cases x with
      | false => exact p1.nx r1 (re.up l1)
      | true =>
        refine ⟨fun σ' H' => ∃ w e M, Rel X.K w M H' ∧ RE X.K w e σ' ∧ PostS X.K W w (whileL f g m e M) D, fun σ' H' q => ⟨m, Nat.lt_succ_self m, q⟩, w1, e, M1, r1, re.up l1, ?_⟩
        rw [if_pos rfl] at p1
        cases q2 : g e M1 with
        | st => rw [q2] at p1; exact p1.elim
        | er C fs e4 M4 => rw [q2] at p1; exact p1
        | go f e4 M4 =>
          rw [q2] at p1
          cases f with
          | nx => exact fun w5 σ5 H5 l5 r5 re5 => ⟨w5, e4, M4, r5, re5, PostS.up l5 p1⟩
          | ct => exact fun w5 σ5 H5 l5 r5 re5 => ⟨w5, e4, M4, r5, re5, PostS.up l5 p1⟩
          | bk => exact p1
          | rt x => exact p1
end
end DL

namespace DL
open PySem PySem.Spec L2 PySem.W
/-! ### enumerate of one thing that is not a list -/
section
open PySem.W
theorem meets_enum1 {v : Value} {o : Obj} {H : Heap → Prop} (B : Begins v o H) :
    Meets (Builtin.«enumerate.__new__» ⟨[.type "enumerate", v], []⟩) (fun _ R s => H s.heap ∧
      R (.ok (.ret (.ref (s.heap.push o).objs.size))) { s with heap := (s.heap.push o).push { cls := .type "enumerate", data := .fields #[.none, .bool false, .ref s.heap.objs.size, rawInt 0, .none, .none] } }) :=
  .of_wp fun prog w A R s h => by
    obtain ⟨hp, g, d, tk, os⟩ := s
    obtain ⟨h1, h⟩ := h
    have hsub := sub_enumerate
    have q1 : ∀ {A' : Around} {E : Value → Shared → Prop} {Q : Value → Shared → Prop}, Q (.ref hp.objs.size) ⟨hp.push o, g, d, tk, os⟩ → wpAny (model prog w) A' (pyIter v) Q E ⟨hp, g, d, tk, os⟩ :=
      fun q => B.iter prog w _ _ ⟨hp, g, d, tk, os⟩ _ h1 q
    wp_walk using q1
    refine wpAny_stack_any fun st => wpAny_pure ?_
    split
    · rename_i c _ _ _ _ _
      cases (c == Value.type "enumerate")
      · wp_walk using q1
        exact ⟨_, rfl, h⟩
      · wp_walk using q1
        exact ⟨_, rfl, h⟩
    · wp_walk using q1
      exact ⟨_, rfl, h⟩
theorem enum_begins1 {prog : Program} {w : World} {A : Around} {E : Value → Shared → Prop} {s : Shared} {v : Value} {o : Obj} {H : Heap → Prop} {Q : Value → Shared → Prop} (B : Begins v o H) (h1 : H s.heap)
    (h : ∀ h', IsEnum h' (s.heap.objs.size + 1) s.heap.objs.size 0 .none → h'.get? s.heap.objs.size = some o →
      (∀ b o, s.heap.get? b = some o → h'.get? b = some o) → Q (.ref (s.heap.objs.size + 1)) { s with heap := h' }) :
    wpAny (model prog w) A (call (.type "enumerate") [v]) Q E s := by
  refine callType_new F.called_enumerate (by decide) (F.typeCall_enumerate_1 _) (F.newCall_enumerate_1 _) (fun obj => F.args_object_init_2 obj _) F.entry_enumerate_new
    (meets_enum1 B) ⟨h1, ?_⟩
  have hz : (s.heap.push o).objs.size = s.heap.objs.size + 1 := Heap.size_push ..
  show _ ∧ _
  rw [hz]
  have he : IsEnum ((s.heap.push o).push { cls := .type "enumerate", data := .fields #[.none, .bool false, .ref s.heap.objs.size, rawInt 0, .none, .none] }) (s.heap.objs.size + 1) s.heap.objs.size 0 .none := by
    have q := Heap.get?_push_size (s.heap.push o) (o := { cls := .type "enumerate", data := .fields #[.none, .bool false, .ref s.heap.objs.size, rawInt 0, .none, .none] }) rfl
    rw [hz] at q
    exact q
  exact ⟨⟨_, he, rfl⟩, h _ he (Heap.get?_push_of_some _ (Heap.get?_push_size _ B.free)) fun b o x => Heap.get?_push_of_some _ (Heap.get?_push_of_some _ x)⟩
end
/-- a tuple's items, numbered -/
def ItEt (K : Frag) (a : Addr) : It :=
  ⟨fun i H => ∃ (xs : List V) (x : V), SqT K H a xs ∧ xs[i]? = some x, fun i H v H' => ∃ T x, v = .ref T ∧ H T = none ∧ H' = upd H T (.tup [.int (i : Nat), x]) ∧ ∀ xs, SqT K H a xs → xs[i]? = some x, fun i H => ∃ xs : List V, SqT K H a xs ∧ xs.length = i⟩
theorem enum_apart {h : Heap} {e it t : Addr} {k : Int} {old : Value} {vs : Array Value} (he : IsEnum h e it k old) (ht : h.IsTuple t vs) (hne : e ≠ it) : e ∉ [it, t] := by
  intro z
  rcases List.mem_cons.mp z with z | z
  · exact hne z
  · have z : e = t := by simpa using z
    subst z
    obtain ⟨o, ho, hc, n, hd⟩ := ht
    rw [he] at ho
    cases ho
    cases hd
theorem turn_enumT {P : Program} {w : World} {K : Frag} {elts : List Expr} {kk : Nat} {tpos : Pos} (a e it : Addr) :
    Turn P w K (.Tuple elts kk tpos) (ItEt K a) [e, it] e (fun i h => (∃ old, IsEnum h e it ((i : Nat) : Int) old) ∧ h.IsTupleIter it a i ∧ e ≠ it) where
  mem := by simp
  obj := fun i h st b hb => by
    obtain ⟨⟨old, he⟩, ⟨o, ho, hc, hd⟩, _⟩ := st
    have e' : b = e ∨ b = it := by simpa using hb
    rcases e' with z | z
    · rw [z]; exact ⟨_, he, fun v q => nomatch q⟩
    · rw [z]; exact ⟨o, ho, fun v q => by rw [hd] at q; cases q⟩
  keep := fun i h h' st k => by
    obtain ⟨⟨old, he⟩, ⟨o, ho, hc, hd⟩, hne⟩ := st
    exact ⟨⟨old, k e (by simp) _ he⟩, ⟨o, k it (by simp) _ ho, hc, hd⟩, hne⟩
  item := by
    intro X hP hw hK hc i pins s σ H E I hf st hg
    subst hP hw hK
    obtain ⟨⟨old, he⟩, hit, hne⟩ := st
    obtain ⟨xs, x, hq, hx⟩ := hg
    obtain ⟨its, rv, p, hz⟩ := I.tuple hq
    have p : s.heap.IsTuple a its.toArray := p
    obtain ⟨u, hu, ru⟩ := rv.get hx
    have hel : e < s.heap.objs.size := Heap.lt_size he
    have hil : it < s.heap.objs.size := by obtain ⟨_, q, _⟩ := hit; exact Heap.lt_size q
    have hit0 := hit
    have hai : a ≠ it := fun z => by
      subst z
      obtain ⟨o, ho, hc, n, hd⟩ := p
      obtain ⟨o', ho', hc', hd'⟩ := hit
      rw [ho] at ho'; cases ho'
      rw [hd] at hd'; cases hd'
    have D := Draws.tuple (prog := X.prog) (w := X.w) (A := X.A.in1) (I.ok.hd hc) it a hai its.toArray
    have hlt : i < its.toArray.size := by
      rw [List.size_toArray]
      exact (List.getElem?_eq_some_iff.mp hu).1
    refine wpAny_pyNext_enum_itemD D he ⟨hit, p⟩ hlt hne (enum_apart he p hne) fun x' h' tk hx' ho hst' hT hsz hk => ?_
    have ex : x' = u := by
      have hx' : its.toArray[i]? = some x' := hx'
      rw [List.getElem?_toArray, hu] at hx'
      exact (Option.some.inj hx').symm
    subst ex
    refine ⟨_, rfl, wpAny_letOwnedTupleGo_enum (s := { s with heap := h', toks := tk + 1 }) ho fun h'' he' sb => ?_⟩
    have hT2 : h''.get? s.heap.objs.size = some { cls := .type "tuple", data := .seq #[.int i tk, x'] } := (sb.2 _ (Nat.ne_of_gt hel)).trans hT
    have new : ObjOk X.prog X.w (upd H s.heap.objs.size (.tup [.int (i : Nat), x])) h'' s.heap.objs.size (.tup [.int (i : Nat), x]) :=
      ⟨by show 2 ≤ sizeLine; decide, [.int i tk, x'], .cons ⟨_, rfl⟩ (.cons ru .nil), ⟨_, hT2, rfl, _, rfl⟩⟩
    have I1 : Inv X pins σ (upd H s.heap.objs.size (.tup [.int (i : Nat), x])) { s with heap := h'', toks := tk + 1 } :=
      I.turnedNew (ch := [e, it]) (fun b ob hb q => (sb.2 b (fun z => hb (by simp [z]))).trans (hk b ob (fun z => hb (by simp [z])) (fun z => hb (by simp [z])) q)) hf (Nat.le_refl _) new
    obtain ⟨⟨oi, hoi, hci, hdi⟩, _⟩ := hst'
    refine ⟨.ref s.heap.objs.size, _, I1, rfl, ⟨_, x, rfl, I.hok.fresh (Nat.le_refl _), rfl, fun ys hy => by rw [I.tuple_inj hy hq]; exact hx⟩, ⟨⟨x', ?_⟩, ⟨oi, (sb.2 it (Ne.symm hne)).trans hoi, hci, hdi⟩, hne⟩, fun b hb => ?_⟩
    · have e1 : ((i + 1 : Nat) : Int) = (i : Int) + 1 := by omega
      rw [e1]; exact he'
    · have hb' : b < s.heap.objs.size := by
        have e' : b = e ∨ b = it := by simpa using hb
        rcases e' with z | z
        · rw [z]; exact hel
        · rw [z]; exact hil
      rw [upd_ne (Nat.ne_of_lt hb')]
      exact (hf b hb).1
  done := by
    intro X hP hw hK hc i pins s σ H E I hf st hg
    subst hP hw hK
    obtain ⟨⟨old, he⟩, hit, hne⟩ := st
    obtain ⟨xs, hq, hx⟩ := hg
    obtain ⟨its, rv, p, hz⟩ := I.tuple hq
    have p : s.heap.IsTuple a its.toArray := p
    obtain ⟨f0, f1, f2, f3, f4, f5⟩ := hf it (by simp)
    have hl := rv.length
    have hai : a ≠ it := fun z => by
      subst z
      obtain ⟨o, ho, hc, n, hd⟩ := p
      obtain ⟨o', ho', hc', hd'⟩ := hit
      rw [ho] at ho'; cases ho'
      rw [hd] at hd'; cases hd'
    have D := Draws.tuple (prog := X.prog) (w := X.w) (A := X.A.in1) (I.ok.hd hc) it a hai its.toArray
    have ei : its.toArray.size = i := by rw [List.size_toArray]; omega
    rw [ei] at D
    exact wpAny_pyNext_enum_endD D he ⟨hit, p⟩ fun h' eb => ⟨rfl, I.turned (t' := s.toks) (fun b o hb q => eb b o hb q) f0 f1 f3 f4 f5⟩
  self := fun A i s Q E st h => let ⟨⟨_, he⟩, _⟩ := st; wpAny_pyIter_enum he h
end DL

namespace DL
open PySem PySem.Spec L2
section
variable {X : Cx} {W : WX} {tg : Expr}
/-- a list or a tuple, item by item -/
theorem pi_seq {l : Expr} {tl : TE} (hl : PE X l tl) : PI X tg l (fun σ H R => tl σ H fun x H1 => ∃ a, x = .ref a ∧ (((∃ xs, SqL X.K H1 a xs) ∧ R (Itl X.K a) H1) ∨ ((∃ xs, SqT X.K H1 a xs) ∧ R (Itt X.K a) H1))) := by
  constructor
  intro pins s σ H R I h
  refine thn (hl.run pins s σ H _ I h) fun v s1 ⟨x, H1, I1, r1, a, e, q⟩ => ?_
  subst e
  cases r1
  rcases q with ⟨⟨xs, hq⟩, q⟩ | ⟨⟨xs, hq⟩, q⟩
  · obtain ⟨its, rv, p, hz⟩ := I1.list hq
    exact wpAny_pyIter_list p.isList (pi_one (tk := s1.toks) I1 _ (turn_list a _) ⟨_, Heap.get?_push_size _ rfl, rfl, rfl⟩ q)
  · obtain ⟨its, rv, p, hz⟩ := I1.tuple hq
    exact wpAny_pyIter_tuple (show s1.heap.IsTuple a its.toArray from p) (pi_one (tk := s1.toks) I1 _ (turn_tuple a _) ⟨_, Heap.get?_push_size _ rfl, rfl, rfl⟩ q)
theorem isIt_list {K : Frag} {w : Wd} {a : Addr} {vs : List V} {xs : List PyData} (h : SqL K w.F a vs) (d : DpAll K w.F vs xs) : IsIt K w xs (Itl K a) := by
  unfold IsIt
  rw [← d.len]
  refine Walk.mono (walk_list (K := K) (a := a) (xs := vs)) (fun H hs => SqL.up hs h) fun i H x H' hi hs y => ?_
  obtain ⟨e, y⟩ := y
  obtain ⟨z, h1, h2⟩ := d.get' y
  exact ⟨z, h1, .inl ⟨e, h2⟩⟩
theorem isIt_tup {K : Frag} {w : Wd} {a : Addr} {vs : List V} {xs : List PyData} (h : SqT K w.F a vs) (d : DpAll K w.F vs xs) : IsIt K w xs (Itt K a) := by
  unfold IsIt
  rw [← d.len]
  refine Walk.mono (walk_tup (K := K) (a := a) (xs := vs)) (fun H hs => SqT.up hs h) fun i H x H' hi hs y => ?_
  obtain ⟨e, y⟩ := y
  obtain ⟨z, h1, h2⟩ := d.get' y
  exact ⟨z, h1, .inl ⟨e, h2⟩⟩
/-- a thing that may be gone through: data that does not change -/
def walkOf : Vl → Option (List PyData)
  | .d (.list xs) => some xs
  | .d (.tuple xs) => some xs
  | .s xs => some xs
  | _ => none
theorem walk_at {K : Frag} {w : Wd} {x : Vl} {v : V} {xs : List PyData} (rv : RV K w x v) (h : walkOf x = some xs) : ∃ a vs, v = .ref a ∧ (SqL K w.F a vs ∨ SqT K w.F a vs) ∧ DpAll K w.F vs xs := by
  cases x with
  | d y =>
    cases y with
    | list ys =>
      obtain rfl : ys = xs := Option.some.inj h
      cases rv with
      | lst h1 h2 => exact ⟨_, _, rfl, .inl (.of h1), h2⟩
    | tuple ys =>
      obtain rfl : ys = xs := Option.some.inj h
      cases rv with
      | tup h1 h2 => exact ⟨_, _, rfl, .inr h1, h2⟩
    | _ => cases h
  | s ys =>
    obtain rfl : ys = xs := Option.some.inj h
    obtain ⟨p, vs, e, q, d⟩ := rv
    exact ⟨p, vs, e, .inl q, d⟩
  | _ => cases h
def seqI (f : Ev) : Ei := fun e M => (f e M).bind fun x M1 => match walkOf x with
  | some xs => .ok xs M1
  | none => .st
theorem di_seq {e : Expr} {f : Ev} (he : DE X W e f) : DI X W tg e (seqI f) :=
  PIweak (pi_seq he) fun σ H R ⟨w, e, M, r, re, p⟩ =>
    ⟨w, e, M, r, re, p.bind fun x M1 w1 v H1 l1 r1 rv p1 => by
      split at p1
      · rename_i xs hx
        obtain ⟨a, vs, rfl, hs | hs, d⟩ := walk_at rv hx
        · exact ⟨a, rfl, .inl ⟨⟨vs, SqL.up r1.sub hs⟩, p1.at r1 (isIt_list hs d)⟩⟩
        · exact ⟨a, rfl, .inr ⟨⟨vs, SqT.up r1.sub hs⟩, p1.at r1 (isIt_tup hs d)⟩⟩
      · exact p1.elim⟩
/-! ### ranges -/
theorem isIt_range {K : Frag} {w : Wd} {lo hi : Int} : IsIt K w (rangeD lo hi) (Itr lo (hi - lo).toNat) := by
  unfold IsIt
  have e : (rangeD lo hi).length = (hi - lo).toNat := by unfold rangeD; simp
  rw [e]
  refine Walk.mono walk_range (fun H hs => trivial) fun i H x H' hi' hs y => ?_
  obtain ⟨e, y⟩ := y
  refine ⟨.int (lo + (i : Nat)), ?_, .inl ⟨e, by rw [y]; exact .int _⟩⟩
  unfold rangeD
  rw [List.getElem?_map, List.getElem?_range hi']
  rfl
def rngI1 (f : Ev) : Ei := fun e M => (f e M).bind fun x M1 => match x with
  | .d (.int j) => if -(2 ^ 62) ≤ j ∧ j < 2 ^ 62 then .ok (rangeD 0 j) M1 else .st
  | _ => .st
theorem di_range1 {a : Expr} {f : Ev} {p pos : Pos} (hg : Gl X "range") (hm : X.mg "range" = none) (ha : DE X W a f) (hs : starEach [a] X.env = [(false, eval a X.env)] := by rfl) : DI X W tg (.Call (.Name "range" p) [a] [] pos) (rngI1 f) :=
  PIweak (pi_range1 hg hm (pa_cons ha pa_nil hs) hs) fun σ H R ⟨w, e, M, r, re, p⟩ =>
    ⟨w, e, M, r, re, p.bind fun x M1 w1 v H1 l1 r1 rv p1 => by
      split at p1
      · split at p1
        · rename_i hz
          cases rv
          refine ⟨_, rfl, hz.1, hz.2, ?_⟩
          have q := p1.at r1 (isIt_range (K := X.K) (w := w1))
          rw [Int.sub_zero] at q
          exact q
        · exact p1.elim
      · exact p1.elim⟩
def rngI2 (f g : Ev) : Ei := fun e M => (f e M).bind fun x M1 => (g e M1).bind fun y M2 => match x, y with
  | .d (.int i), .d (.int j) => if -(2 ^ 62) ≤ i ∧ i < 2 ^ 62 ∧ -(2 ^ 62) ≤ j ∧ j < 2 ^ 62 then .ok (rangeD i j) M2 else .st
  | _, _ => .st
theorem di_range2 {a b : Expr} {f g : Ev} {p pos : Pos} (hg : Gl X "range") (hm : X.mg "range" = none) (ha : DE X W a f) (hb : DE X W b g) (hs : starEach [a, b] X.env = [(false, eval a X.env), (false, eval b X.env)] := by rfl) (hs2 : starEach [b] X.env = [(false, eval b X.env)] := by rfl) :
    DI X W tg (.Call (.Name "range" p) [a, b] [] pos) (rngI2 f g) :=
  PIweak (pi_range2 hg hm (pa_cons ha (pa_cons hb pa_nil hs2) (by rw [hs, hs2])) hs hs2) fun σ H R ⟨w, e, M, r, re, p⟩ =>
    ⟨w, e, M, r, re, p.bind fun x M1 w1 v H1 l1 r1 rv p1 =>
      ⟨w1, e, M1, r1, re.up l1, p1.bind fun y M2 w2 u H2 l2 r2 ru p2 => by
        split at p2
        · split at p2
          · rename_i hz
            have rv := rv.up l2
            cases rv; cases ru
            exact ⟨_, _, rfl, hz, p2.at r2 (isIt_range (K := X.K) (w := w2))⟩
          · exact p2.elim
        · exact p2.elim⟩⟩
/-! ### enumerate -/
theorem pi_enumA {e : Expr} {ta : TA} {p pos tpos : Pos} {elts : List Expr} {kk : Nat} (hg : Gl X "enumerate") (hm : X.mg "enumerate" = none) (ha : PA X [e] ta) (hs : starEach [e] X.env = [(false, eval e X.env)] := by rfl) :
    PI X (.Tuple elts kk tpos) (.Call (.Name "enumerate" p) [e] [] pos) (fun σ H R => ta σ H fun vs H1 => ∃ a, vs = [.ref a] ∧ (((∃ xs, SqL X.K H1 a xs) ∧ R (Ite X.K a) H1) ∨ ((∃ xs, SqT X.K H1 a xs) ∧ R (ItEt X.K a) H1))) := by
  constructor
  intro pins s σ H R I h
  refine PyProof.Rows.Call_ (ld_blt I hg hm PyProof.Rows.boot_enumerate (PyProof.Rows.callWith_type1 (thn (ha.run pos pins s σ H _ I h) fun us s1 ⟨vs, H1, I1, r1, a, ea, q1⟩ => ?_) hs rfl))
  subst ea
  obtain rfl := r1.ref1
  have two : ∀ b, b = s1.heap.objs.size + 1 ∨ b = s1.heap.objs.size → s1.heap.objs.size ≤ b := fun b z => by omega
  rcases q1 with ⟨⟨xs, hq⟩, q⟩ | ⟨⟨xs, hq⟩, q⟩
  · obtain ⟨its, rv, pl, hz⟩ := I1.list hq
    refine call_enumerate_list pl.isList fun h' he hit hsz hk => wpAny_pyIter_enum he ?_
    have I2 : Inv X pins σ H1 { s1 with heap := h' } := I1.kept (t' := s1.toks) hk
    refine ⟨s1.heap.objs.size + 1, [s1.heap.objs.size + 1, s1.heap.objs.size], _, _, H1, rfl, I2, turn_enum a (s1.heap.objs.size + 1) s1.heap.objs.size, ⟨⟨.none, he⟩, hit, Nat.succ_ne_self _⟩, fun b hb => ?_, q⟩
    have hle := two b (by simpa using hb)
    exact I1.fpOk hle (I1.hok.fresh hle)
  · obtain ⟨its, rv, pl, hz⟩ := I1.tuple hq
    have pl : s1.heap.IsTuple a its.toArray := pl
    refine enum_begins1 (begins_tuple a its.toArray) pl fun h' he hit hk => wpAny_pyIter_enum he ?_
    have I2 : Inv X pins σ H1 { s1 with heap := h' } := I1.kept (t' := s1.toks) hk
    refine ⟨s1.heap.objs.size + 1, [s1.heap.objs.size + 1, s1.heap.objs.size], _, _, H1, rfl, I2, turn_enumT a (s1.heap.objs.size + 1) s1.heap.objs.size, ⟨⟨.none, he⟩, ⟨_, hit, rfl, rfl⟩, Nat.succ_ne_self _⟩, fun b hb => ?_, q⟩
    have hle := two b (by simpa using hb)
    exact I1.fpOk hle (I1.hok.fresh hle)
/-- numbered -/
def numD (xs : List PyData) : List PyData := xs.zipIdx.map fun p => .tuple [.int (p.2 : Nat), p.1]
theorem numD_get {xs : List PyData} {i : Nat} {d : PyData} (h : xs[i]? = some d) : (numD xs)[i]? = some (.tuple [.int (i : Nat), d]) := by
  unfold numD
  rw [List.getElem?_map, List.getElem?_zipIdx, h]
  simp
theorem numD_len (xs : List PyData) : (numD xs).length = xs.length := by unfold numD; simp
theorem isIt_num {K : Frag} {w : Wd} {xs : List PyData} {vs : List V} (d : DpAll K w.F vs xs) {J : It} {G : Hp → Prop} (hw : Walk J vs.length G (YPair (fun i => some (.int (i : Nat))) (fun i => vs[i]?))) (hG : ∀ H, (∀ a o, w.F a = some o → H a = some o) → G H) : IsIt K w (numD xs) J := by
  unfold IsIt
  rw [numD_len, ← d.len]
  refine Walk.mono hw hG fun i H x H' hi hs y => ?_
  obtain ⟨T, x1, x2, rfl, hT, rfl, e1, e2⟩ := y
  obtain rfl := Option.some.inj e1
  obtain ⟨z, h1, h2⟩ := d.get' e2
  have hF : w.F T = none := by
    cases q : w.F T with
    | none => rfl
    | some o => rw [hs _ _ q] at hT; cases hT
  refine ⟨_, numD_get h1, .inr ⟨T, _, hT, rfl, .tup (.inl (.inl upd_same)) (.cons (.int _) (.cons (Dp.up (fun a u q => ?_) _ _ h2) .nil))⟩⟩
  rw [upd_ne (ne_of_none q hF)]
  exact q
theorem walk_enumT {K : Frag} {a : Addr} {xs : List V} : Walk (ItEt K a) xs.length (fun H => SqT K H a xs) (YPair (fun i => some (.int (i : Nat))) (fun i => xs[i]?)) :=
  ⟨fun i H hi h => ⟨xs, xs[i], h, by simp [hi]⟩, fun H h => ⟨xs, h, rfl⟩, fun i H x H' hi h ⟨T, y, e1, e2, e3, e4⟩ => ⟨T, .int (i : Nat), y, e1, e2, e3, rfl, e4 xs h⟩⟩
def enumI (f : Ev) : Ei := fun e M => (f e M).bind fun x M1 => match walkOf x with
  | some xs => .ok (numD xs) M1
  | none => .st
theorem di_enum {e : Expr} {f : Ev} {p pos tpos : Pos} {elts : List Expr} {kk : Nat} (hg : Gl X "enumerate") (hm : X.mg "enumerate" = none) (ha : DE X W e f) (hs : starEach [e] X.env = [(false, eval e X.env)] := by rfl) :
    DI X W (.Tuple elts kk tpos) (.Call (.Name "enumerate" p) [e] [] pos) (enumI f) :=
  PIweak (pi_enumA hg hm (pa_cons ha pa_nil hs) hs) fun σ H R ⟨w, e, M, r, re, p⟩ =>
    ⟨w, e, M, r, re, p.bind fun x M1 w1 v H1 l1 r1 rv p1 => by
      split at p1
      · rename_i xs hx
        obtain ⟨a, vs, rfl, hs | hs, d⟩ := walk_at rv hx
        · exact ⟨a, rfl, .inl ⟨⟨vs, SqL.up r1.sub hs⟩, p1.at r1 (isIt_num d walk_enum fun H q => SqL.up q hs)⟩⟩
        · exact ⟨a, rfl, .inr ⟨⟨vs, SqT.up r1.sub hs⟩, p1.at r1 (isIt_num d walk_enumT fun H q => SqT.up q hs)⟩⟩
      · exact p1.elim⟩
/-! ### zip of two lists, of two tuples -/
def zipD (xs ys : List PyData) : List PyData := (xs.zip ys).map fun p => .tuple [p.1, p.2]
theorem zipD_get {xs ys : List PyData} {i : Nat} {d e : PyData} (h : xs[i]? = some d) (h' : ys[i]? = some e) : (zipD xs ys)[i]? = some (.tuple [d, e]) := by
  unfold zipD
  rw [List.getElem?_map, (List.getElem?_zip_eq_some (z := (d, e))).mpr ⟨h, h'⟩]
  rfl
theorem zipD_len (xs ys : List PyData) : (zipD xs ys).length = min xs.length ys.length := by unfold zipD; simp
theorem isIt_zip {K : Frag} {w : Wd} {xs ys : List PyData} {vs us : List V} (d : DpAll K w.F vs xs) (d' : DpAll K w.F us ys) {J : It} {G : Hp → Prop} (hw : Walk J (min vs.length us.length) G (YPair (fun i => vs[i]?) (fun i => us[i]?))) (hG : ∀ H, (∀ a o, w.F a = some o → H a = some o) → G H) : IsIt K w (zipD xs ys) J := by
  unfold IsIt
  rw [zipD_len, ← d.len, ← d'.len]
  refine Walk.mono hw hG fun i H x H' hi hs y => ?_
  obtain ⟨T, x1, x2, rfl, hT, rfl, e1, e2⟩ := y
  obtain ⟨z1, h1, h2⟩ := d.get' e1
  obtain ⟨z2, h3, h4⟩ := d'.get' e2
  have hF : w.F T = none := by
    cases q : w.F T with
    | none => rfl
    | some o => rw [hs _ _ q] at hT; cases hT
  have hle : ∀ a u, w.F a = some u → upd w.F T (.tup [x1, x2]) a = some u := fun a u q => by rw [upd_ne (ne_of_none q hF)]; exact q
  exact ⟨_, zipD_get h1 h3, .inr ⟨T, _, hT, rfl, .tup (.inl (.inl upd_same)) (.cons (Dp.up hle _ _ h2) (.cons (Dp.up hle _ _ h4) .nil))⟩⟩
theorem walk_zipT {K : Frag} {a b : Addr} {xs ys : List V} : Walk (RZ.ItzT K a b) (min xs.length ys.length) (fun H => SqT K H a xs ∧ SqT K H b ys) (YPair (fun i => xs[i]?) (fun i => ys[i]?)) :=
  ⟨fun i H hi h => ⟨xs, ys, xs[i], ys[i], h.1, h.2, by simp, by simp⟩, fun H h => ⟨xs, ys, h.1, h.2, by omega⟩, fun i H x H' hi h ⟨T, y, z, e1, e2, e3, e4, e5⟩ => ⟨T, y, z, e1, e2, e3, e4 xs h.1, e5 ys h.2⟩⟩
/-- both lists, or both tuples -/
def zipOf (x y : Vl) : Option (List PyData × List PyData) := match tupOf x, tupOf y with
  | some xs, some ys => some (xs, ys)
  | none, none => match walkOf x, walkOf y with
    | some xs, some ys => some (xs, ys)
    | _, _ => none
  | _, _ => none
def zipI (f g : Ev) : Ei := fun e M => (f e M).bind fun x M1 => (g e M1).bind fun y M2 => match zipOf x y with
  | some p => .ok (zipD p.1 p.2) M2
  | none => .st
theorem lstw_at {K : Frag} {w : Wd} {x : Vl} {v : V} {xs : List PyData} (rv : RV K w x v) (h : walkOf x = some xs) (ht : tupOf x = none) : ∃ a vs, v = .ref a ∧ SqL K w.F a vs ∧ DpAll K w.F vs xs := by
  cases x with
  | d y =>
    cases y with
    | list ys =>
      obtain rfl : ys = xs := Option.some.inj h
      cases rv with
      | lst h1 h2 => exact ⟨_, _, rfl, .of h1, h2⟩
    | tuple ys => cases ht
    | _ => cases h
  | s ys =>
    obtain rfl : ys = xs := Option.some.inj h
    obtain ⟨p, vs, e, q, d⟩ := rv
    exact ⟨p, vs, e, q, d⟩
  | _ => cases h
theorem tupw_at {K : Frag} {w : Wd} {x : Vl} {v : V} {xs : List PyData} (rv : RV K w x v) (h : tupOf x = some xs) : ∃ a vs, v = .ref a ∧ SqT K w.F a vs ∧ DpAll K w.F vs xs := by
  cases x with
  | d y =>
    cases y with
    | tuple ys =>
      obtain rfl : ys = xs := Option.some.inj h
      cases rv with
      | tup h1 h2 => exact ⟨_, _, rfl, h1, h2⟩
    | _ => cases h
  | _ => cases h
theorem di_zip {e e2 : Expr} {f g : Ev} {p pos tpos : Pos} {elts : List Expr} {kk : Nat} (hg : Gl X "zip") (hm : X.mg "zip" = none) (ha : DE X W e f) (hb : DE X W e2 g)
    (hs : starEach [e, e2] X.env = (false, eval e X.env) :: starEach [e2] X.env := by rfl) (hs2 : starEach [e2] X.env = (false, eval e2 X.env) :: starEach [] X.env := by rfl) (hpl : (backTo pos (starEach [e2] X.env)).any (·.1) = false := by rfl) :
    DI X W (.Tuple elts kk tpos) (.Call (.Name "zip" p) [e, e2] [] pos) (zipI f g) :=
  PIweak (RZ.pi_zipA hg hm (pa_cons ha (pa_cons hb pa_nil hs2) hs) hs hpl) fun σ H R ⟨w, e, M, r, re, p⟩ =>
    ⟨w, e, M, r, re, p.bind fun x M1 w1 v H1 l1 r1 rv p1 =>
      ⟨w1, e, M1, r1, re.up l1, p1.bind fun y M2 w2 u H2 l2 r2 ru p2 => by
        have rv := rv.up l2
        unfold zipOf at p2
        split at p2
        · rename_i q hq
          split at hq
          · rename_i xs ys h1 h2
            cases hq
            obtain ⟨a, vs, rfl, s1, d1⟩ := tupw_at rv h1
            obtain ⟨b, us, rfl, s2, d2⟩ := tupw_at ru h2
            exact ⟨a, b, vs, us, rfl, .inr ⟨SqT.up r2.sub s1, SqT.up r2.sub s2, p2.at r2 (isIt_zip d1 d2 walk_zipT fun H q => ⟨SqT.up q s1, SqT.up q s2⟩)⟩⟩
          · rename_i t1 t2
            split at hq
            · rename_i xs ys h1 h2
              cases hq
              obtain ⟨a, vs, rfl, s1, d1⟩ := lstw_at rv h1 t1
              obtain ⟨b, us, rfl, s2, d2⟩ := lstw_at ru h2 t2
              exact ⟨a, b, vs, us, rfl, .inl ⟨SqL.up r2.sub s1, SqL.up r2.sub s2, p2.at r2 (isIt_zip d1 d2 (walk_zip rfl) fun H q => ⟨SqL.up q s1, SqL.up q s2⟩)⟩⟩
            · cases hq
          · cases hq
        · exact p2.elim⟩⟩
end
end DL

namespace DL
open PySem PySem.Spec L2
/-! ### list comprehensions -/
theorem wipe_get (σ : L2.St) : ∀ (vs : List Nat) (j : Nat), (wipe σ vs)[j]? = if j ∈ vs then (σ[j]?).map (fun _ => none) else σ[j]?
  | [], j => by simp [wipe]
  | v :: vs, j => by
    unfold wipe
    by_cases hj : v = j
    · subst hj
      rw [if_pos List.mem_cons_self]
      by_cases hl : v < σ.length
      · rw [List.getElem?_set_self (by rw [wipe_length]; exact hl), List.getElem?_eq_getElem hl]
        rfl
      · rw [List.getElem?_eq_none (by rw [List.length_set, wipe_length]; omega), List.getElem?_eq_none (by omega)]
        rfl
    · rw [List.getElem?_set_ne hj, wipe_get σ vs j]
      by_cases hm : j ∈ vs
      · rw [if_pos hm, if_pos (List.mem_cons_of_mem _ hm)]
      · rw [if_neg hm, if_neg]
        intro z
        rcases List.mem_cons.mp z with z | z
        · exact hj z.symm
        · exact hm z
theorem wipe_set {σ : L2.St} {vs : List Nat} {i : Nat} {o : Option V} (hi : i ∈ vs) : wipe (σ.set i o) vs = wipe σ vs := by
  apply List.ext_getElem?
  intro j
  rw [wipe_get, wipe_get]
  by_cases hj : i = j
  · subst hj
    rw [if_pos hi, if_pos hi]
    by_cases hl : i < σ.length
    · rw [List.getElem?_set_self hl, List.getElem?_eq_getElem hl]
      rfl
    · rw [List.getElem?_eq_none (by rw [List.length_set]; omega), List.getElem?_eq_none (by omega)]
  · rw [List.getElem?_set_ne hj]
theorem wipe_wipe (σ : L2.St) (vs : List Nat) : wipe (wipe σ vs) vs = wipe σ vs := by
  apply List.ext_getElem?
  intro j
  rw [wipe_get, wipe_get]
  by_cases hj : j ∈ vs
  · rw [if_pos hj, if_pos hj, Option.map_map]
    rfl
  · rw [if_neg hj, if_neg hj]
/-- a target that stores to these slots alone -/
def tTv (K : Frag) (vs : List Nat) (γ : Tg) : TG := fun v σ H Q => ∃ (w : Wd) (e : Env) (M : Mem) (x : Vl), Rel K w M H ∧ RE K w e σ ∧ RV K w x v ∧ Post K (fun _ _ _ => False) (RE K) w (γ x e M) fun σ' H' => wipe σ' vs = wipe σ vs → Q σ' H'
def tTvs (K : Frag) (vs : List Nat) (γ : Tgs) : TGs := fun us σ H Q => ∃ (w : Wd) (e : Env) (M : Mem) (xs : List PyData), Rel K w M H ∧ RE K w e σ ∧ DpAll K w.F us xs ∧ Post K (fun _ _ _ => False) (RE K) w (γ xs e M) fun σ' H' => wipe σ' vs = wipe σ vs → Q σ' H'
def GV (X : Cx) (vs : List Nat) (tg : Expr) (γ : Tg) : Prop := PG X tg (tTv X.K vs γ)
def GVs (X : Cx) (vs : List Nat) (tgs : List Expr) (γ : Tgs) : Prop := PGs X tgs (tTvs X.K vs γ)
section
variable {X : Cx} {W : WX} {pos : Pos} {vs : List Nat}
theorem gv_name {i : Nat} {x : Str} (hv : i ∈ vs) (hN : X.N.Nodup) (hi : X.N[i]? = some x) (hx : Loc X.env.scope x) (hf : X.fn x = true ∨ X.env.scope.names.lookup x = some .local := by first | exact .inl rfl | exact .inr rfl | assumption) : GV X vs (.Name x pos) (setT i) :=
  PGweak (pg_name hN hi hx hf) fun v σ H Q ⟨w, e, M, x, r, re, rv, p⟩ => p.at r (re.set rv i) (wipe_set hv)
theorem gvs_nil : GVs X vs [] nilT := PGsweak pgs_nil fun us σ H Q ⟨w, e, M, xs, r, re, d, p⟩ => by
  unfold nilT at p
  split at p
  · cases d; exact ⟨rfl, p.at r re rfl⟩
  · exact p.elim
theorem gvs_cons {tg : Expr} {tgs : List Expr} {γ : Tg} {δ : Tgs} (h1 : GV X vs tg γ) (h2 : GVs X vs tgs δ) (hs : (assignEach (tg :: tgs) X.env).map (·.2) = assign tg X.env :: (assignEach tgs X.env).map (·.2) := by rfl) : GVs X vs (tg :: tgs) (consT γ δ) :=
  PGsweak (pgs_cons h1 h2 hs) fun us σ H Q ⟨w, e, M, xs, r, re, d, p⟩ => by
    unfold consT at p
    split at p
    · cases d with
      | cons d1 d2 =>
        exact ⟨_, _, rfl, w, e, M, .d _, r, re, d1, p.bind fun e1 M1 w1 σ1 H1 l1 r1 re1 p1 hw => ⟨w1, e1, M1, _, r1, re1, d2.up l1.2, by
          cases q : δ _ e1 M1 with
          | ok e2 M2 => rw [q] at p1; exact fun w' σ' H' l a b hw' => p1 w' σ' H' l a b (hw'.trans hw)
          | er C fs M2 => rw [q] at p1; exact fun w' d H' l a b => p1 w' d H' l a b
          | st => rw [q] at p1; exact p1.elim⟩⟩
    · exact p.elim
theorem gv_tup {es : List Expr} {k n : Nat} {δ : Tgs} (hc : X.calm = true) (h : GVs X vs es δ) (hn : (assignEach es X.env).length = n := by rfl) (hst : (assignEach es X.env).findIdx? (·.1) = none := by rfl) : GV X vs (.Tuple es k pos) (tupT n δ) :=
  PGweak (pg_tup hc h hn hst) fun v σ H Q ⟨w, e, M, x, r, re, rv, p⟩ => by
    unfold tupT at p
    split at p
    · rename_i xs hx
      split at p
      · rename_i hl
        obtain ⟨q, us, rfl, hs, d⟩ := tup_at r rv hx
        exact ⟨q, us, rfl, hs, by rw [d.len]; exact hl, w, e, M, xs, r, re, d, p⟩
      · exact p.elim
    · exact p.elim
/-- a comprehension's tests -/
def DTs (X : Cx) (ifs : List Expr) (f : Env → Mem → Res Bool) : Prop := PTs X ifs (tT X.K W0 f)
theorem dts_nil : DTs X [] (fun _ M => .ok true M) := ⟨fun pins s σ H Q I ⟨w, e, M, r, re, p⟩ => pts_nil.run pins s σ H Q I (p.at r rfl)⟩
theorem dts_one {c : Expr} {f : Env → Mem → Res Bool} (h : DT X W0 c f) : DTs X [c] f := pts_one h
def lcL (γ : Tg) (t : Env → Mem → Res Bool) (h : Ev) (ew : Env) : List PyData → List PyData → Mem → Res (List PyData)
  | [], acc, M => .ok acc M
  | x :: xs, acc, M => match γ (.d x) ew M with
    | .ok e1 M1 => match t e1 M1 with
      | .ok true M2 => match h e1 M2 with
        | .ok (.d y) M3 => if acc.length < sizeLine then lcL γ t h ew xs (acc ++ [y]) M3 else .st
        | _ => .st
      | .ok false M2 => lcL γ t h ew xs acc M2
      | _ => .st
    | _ => .st
def lcE (vs : List Nat) (f : Ei) (γ : Tg) (t : Env → Mem → Res Bool) (h : Ev) : Env → Mem → Res (List PyData) := fun e M => (f e M).bind fun xs M1 => lcL γ t h (ewipe e vs) xs [] M1
/-- the heap without p -/
def off (H : Hp) (p : Addr) : Hp := fun b => if b = p then none else H b
theorem off_ne {H : Hp} {p b : Addr} (h : b ≠ p) : off H p b = H b := if_neg h
theorem upd_off {H : Hp} {p : Addr} {o : HO} (h : H p = some o) : upd (off H p) p o = H := by
  funext b
  by_cases hb : b = p
  · subst hb; rw [upd_same, h]
  · rw [upd_ne hb, off_ne hb]
theorem Rel.drop {K : Frag} {w : Wd} {M : Mem} {H : Hp} (r : Rel K w M H) {p : Addr} (hF : w.F p = none) (hA : p ∉ w.as) {P : Hp} (hP : ∀ a o, P a = some o → w.P a = some o) (h0 : P p = none) : Rel K ⟨w.as, w.F, P⟩ M (off H p) := by
  refine ⟨fun a u e => ?_, r.len, r.nd, fun a u e => ?_, fun i a m e1 e2 => ?_⟩
  · rw [off_ne (ne_of_none e hF)]; exact r.sub a u e
  · rw [off_ne (ne_of_none e h0)]; exact r.pin a u (hP a u e)
  · have ha : a ≠ p := fun z => hA (z ▸ List.mem_of_getElem? e1)
    rw [off_ne ha]
    have q := r.ob i a m e1 e2
    cases m with
    | gone => exact q
    | lst xs => exact q
theorem RV.reP {K : Frag} {w : Wd} {P : Hp} : ∀ {x : Vl} {v : V}, RV K w x v → RV K ⟨w.as, w.F, P⟩ x v
  | .d _, _, h => h
  | .h _, _, h => h
  | .a _, _, h => h
  | .t _, _, h => h
  | .s _, _, h => h
theorem RE.upP {K : Frag} {w w' : Wd} {e : Env} {σ : L2.St} (h : RE K w e σ) (h1 : w.as <+: w'.as) (h2 : ∀ a o, w.F a = some o → w'.F a = some o) : RE K w' e σ :=
  ⟨h.len, fun i x q => let ⟨v, a, b⟩ := h.get i x q; ⟨v, a, (RV.up (w' := ⟨w'.as, w'.F, w.P⟩) ⟨h1, h2, rfl⟩ b).reP⟩⟩
theorem lc_imp {own : List (Str × Nat)} {f : Ei} {γ : Tg} {t : Env → Mem → Res Bool} {h : Ev} {K : Frag} (σ : L2.St) (H : Hp) (Q : VK)
    (hq : tG K W (fun w xs vs => DpAll K w.F vs xs) (lcE (own.map (·.2)) f γ t h) σ H fun vs H1 => ∀ p, H1 p = none → Q (.ref p) (upd H1 p (.lst vs))) :
    tLc (fun σ H R => tG K W (IsIt K) f σ H R) (tTv K (List.map (fun x : Str × Nat => x.2) own) γ) (tT K W0 t) (tE K W0 h) (own.map (·.2)) σ H Q := by
  obtain ⟨w, e, M, r, re, p⟩ := hq
  exact ⟨w, e, M, r, re, p.bind fun xs M1 w1 J H1 l1 r1 hit p1 D hD => by
    obtain ⟨hDa, hDF⟩ := r1.new hD
    have hw1P : w1.P D = none := by
      cases q : w1.P D with
      | none => rfl
      | some o => rw [(r1.pin _ _ q).1] at hD; cases hD
    refine lc_it (g := tTv K (own.map (·.2)) γ) (tt := tT K W0 t) (te := tE K W0 h) (vs := own.map (·.2)) (σ := σ) hit (fun i H => ∃ (w2 : Wd) (M2 : Mem) (acc : List PyData) (us : List V), w1.as <+: w2.as ∧ (∀ a o, w1.F a = some o → w2.F a = some o) ∧ w2.P = upd w1.P D (.lst us) ∧ Rel K w2 M2 H ∧ DpAll K w2.F us acc ∧
      Post K (WE W σ) (fun w xs vs => DpAll K w.F vs xs) w1 (lcL γ t h (ewipe e (own.map (·.2))) (xs.drop i) acc M2) fun us H1 => ∀ p, H1 p = none → Q (.ref p) (upd H1 p (.lst us))) ?_ (fun i H _ ⟨w2, M2, acc, us, q1, q2, _, r2, _⟩ a o q => r2.sub _ _ (q2 _ _ q)) ?_ ?_
    · exact ⟨⟨w1.as, w1.F, upd w1.P D (.lst [])⟩, M1, [], [], List.prefix_refl _, fun _ _ q => q, rfl, r1.aside hDF hDa, .nil, p1⟩
    · rintro i x H H' hi ⟨w2, M2, acc, us, q1, q2, q3, r2, d2, p2⟩ ⟨d, hd, hx⟩
      have e1 : xs.drop i = d :: xs.drop (i + 1) := by
        rw [List.drop_eq_getElem_cons hi]
        rw [List.getElem?_eq_getElem hi] at hd
        rw [Option.some.inj hd]
      rw [e1] at p2
      unfold lcL at p2
      have go : ∀ w3, w2.le w3 → Rel K w3 M2 H' → Dp K w3.F x d → tTv K (own.map (·.2)) γ x (wipe σ (own.map (·.2))) H' fun σ2 H2 => wipe σ2 (own.map (·.2)) = wipe σ (own.map (·.2)) ∧ tT K W0 t σ2 H2 fun b H3 =>
          if b = true then tE K W0 h σ2 H3 fun y H4 => ∃ acc, H4 D = some (.lst acc) ∧ acc.length < sizeLine ∧ ∃ (w2 : Wd) (M2 : Mem) (acc' : List PyData) (us : List V), w1.as <+: w2.as ∧ (∀ a o, w1.F a = some o → w2.F a = some o) ∧ w2.P = upd w1.P D (.lst us) ∧ Rel K w2 M2 (upd H4 D (.lst (acc ++ [y]))) ∧ DpAll K w2.F us acc' ∧
            Post K (WE W σ) (fun w xs vs => DpAll K w.F vs xs) w1 (lcL γ t h (ewipe e (own.map (·.2))) (xs.drop (i + 1)) acc' M2) fun us H1 => ∀ p, H1 p = none → Q (.ref p) (upd H1 p (.lst us))
          else ∃ (w2 : Wd) (M2 : Mem) (acc' : List PyData) (us : List V), w1.as <+: w2.as ∧ (∀ a o, w1.F a = some o → w2.F a = some o) ∧ w2.P = upd w1.P D (.lst us) ∧ Rel K w2 M2 H3 ∧ DpAll K w2.F us acc' ∧
            Post K (WE W σ) (fun w xs vs => DpAll K w.F vs xs) w1 (lcL γ t h (ewipe e (own.map (·.2))) (xs.drop (i + 1)) acc' M2) fun us H1 => ∀ p, H1 p = none → Q (.ref p) (upd H1 p (.lst us)) := fun w3 l3 r3 dx => by
        refine ⟨w3, ewipe e (own.map (·.2)), M2, .d d, r3, ((re.up l1).wiped _).upP (q1.trans l3.1) (fun a o q => l3.2 _ _ (q2 _ _ q)), dx, ?_⟩
        cases hγ : γ (.d d) (ewipe e (own.map (·.2))) M2 with
        | st => rw [hγ] at p2; exact p2.elim
        | er C fs M3 => rw [hγ] at p2; exact p2.elim
        | ok e3 M3 =>
          rw [hγ] at p2
          dsimp only at p2
          intro w4 σ4 H4 l4 r4 re4 hw4
          rw [wipe_wipe] at hw4
          refine ⟨hw4, w4, e3, M3, r4, re4, ?_⟩
          cases ht3 : t e3 M3 with
          | st => rw [ht3] at p2; exact p2.elim
          | er C fs M4 => rw [ht3] at p2; exact p2.elim
          | ok b M4 =>
            rw [ht3] at p2
            intro w5 b' H5 l5 r5 eb
            have eb : b = b' := eb
            subst eb
            cases b with
            | false =>
              dsimp only at p2
              rw [if_neg Bool.false_ne_true]
              have ll := (l3.trans l4).trans l5
              exact ⟨w5, M4, acc, us, q1.trans ll.1, fun a o q => ll.2 _ _ (q2 _ _ q), ll.3.trans q3, r5, d2.up ll.2, p2⟩
            | true =>
              dsimp only at p2
              rw [if_pos rfl]
              refine ⟨w5, e3, M4, r5, re4.up l5, ?_⟩
              cases hh : h e3 M4 with
              | st => rw [hh] at p2; exact p2.elim
              | er C fs M5 => rw [hh] at p2; exact p2.elim
              | ok y M5 =>
                rw [hh] at p2
                intro w6 v H6 l6 r6 rv
                cases y with
                | d y =>
                  dsimp only at p2
                  split at p2
                  · rename_i hz
                    have ll := ((l3.trans l4).trans l5).trans l6
                    have eP : w6.P = upd w1.P D (.lst us) := ll.3.trans q3
                    obtain ⟨g1, g2, g3⟩ := r6.pin D (.lst us) (by rw [eP, upd_same])
                    have d6 := d2.up ll.2
                    refine ⟨us, g1, by rw [d6.len]; exact hz, ⟨w6.as, w6.F, upd w6.P D (.lst (us ++ [v]))⟩, M5, acc ++ [y], us ++ [v], q1.trans ll.1, fun a o q => ll.2 _ _ (q2 _ _ q), ?_, r6.aside g2 g3, d6.app (.cons rv .nil), p2⟩
                    show upd w6.P D _ = _
                    rw [eP, upd_upd]
                  · exact p2.elim
                | h _ => exact p2.elim
                | a _ => exact p2.elim
                | t _ => exact p2.elim
                | s _ => exact p2.elim
      rcases hx with ⟨rfl, dx⟩ | ⟨T, o, hT, rfl, dx⟩
      · exact go w2 (Wd.le_refl _) r2 (Dp.up q2 _ _ dx)
      · have hF := (r2.new hT).2
        refine go (w2.fz T o) (Wd.le_fz hF) (r2.alloc hT o) (Dp.up (fun a u q => ?_) _ _ dx)
        show upd w2.F T o a = some u
        by_cases ha : a = T
        · subst ha; rw [upd_same] at q ⊢; exact q
        · rw [upd_ne ha] at q ⊢; exact q2 _ _ q
    · rintro H ⟨w2, M2, acc, us, q1, q2, q3, r2, d2, p2⟩
      rw [List.drop_length] at p2
      obtain ⟨g1, g2, g3⟩ := r2.pin D (.lst us) (by rw [q3, upd_same])
      have p2 : Post K (WE W σ) (fun w xs vs => DpAll K w.F vs xs) w1 (.ok acc M2) (fun us H1 => ∀ p, H1 p = none → Q (.ref p) (upd H1 p (.lst us))) := p2
      have r3 := r2.drop g2 g3 (P := w1.P) (fun a o q => by rw [q3, upd_ne (ne_of_none q hw1P)]; exact q) hw1P
      have k := p2 ⟨w2.as, w2.F, w1.P⟩ us _ ⟨q1, q2, rfl⟩ r3 d2 D (if_pos rfl)
      rw [upd_off g1] at k
      exact k⟩
theorem df_lc {elt tg iter : Expr} {ifs : List Expr} {scope : Scope} {own : List (Str × Nat)} {f : Ei} {γ : Tg} {t : Env → Mem → Res Bool} {h : Ev} (hc : X.calm = true) (hN : X.N.Nodup) (hi : DI X W tg iter f) (ok : BlkOk X.N X.env.scope scope own)
    (hg : ∀ (s : Shared) (H : Hp) (C : Addr) (cl : List (Str × Addr)) (fp : List Addr), GV (X.blk s H scope (compEnvC scope cl C X.env) fp) (own.map (·.2)) tg γ) (ht : ∀ (s : Shared) (H : Hp) (C : Addr) (cl : List (Str × Addr)) (fp : List Addr), DTs (X.blk s H scope (compEnvC scope cl C X.env) fp) ifs t)
    (he : ∀ (s : Shared) (H : Hp) (C : Addr) (cl : List (Str × Addr)) (fp : List Addr), DE (X.blk s H scope (compEnvC scope cl C X.env) fp) W0 elt h) (hs : ∀ x, foldedSetIterable iter X.env x = pure x := by intro _; rfl) :
    DF X W (.ListComp elt [⟨tg, iter, ifs, 0⟩] scope pos) (lcE (own.map (·.2)) f γ t h) :=
  PEweak (pe_lc (own := own) (g := tTv X.K (List.map (fun x : Str × Nat => x.2) own) γ) (tt := tT X.K W0 t) (te := tE X.K W0 h) hc hN hi ok hg ht he hs) fun σ H Q hq => lc_imp σ H Q hq
/-- name = [..] on one row, kept as data, kept under a handle -/
theorem ds_setLc {i : Nat} {y : Str} {py spos : Pos} {elt tg iter : Expr} {ifs : List Expr} {scope : Scope} {own : List (Str × Nat)} {f : Ei} {γ : Tg} {t : Env → Mem → Res Bool} {h : Ev} (hc : X.calm = true) (hN : X.N.Nodup) (hy : X.N[i]? = some y) (hyl : X.env.scope.names.lookup y = some .local)
    (hsw : swapsWith (.ListComp elt [⟨tg, iter, ifs, 0⟩] scope pos) (some (.Name y py)) spos.line X.env = pure true) (hi : DI X W tg iter f) (ok : BlkOk X.N X.env.scope scope own)
    (hg : ∀ (s : Shared) (H : Hp) (C : Addr) (cl : List (Str × Addr)) (fp : List Addr), GV (X.blk s H scope (compEnvC scope cl C X.env) fp) (own.map (·.2)) tg γ) (ht : ∀ (s : Shared) (H : Hp) (C : Addr) (cl : List (Str × Addr)) (fp : List Addr), DTs (X.blk s H scope (compEnvC scope cl C X.env) fp) ifs t)
    (he : ∀ (s : Shared) (H : Hp) (C : Addr) (cl : List (Str × Addr)) (fp : List Addr), DE (X.blk s H scope (compEnvC scope cl C X.env) fp) W0 elt h) (hs : ∀ x, foldedSetIterable iter X.env x = pure x := by intro _; rfl) :
    DS X W (.Assign [.Name y py] (.ListComp elt [⟨tg, iter, ifs, 0⟩] scope pos) spos) (setS i (datE (lcE (own.map (·.2)) f γ t h))) :=
  PSweak (ps_setLc (own := own) (g := tTv X.K (List.map (fun x : Str × Nat => x.2) own) γ) (tt := tT X.K W0 t) (te := tE X.K W0 h) hc hN hy hyl hsw hi ok hg ht he hs) fun D σ H ⟨w, e, M, r, re, p⟩ => by
    refine lc_imp (W := W) σ H _ ⟨w, e, M, r, re, ?_⟩
    have p : PostS X.K W w (lift (lcE (own.map (·.2)) f γ t h) (fun xs e M => .go .nx (e.set i (some (.d (.list xs)))) M) e M) D := by
      unfold setS lift datE at p
      unfold lift
      cases q : lcE (own.map (·.2)) f γ t h e M with
      | ok xs M1 => rw [q] at p; exact p
      | er C fs M1 => rw [q] at p; exact p
      | st => rw [q] at p; exact p
    exact p.of re fun xs M1 w1 vs H1 l1 r1 d1 p1 q hq =>
      PostS.nx (PostS.up (Wd.le_fz (r1.new hq).2) p1) (r1.alloc hq _) (((re.up l1).up (Wd.le_fz (r1.new hq).2)).set (x := .d (.list xs)) (Dp.lst upd_same (DpAll.up (Wd.le_fz (w := w1) (o := .lst vs) (r1.new hq).2).2 _ _ d1)) i)
theorem ds_setLcN {i : Nat} {y : Str} {py spos : Pos} {elt tg iter : Expr} {ifs : List Expr} {scope : Scope} {own : List (Str × Nat)} {f : Ei} {γ : Tg} {t : Env → Mem → Res Bool} {h : Ev} (hc : X.calm = true) (hN : X.N.Nodup) (hy : X.N[i]? = some y) (hyl : X.env.scope.names.lookup y = some .local)
    (hsw : swapsWith (.ListComp elt [⟨tg, iter, ifs, 0⟩] scope pos) (some (.Name y py)) spos.line X.env = pure true) (hi : DI X W tg iter f) (ok : BlkOk X.N X.env.scope scope own)
    (hg : ∀ (s : Shared) (H : Hp) (C : Addr) (cl : List (Str × Addr)) (fp : List Addr), GV (X.blk s H scope (compEnvC scope cl C X.env) fp) (own.map (·.2)) tg γ) (ht : ∀ (s : Shared) (H : Hp) (C : Addr) (cl : List (Str × Addr)) (fp : List Addr), DTs (X.blk s H scope (compEnvC scope cl C X.env) fp) ifs t)
    (he : ∀ (s : Shared) (H : Hp) (C : Addr) (cl : List (Str × Addr)) (fp : List Addr), DE (X.blk s H scope (compEnvC scope cl C X.env) fp) W0 elt h) (hs : ∀ x, foldedSetIterable iter X.env x = pure x := by intro _; rfl) :
    DS X W (.Assign [.Name y py] (.ListComp elt [⟨tg, iter, ifs, 0⟩] scope pos) spos) (setS i (newE (lcE (own.map (·.2)) f γ t h))) :=
  PSweak (ps_setLc (own := own) (g := tTv X.K (List.map (fun x : Str × Nat => x.2) own) γ) (tt := tT X.K W0 t) (te := tE X.K W0 h) hc hN hy hyl hsw hi ok hg ht he hs) fun D σ H ⟨w, e, M, r, re, p⟩ => by
    refine lc_imp (W := W) σ H _ ⟨w, e, M, r, re, ?_⟩
    have p : PostS X.K W w (lift (lcE (own.map (·.2)) f γ t h) (fun xs e M => .go .nx (e.set i (some (.h M.length))) (M ++ [.lst xs])) e M) D := by
      unfold setS lift newE at p
      unfold lift
      cases q : lcE (own.map (·.2)) f γ t h e M with
      | ok xs M1 => rw [q] at p; exact p
      | er C fs M1 => rw [q] at p; exact p
      | st => rw [q] at p; exact p
    exact p.of re fun xs M1 w1 vs H1 l1 r1 d1 p1 q hq =>
      PostS.nx (PostS.up Wd.le_add p1) (r1.fresh hq d1) (((re.up l1).up Wd.le_add).set (x := .h M1.length) ⟨q, by show (w1.as ++ [q])[M1.length]? = some q; rw [← r1.len, List.getElem?_append_right (Nat.le_refl _)]; simp, rfl⟩ i)
end
end DL

namespace DL
open PySem PySem.Spec L2
/-! ### defs -/
abbrev Fn := List Vl → Mem → Res Vl
/-- the promise of a def whose worth is m, for n arguments -/
def spD (K : Frag) (n : Nat) (m : Fn) : Sp := fun vs H Q E => vs.length = n ∧ ∃ (w : Wd) (M : Mem) (ds : List Vl), Rel K w M H ∧ RVs K w ds vs ∧ Post K E (RV K) w (m ds M) Q
/-- nothing is being shown around -/
abbrev GA (A : Around) : Prop := A.guards = some []
/-- L2's promise of a def, for calls from where nothing is being shown -/
structure FnG (P : Program) (w : World) (K : Frag) (mg : Str → Option Value) (base : Heap) (k : Nat) (f : Addr) (fd : FuncData) (ps : List Str) (sp : Sp) : Prop where
  len : ∀ vs H Q E, sp vs H Q E → vs.length = ps.length
  run : ∀ (A : Around) (outer : List PySem.Env) (s : Shared) (H : Hp) (args : Args) (us : List Value) (vs : List V) (Q : VK) (E : XK), Room k A → GA A → Env0 P w K mg base A outer s H → BindsTo s fd args (ps.zip us) → Vals vs us → sp vs H Q E →
    codeAny (model P w) A (.call (.ref f) args) (CR (L2.CX P w) outer P w H s Q E) s
theorem FnG.mono {P : Program} {w : World} {K : Frag} {mg : Str → Option Value} {base : Heap} {j k : Nat} {f : Addr} {fd : FuncData} {ps : List Str} {sp : Sp} (F : FnG P w K mg base j f fd ps sp) (h : j ≤ k) : FnG P w K mg base k f fd ps sp :=
  ⟨F.len, fun A outer s H args us vs Q E hr => F.run A outer s H args us vs Q E (hr.mono h)⟩
theorem FnG.imp {P : Program} {w : World} {K : Frag} {mg : Str → Option Value} {base : Heap} {k : Nat} {f : Addr} {fd : FuncData} {ps : List Str} {sp sp' : Sp} (F : FnG P w K mg base k f fd ps sp) (h : ∀ vs H Q E, sp' vs H Q E → sp vs H Q E) : FnG P w K mg base k f fd ps sp' :=
  ⟨fun vs H Q E q => F.len vs H Q E (h _ _ _ _ q), fun A outer s H args us vs Q E hr hg he hb hv hs => F.run A outer s H args us vs Q E hr hg he hb hv (h _ _ _ _ hs)⟩
abbrev FnD (P : Program) (w : World) (K : Frag) (mg : Str → Option Value) (base : Heap) (k : Nat) (f : Addr) (fd : FuncData) (ps : List Str) (m : Fn) : Prop := FnG P w K mg base k f fd ps (spD K ps.length m)
/-- a def that may be called by its name -/
structure Cald (P : Program) (w : World) (K : Frag) (mg : Str → Option Value) (base : Heap) (k : Nat) (x : Str) (n : Nat) (m : Fn) : Prop where
  ex : ∃ (f : Addr) (fd : FuncData) (ps : List Str), ps.length = n ∧ FnD P w K mg base k f fd ps m ∧ mg x = some (.ref f) ∧ PySem.W.keepIn K (.ref f) = true ∧ Binds K fd ps []
theorem Cald.mono {P : Program} {w : World} {K : Frag} {mg : Str → Option Value} {base : Heap} {j k : Nat} {x : Str} {n : Nat} {m : Fn} (c : Cald P w K mg base j x n m) (h : j ≤ k) : Cald P w K mg base k x n m := by
  obtain ⟨f, fd, ps, e, F, a, b, d⟩ := c.ex
  exact ⟨f, fd, ps, e, F.mono h, a, b, d⟩
/-- a function told otherwise: where the new one promises, it is the old one -/
def Le (m' m : Fn) : Prop := ∀ ds M, m' ds M = .st ∨ m' ds M = m ds M
theorem Cald.imp {P : Program} {w : World} {K : Frag} {mg : Str → Option Value} {base : Heap} {k : Nat} {x : Str} {n : Nat} {m m' : Fn} (c : Cald P w K mg base k x n m) (h : Le m' m) : Cald P w K mg base k x n m' := by
  obtain ⟨f, fd, ps, e, F, a, b, d⟩ := c.ex
  refine ⟨f, fd, ps, e, F.imp fun vs H Q E ⟨hl, w2, M, ds, r, rv, p⟩ => ⟨hl, w2, M, ds, r, rv, ?_⟩, a, b, d⟩
  rcases h ds M with q | q
  · rw [q] at p; exact p.elim
  · rw [← q]; exact p
def callF (n : Nat) (m : Fn) (f : Evs) : Ev := fun e M => (f e M).bind fun xs M1 => if xs.length = n then m xs M1 else .st
section
variable {X : Cx} {W : WX} {e : Expr} {es : List Expr} {p pos : Pos} {x : Str} {f : Evs} {k j n : Nat} {m : Fn}
theorem run_fnG {E : XK} {f' : Addr} {fd : FuncData} {ps : List Str} {sp : Sp} {ds : List Value} {dvs : List V} {pins : List (Addr × Obj)} {σ : L2.St} {H : Hp} {s : Shared} {Q : VK} {us : List Value} {vs : List V} (F : FnG X.prog X.w X.K X.mg X.base k f' fd ps sp) (hr : Room k X.A) (ga : GA X.A) (hb : Binds X.K fd ps []) (hx : PassesAt (L2.CX X.prog X.w) X σ E)
    (I : Inv X pins σ H s) (r : Vals vs us) (h : sp vs H Q E) : wpAny (model X.prog X.w) X.A (call (.ref f') us) (EP X pins σ Q) X.xe s := by
  have hl : (us ++ []).length = ps.length := by rw [List.append_nil, ← r.length]; exact F.len _ _ _ _ h
  have b := hb s us I.kIn hl
  rw [List.append_nil] at b
  refine wpAny_call (codeAny_mono (F.run X.A X.stack s H ⟨us, []⟩ us vs Q E hr ga I.env0 b r h) fun r s' hq => ?_)
  cases r with
  | error e => exact hx pins H s e s' I hq
  | ok fl =>
    cases fl with
    | ret u => exact I.after hq
    | next => exact False.elim hq
    | brk => exact False.elim hq
    | cont => exact False.elim hq
theorem de_call (c : Cald X.prog X.w X.K X.mg X.base k x n m) (hr : Room j X.A) (ga : GA X.A) (hk : k ≤ j) (tk : Takes X W) (hg : Gl X x) (ha : DA X W (e :: es) f)
    (hdb : (x == ("__debug__" : Str)) = false := by decide) (he : starEach (e :: es) X.env = (false, eval e X.env) :: starEach es X.env := by rfl) (hpl : (backTo pos (starEach es X.env)).any (·.1) = false := by rfl) :
    DE X W (.Call (.Name x p) (e :: es) [] pos) (callF n m f) := by
  obtain ⟨f', fd, ps, en, F, hm, kp, b⟩ := c.ex
  constructor
  intro pins s σ H Q I ⟨w, ev, M, r, re, q⟩
  refine wpAny_Call_Name_kw (ld_glob I hg hm ?_ hdb)
  refine PySem.W.callWith_K (h₀ := X.base) I.ok.mod.kin kp (thn (ha.run pos pins s σ H (fun vs H1 => spD X.K ps.length m vs H1 Q (WE W σ)) I ⟨w, ev, M, r, re, q.bind fun xs M1 w1 vs H1 l1 r1 rvs p1 => ?_⟩) fun us s1 ⟨vs, H1, I1, rr, q1⟩ => ⟨I1.kIn, ?_⟩) he hpl
  · split at p1
    · rename_i hl
      exact ⟨by rw [← rvs.len, hl, en], w1, M1, xs, r1, rvs, p1⟩
    · exact p1.elim
  · exact run_fnG (ds := []) (dvs := []) F (hr.mono hk) ga b (passAt tk σ) I1 rr q1
end
/-- the end of a def's body: the younger handles are forgotten, but for so many -/
def leave (n : Nat) : RS → Res Vl
  | .go (.rt (.h i)) _ M => if i < n then .ok (.h i) (M.take n) else .st
  | .go (.rt x) _ M => .ok x (M.take n)
  | .go .nx _ M => .ok (.d .none) (M.take n)
  | .er C fs _ M => .er C fs (M.take n)
  | _ => .st
def startE (N : Nat) (ds : List Vl) : Env := ds.map some ++ List.replicate (N - ds.length) none
/-- a def by its body: N names, keep handles that are handed out -/
def defM (N keep : Nat) (g : Sv) : Fn := fun ds M => leave (M.length + keep) (g (startE N ds) M)
theorem RE.start {K : Frag} {w : Wd} {ds : List Vl} {vs : List V} (h : RVs K w ds vs) (N : List Str) : RE K w (startE N.length ds) (L2.start N vs) := by
  refine ⟨by unfold startE L2.start; simp [h.len], fun i x q => ?_⟩
  unfold startE at q
  unfold L2.start
  have hi : i < ds.length := by
    by_cases hi : i < ds.length
    · exact hi
    · rw [List.getElem?_append_right (by simpa using hi), List.getElem?_replicate] at q
      split at q <;> cases q
  rw [List.getElem?_append_left (by simpa using hi), List.getElem?_map] at q
  cases hx : ds[i]? with
  | none => rw [hx] at q; cases q
  | some y =>
    rw [hx] at q
    cases q
    obtain ⟨v, h1, h2⟩ := h.get hx
    exact ⟨v, by rw [List.getElem?_append_left (by rw [List.length_map, ← h.len]; exact hi), List.getElem?_map, h1]; rfl, h2⟩
theorem cut_le {w w' : Wd} {n : Nat} (l : w.le w') (h : w.as.length ≤ n) : w.le ⟨w'.as.take n, w'.F, w'.P⟩ := by
  refine ⟨?_, l.2, l.3⟩
  obtain ⟨t, e⟩ := l.1
  rw [← e, List.take_append]
  rw [List.take_of_length_le h]
  exact List.prefix_append _ _
theorem leave_ok {K : Frag} {E : XK} {w : Wd} {M : Mem} {H : Hp} {r : RS} {Q : VK} {n : Nat} (hM : Rel K w M H) (hn : M.length ≤ n) (p : Post K E (RV K) w (leave n r) Q) : PostS K (fun c d _ H => E c d H) w r { nx := fun _ H' => Q .non H', rt := Q } := by
  have hl : w.as.length ≤ n := by rw [hM.len]; exact hn
  cases r with
  | st => exact p
  | er C fs e M' => exact fun w' σ d H' l r re xd => p ⟨w'.as.take n, w'.F, w'.P⟩ d H' (cut_le l hl) (r.cut n) xd
  | go f e M' =>
    cases f with
    | nx => exact fun w' σ H' l r re => p ⟨w'.as.take n, w'.F, w'.P⟩ .non H' (cut_le l hl) (r.cut n) .non
    | bk => exact p.elim
    | ct => exact p.elim
    | rt x =>
      intro w' v H' l r rv
      cases x with
      | h i =>
        unfold leave at p
        by_cases hi : i < n
        · have p : Post K E (RV K) w (if i < n then .ok (.h i) (M'.take n) else .st) Q := p
          rw [if_pos hi] at p
          refine p ⟨w'.as.take n, w'.F, w'.P⟩ v H' (cut_le l hl) (r.cut n) ?_
          obtain ⟨a, e1, e2⟩ := rv
          exact ⟨a, by show (w'.as.take n)[i]? = some a; rw [List.getElem?_take_of_lt hi]; exact e1, e2⟩
        · have p : Post K E (RV K) w (if i < n then .ok (.h i) (M'.take n) else .st) Q := p
          rw [if_neg hi] at p
          exact p.elim
      | d y => exact p ⟨w'.as.take n, w'.F, w'.P⟩ v H' (cut_le l hl) (r.cut n) rv
      | a y => exact p ⟨w'.as.take n, w'.F, w'.P⟩ v H' (cut_le l hl) (r.cut n) rv
      | t y => exact p ⟨w'.as.take n, w'.F, w'.P⟩ v H' (cut_le l hl) (r.cut n) rv
      | s y => exact p ⟨w'.as.take n, w'.F, w'.P⟩ v H' (cut_le l hl) (r.cut n) rv
section
variable {P : Program} {w : World} {K : Frag} {mg : Str → Option Value} {base : Heap}
/-- the context of a def's body -/
abbrev bodyX (P : Program) (w : World) (K : Frag) (mg : Str → Option Value) (base : Heap) (N : List Str) (qual : Str) (sc : Scope) (f : Addr) (cdv : Value) (A : Around) (outer : List PySem.Env) (s : Shared) (H : Hp) (E : XK) : Cx := cxOf (L2.CX P w) P w K mg base N qual sc f cdv A outer s H E
theorem body_takes {N : List Str} {qual : Str} {sc : Scope} {f : Addr} {cdv : Value} {A : Around} {outer : List PySem.Env} {s : Shared} {H : Hp} {E : XK} : Takes (bodyX P w K mg base N qual sc f cdv A outer s H E) (fun c d _ H => E c d H) := takes_of rfl rfl rfl rfl
open PyProof.Rows in
theorem fnG_of {f : Addr} {name qual : Str} {params : Arguments} {body : List Stmt} {scope : Scope} {dV kV doc pm cdv ct oc : Value} {an od : Option Addr} {osl : Array (Option Value)} {N ps : List Str} {k : Nat} {sp : Sp}
    (lk : K.lookup f = some ⟨oc, od, .func (PySem.W.fnOf name qual params body scope dV kV doc pm an cdv ct), osl⟩) (hcd : PySem.W.codeIn K cdv qual = true) (S : FnScope N ps scope) (len : ∀ vs H Q E, sp vs H Q E → vs.length = ps.length)
    (hbody : ∀ (A : Around) (outer : List PySem.Env) (s : Shared) (H : Hp) (vs : List V) (Q : VK) (E : XK), Room k (A.deeper (PyProof.Rows.envOfC qual scope s.heap.objs.size f cdv)) → GA (A.deeper (PyProof.Rows.envOfC qual scope s.heap.objs.size f cdv)) → sp vs H Q E →
      ∃ t, PSs (bodyX P w K mg base N qual scope f cdv A outer s H E) body t ∧ t { nx := fun _ H' => Q .non H', rt := Q } (L2.start N vs) H) :
    FnG P w K mg base (k + 1) f (PySem.W.fnOf name qual params body scope dV kV doc pm an cdv ct) ps sp := by
  refine ⟨len, fun A outer s H args us vs Q E hr hga e0 hb r hsp => ?_⟩
  have hl := len _ _ _ _ hsp
  have KX : K.In s.heap := e0.mod.kin.keeps fun b o e => (e0.bs b o e).1
  have lim : s.heap.NoLimit := e0.mod.nolimit.keeps fun b o e => (e0.bs b o e).1
  have hkind : ∀ y ∈ ps.zip us, scope.names.lookup y.1 = some .local ∨ (scope.names.lookup y.1 = some .cell ∧ ((cellsFrom (s.heap.objs.size + 1) scope.names []).lookup y.1).isSome = true) := fun y hy => by
    rcases S.par y.1 (List.of_mem_zip (show (y.1, y.2) ∈ ps.zip us from hy)).1 with q | q
    · exact .inl q
    · exact .inr ⟨q, PySem.W.cellsFrom_some _ _ _ (.inl q)⟩
  refine codeAny_call_function hr.depth (KX _ _ lk) rfl S.co S.gen rfl (PySem.W.codeRec_of KX hcd) (hb _ _ _ _ ?_)
  refine wpAny_newFunctionEnv_cells S.kind hkind fun env he s1 x => ?_
  subst he
  refine ⟨lim.keeps x.toInCall.keep, codeAny_func ?_⟩
  obtain ⟨t, ht, hq⟩ := hbody A outer s H vs Q E (hr.deeper _) hga hsp
  have I : Inv (bodyX P w K mg base N qual scope f cdv A outer s H E) [] (L2.start N vs) H s1 := inv_start S hr.hd e0 hl r x
  refine wpAny_mono (ht.run [] s1 (L2.start N vs) H _ I hq) (fun fl s' hs => ?_) fun e s' hs => hs
  cases fl with
  | ret u =>
    obtain ⟨v, σ', H', J, rv, q⟩ := hs
    exact ⟨v, H', J.os, J.bare, J.base, J.hok, rv, q⟩
  | next =>
    obtain ⟨σ', H', J, q⟩ := hs
    exact ⟨V.non, H', J.os, J.bare, J.base, J.hok, rfl, q⟩
  | brk =>
    obtain ⟨_, _, _, q⟩ := hs
    exact q.elim
  | cont =>
    obtain ⟨_, _, _, q⟩ := hs
    exact q.elim
/-- no error comes to a comprehension's turn -/
theorem takesW0 {X : Cx} : Takes X W0 := takes0
end
end DL

namespace DL
open PySem PySem.Spec L2
/-! ### calls with keywords -/
/-- items by their places -/
def permL {α : Type} (q : List Nat) (l : List α) : List α := q.filterMap fun i => l[i]?
theorem perm_vals {vs : List V} {us : List Value} (h : Vals vs us) : ∀ q : List Nat, Vals (permL q vs) (permL q us)
  | [] => .nil
  | i :: q => by
    unfold permL
    cases e : vs[i]? with
    | none => rw [List.filterMap_cons_none e, List.filterMap_cons_none (h.none_of e)]; exact perm_vals h q
    | some v =>
      obtain ⟨u, e2, r⟩ := h.get e
      rw [List.filterMap_cons_some e, List.filterMap_cons_some e2]
      exact .cons r (perm_vals h q)
theorem perm_rvs {K : Frag} {w : Wd} {xs : List Vl} {vs : List V} (h : RVs K w xs vs) : ∀ q : List Nat, RVs K w (permL q xs) (permL q vs)
  | [] => .nil
  | i :: q => by
    unfold permL
    cases e : xs[i]? with
    | none =>
      have e2 : vs[i]? = none := by
        have := List.getElem?_eq_none_iff.mp e
        exact List.getElem?_eq_none_iff.mpr (by rw [← h.len]; exact this)
      rw [List.filterMap_cons_none e, List.filterMap_cons_none e2]; exact perm_rvs h q
    | some v =>
      obtain ⟨u, e2, r⟩ := h.get e
      rw [List.filterMap_cons_some e, List.filterMap_cons_some e2]
      exact .cons r (perm_rvs h q)
/-- so many positional values and these keywords bind to the parameters, by q -/
structure KwB (K : Frag) (fd : FuncData) (ps ks : List Str) (n : Nat) (q : List Nat) : Prop where
  to : ∀ (s : Shared) (us ws : List Value), K.In s.heap → us.length = n → ws.length = ks.length → BindsTo s fd ⟨us, ks.zip ws⟩ (ps.zip (permL q (us ++ ws)))
structure CaldK (P : Program) (w : World) (K : Frag) (mg : Str → Option Value) (base : Heap) (k : Nat) (x : Str) (n : Nat) (ks : List Str) (q : List Nat) (m : Fn) : Prop where
  ex : ∃ (f : Addr) (fd : FuncData) (ps : List Str), ps.length = q.length ∧ FnD P w K mg base k f fd ps m ∧ mg x = some (.ref f) ∧ PySem.W.keepIn K (.ref f) = true ∧ KwB K fd ps ks n q
theorem CaldK.mono {P : Program} {w : World} {K : Frag} {mg : Str → Option Value} {base : Heap} {j k n : Nat} {x : Str} {ks : List Str} {q : List Nat} {m : Fn} (c : CaldK P w K mg base j x n ks q m) (h : j ≤ k) : CaldK P w K mg base k x n ks q m := by
  obtain ⟨f, fd, ps, e, F, a, b, d⟩ := c.ex
  exact ⟨f, fd, ps, e, F.mono h, a, b, d⟩
theorem CaldK.imp {P : Program} {w : World} {K : Frag} {mg : Str → Option Value} {base : Heap} {k n : Nat} {x : Str} {ks : List Str} {q : List Nat} {m m' : Fn} (c : CaldK P w K mg base k x n ks q m) (h : Le m' m) : CaldK P w K mg base k x n ks q m' := by
  obtain ⟨f, fd, ps, e, F, a, b, d⟩ := c.ex
  refine ⟨f, fd, ps, e, F.imp fun vs H Q E ⟨hl, w2, M, ds, r, rv, p⟩ => ⟨hl, w2, M, ds, r, rv, ?_⟩, a, b, d⟩
  rcases h ds M with z | z
  · rw [z] at p; exact p.elim
  · rw [← z]; exact p
def DK (X : Cx) (W : WX) (ks : List Keyword) (f : Evs) : Prop := PK X ks (tA X.K W f)
theorem PKweak {X : Cx} {e : List Keyword} {t t' : TA} (h : PK X e t) (k : ∀ σ H Q, t' σ H Q → t σ H Q) : PK X e t' := ⟨fun pos pins s σ H Q I q => h.run pos pins s σ H Q I (k σ H Q q)⟩
section
variable {X : Cx} {W : WX} {e : Expr} {es : List Expr} {kws : List Keyword} {p pos kpos : Pos} {x : Str} {f g : Evs} {h : Ev} {k j n : Nat} {m : Fn} {ks : List Str} {q : List Nat} {nm : Option Str}
theorem dk_nil : DK X W [] nilA := PKweak pk_nil fun σ H Q ⟨w, e, M, r, re, p⟩ => p.at r .nil
theorem dk_cons (ha : DE X W e h) (hr : DK X W kws g) : DK X W (⟨nm, e, kpos⟩ :: kws) (consA h g) :=
  PKweak (pk_cons ha hr) fun σ H Q ⟨w, e, M, r, re, p⟩ =>
    ⟨w, e, M, r, re, p.bind fun x M1 w1 v H1 l1 r1 rv p1 =>
      ⟨w1, e, M1, r1, re.up l1, p1.bind fun xs M2 w2 vs H2 l2 r2 rvs p2 => p2.at r2 (.cons (rv.up l2) rvs)⟩⟩
def callK (n k : Nat) (q : List Nat) (m : Fn) (f g : Evs) : Ev := fun e M => (f e M).bind fun xs M1 => (g e M1).bind fun ys M2 =>
  if xs.length = n ∧ ys.length = k ∧ (permL q (xs ++ ys)).length = q.length then m (permL q (xs ++ ys)) M2 else .st
theorem run_fnKS {E : XK} {f' : Addr} {fd : FuncData} {ps : List Str} {sp : Sp} {pins : List (Addr × Obj)} {σ : L2.St} {H : Hp} {s : Shared} {Q : VK} {us ws : List Value} {vs zs : List V} (F : FnG X.prog X.w X.K X.mg X.base k f' fd ps sp) (hr : Room k X.A) (ga : GA X.A) (hb : KwB X.K fd ps ks n q) (hx : PassesAt (L2.CX X.prog X.w) X σ E)
    (I : Inv X pins σ H s) (r : Vals vs us) (rz : Vals zs ws) (hn : vs.length = n) (hk : zs.length = ks.length) (hs : sp (permL q (vs ++ zs)) H Q E) : wpAny (model X.prog X.w) X.A (call (.ref f') us (ks.zip ws)) (EP X pins σ Q) X.xe s := by
  have r2 := perm_vals (r.append rz) q
  refine wpAny_call (codeAny_mono (F.run X.A X.stack s H ⟨us, ks.zip ws⟩ (permL q (us ++ ws)) (permL q (vs ++ zs)) Q E hr ga I.env0 (hb.to s us ws I.kIn (by rw [← r.length]; exact hn) (by rw [← rz.length]; exact hk)) r2 hs) fun r s' hq => ?_)
  cases r with
  | error e => exact hx pins H s e s' I hq
  | ok fl =>
    cases fl with
    | ret u => exact I.after hq
    | next => exact False.elim hq
    | brk => exact False.elim hq
    | cont => exact False.elim hq
theorem de_callK (c : CaldK X.prog X.w X.K X.mg X.base k x n ks q m) (hr : Room j X.A) (ga : GA X.A) (hj : k ≤ j) (tk : Takes X W) (hg : Gl X x) (ha : DA X W (e :: es) f) (hkw : DK X W kws g)
    (hall : (backToKw pos (keywordEach kws X.env)).all (·.1.isSome) = true := by rfl) (hks : (backToKw pos (keywordEach kws X.env)).filterMap (·.1) = ks := by rfl)
    (hdb : (x == ("__debug__" : Str)) = false := by decide) (he : starEach (e :: es) X.env = (false, eval e X.env) :: starEach es X.env := by rfl)
    (hpl : ((backTo pos (starEach (e :: es) X.env)).any (·.1) || (backToKw pos (keywordEach kws X.env)).any (·.1.isNone)) = false := by rfl) :
    DE X W (.Call (.Name x p) (e :: es) kws pos) (callK n ks.length q m f g) := by
  obtain ⟨f', fd, ps, en, F, hm, kp, b⟩ := c.ex
  constructor
  intro pins s σ H Q I ⟨w, ev, M, r, re, p⟩
  refine wpAny_Call_Name_kw (ld_glob I hg hm ?_ hdb)
  refine PySem.W.callWith_KW (h₀ := X.base) I.ok.mod.kin kp hall (thn (ha.run pos pins s σ H _ I ⟨w, ev, M, r, re, p.bind fun xs M1 w1 vs H1 l1 r1 rv p1 => (⟨w1, ev, M1, r1, re.up l1, p1.bind fun ys M2 w2 zs H2 l2 r2 rz p2 => ?_⟩ : tA X.K W g σ H1 fun zs H2 => vs.length = n ∧ zs.length = ks.length ∧ spD X.K ps.length m (permL q (vs ++ zs)) H2 Q (WE W σ))⟩) fun us s1 ⟨vs, H1, I1, rr, q1⟩ => ?_) hpl he
  · split at p2
    · rename_i hl
      have ra := RVs.app (rv.up l2) rz
      refine ⟨by rw [← rv.len]; exact hl.1, by rw [← rz.len]; exact hl.2.1, ?_, w2, M2, _, r2, perm_rvs ra q, p2⟩
      rw [← (perm_rvs ra q).len, hl.2.2, en]
    · exact p2.elim
  · refine thn (hkw.run pos pins s1 σ H1 _ I1 q1) fun ws s2 ⟨zs, H2, I2, rz, q2⟩ => ⟨I2.kIn, ?_⟩
    rw [hks]
    exact run_fnKS F (hr.mono hj) ga b (passAt tk σ) I2 rr rz q2.1 q2.2.1 q2.2.2
theorem de_callK0 (c : CaldK X.prog X.w X.K X.mg X.base k x 0 ks q m) (hr : Room j X.A) (ga : GA X.A) (hj : k ≤ j) (tk : Takes X W) (hg : Gl X x) (hkw : DK X W kws g)
    (hall : (backToKw pos (keywordEach kws X.env)).all (·.1.isSome) = true := by rfl) (hks : (backToKw pos (keywordEach kws X.env)).filterMap (·.1) = ks := by rfl)
    (hdb : (x == ("__debug__" : Str)) = false := by decide)
    (hpl : ((backTo pos (starEach [] X.env)).any (·.1) || (backToKw pos (keywordEach kws X.env)).any (·.1.isNone)) = false := by rfl) :
    DE X W (.Call (.Name x p) [] kws pos) (callK 0 ks.length q m nilA g) := by
  obtain ⟨f', fd, ps, en, F, hm, kp, b⟩ := c.ex
  constructor
  intro pins s σ H Q I ⟨w, ev, M, r, re, p⟩
  refine wpAny_Call_Name_kw (ld_glob I hg hm ?_ hdb)
  have p : Post X.K (WE W σ) (RV X.K) w ((g ev M).bind fun ys M2 => if ([] : List Vl).length = 0 ∧ ys.length = ks.length ∧ (permL q ([] ++ ys)).length = q.length then m (permL q ([] ++ ys)) M2 else .st) Q := p
  refine PySem.W.callWith_KW0 (h₀ := X.base) I.ok.mod.kin kp hall (thn (hkw.run pos pins s σ H (fun zs H2 => zs.length = ks.length ∧ spD X.K ps.length m (permL q ([] ++ zs)) H2 Q (WE W σ)) I ⟨w, ev, M, r, re, p.bind fun ys M2 w2 zs H2 l2 r2 rz p2 => ?_⟩) fun ws s2 ⟨zs, H2, I2, rz, q2⟩ => ⟨I2.kIn, ?_⟩) hpl
  · split at p2
    · rename_i hl
      refine ⟨by rw [← rz.len]; exact hl.2.1, ?_, w2, M2, _, r2, perm_rvs (show RVs X.K w2 ([] ++ ys) ([] ++ zs) from rz) q, p2⟩
      rw [← (perm_rvs (show RVs X.K w2 ([] ++ ys) ([] ++ zs) from rz) q).len, hl.2.2, en]
    · exact p2.elim
  · rw [hks]
    exact run_fnKS F (hr.mono hj) ga b (passAt tk σ) I2 .nil rz rfl q2.1 q2.2
end
/-! ### a def as the head's facts tell it -/
section
variable {P : Program} {w : World} {K : Frag} {mg : Str → Option Value} {base : Heap} {x qual : Str} {st : Stmt} {f : Addr} {fd : FuncData} {N ps : List Str} {k keep : Nat} {g : Sv}
abbrev FunT (K : Frag) (x qual : Str) (st : Stmt) (f : Addr) (fd : FuncData) : Prop := FunD K x qual (defArgs st) (defBody st) (defScope st) [] [] f fd
theorem fnDD (F : FunT K x qual st f fd) (S : FnScope N ps (defScope st))
    (hb : ∀ (cdv : Value) (A : Around) (outer : List PySem.Env) (s : Shared) (H : Hp) (E : XK), Room k (A.deeper (PyProof.Rows.envOfC qual (defScope st) s.heap.objs.size f cdv)) → GA (A.deeper (PyProof.Rows.envOfC qual (defScope st) s.heap.objs.size f cdv)) →
      DSs (bodyX P w K mg base N qual (defScope st) f cdv A outer s H E) (fun c d _ H => E c d H) (defBody st) g) : FnD P w K mg base (k + 1) f fd ps (defM N.length keep g) := by
  obtain ⟨oc, od, dV, kV, doc, pm, an, cdv, ct, osl, rfl, lk, hcd, _, _⟩ := F.ex
  refine fnG_of lk hcd S (fun vs H Q E h => h.1) fun A outer s H vs Q E hr ga ⟨hl, w2, M, ds, r, rv, p⟩ => ?_
  exact ⟨_, hb cdv A outer s H E hr ga, w2, startE N.length ds, M, r, RE.start rv N, leave_ok r (Nat.le_add_right _ _) p⟩
theorem cald_of {m : Fn} (F : FunT K x qual st f fd) (hm : mg x = some (.ref f)) (ok : FnD P w K mg base k f fd ps m)
    (h : ∀ (kV doc pm : Value) (an : Option Addr) (cdv ct : Value) (us : List Value), us.length = ps.length → bindArgs (PySem.W.fnOf x qual (defArgs st) (defBody st) (defScope st) .none kV doc pm an cdv ct) ⟨us, []⟩ = pure (ps.zip us)) : Cald P w K mg base k x ps.length m :=
  ⟨f, fd, ps, rfl, ok, hm, F.kp, FunD.bindsN F h⟩
theorem caldK_of {m : Fn} {n : Nat} {ks : List Str} {q : List Nat} (F : FunT K x qual st f fd) (hm : mg x = some (.ref f)) (ok : FnD P w K mg base k f fd ps m) (hq : ps.length = q.length)
    (h : ∀ (kV doc pm : Value) (an : Option Addr) (cdv ct : Value) (us ws : List Value), us.length = n → ws.length = ks.length → bindArgs (PySem.W.fnOf x qual (defArgs st) (defBody st) (defScope st) .none kV doc pm an cdv ct) ⟨us, ks.zip ws⟩ = pure (ps.zip (permL q (us ++ ws)))) : CaldK P w K mg base k x n ks q m := by
  refine ⟨f, fd, ps, hq, ok, hm, F.kp, ⟨fun s us ws hK h1 h2 => ?_⟩⟩
  obtain ⟨oc, od, dV, kV, doc, pm, an, cdv, ct, osl, rfl, lk, hcd, hD, hW⟩ := F.ex
  rcases hD with ⟨_, rfl⟩ | ⟨e, _⟩
  · exact .of_eq (h kV doc pm an cdv ct us ws h1 h2)
  · exact absurd rfl e
end
/-! ### the law's end -/
section
variable {P : Program} {w : World} {K : Frag} {mg mb : Str → Option Value} {k : Nat} {fa a : Addr} {fd : FuncData} {x : Str} {sp : Sp} {s1 : Shared} {vs : List Value} {H : Hp}
/-- the heap without the script holds what the top has left -/
theorem hid_env (KX : K.In s1.heap) (hns : s1.heap.Ns mainGlobals mg) (hb : s1.heap.Ns builtinsNs mb) (hbb : ∀ x : Str, x ≠ "__name__" → mb x = bootBuiltins x) (hlim : s1.heap.NoLimit) (hg : s1.gens = #[])
    (ha : s1.heap.get? a = some { cls := .type "list", data := .seq vs.toArray }) (hok : HOk P w H s1.heap) (hA : ∀ b u, H b = some u → b = a) (hK : ∀ u, H a = some u → K.lookup a = none) :
    K.In (hidT s1.heap H) ∧ (hidT s1.heap H).Ns mainGlobals mg ∧ Env0 P w K mg (hidT s1.heap H) callerA [] s1 H := by
  have free : ∀ (b : Addr) (o : Obj) (es : Array DictEntry) (ep : Nat), s1.heap.get? b = some o → o.data = .dict es ep → H b = none := fun b o es ep e d => by
    cases q : H b with
    | none => rfl
    | some u =>
      rw [hA b u q, ha] at e
      cases e
      cases d
  have keepN : ∀ (b : Addr) (m : Str → Option Value), s1.heap.Ns b m → (hidT s1.heap H).Ns b m := by
    rintro b m ⟨o, es, ep, e, d, r⟩
    exact ⟨o, es, ep, hidT_get e (free b o es ep e d), d, r⟩
  have keepK : K.In (hidT s1.heap H) := fun b o e => hidT_get (KX b o e) (by
    cases q : H b with
    | none => rfl
    | some u =>
      have z := hA b u q
      subst z
      rw [hK u q] at e
      cases e)
  obtain ⟨mc, l1, l2⟩ := hlim
  exact ⟨keepK, keepN _ _ hns, ⟨rfl, ⟨keepK, keepN _ _ hns, ⟨mb, keepN _ _ hb, hbb⟩, ⟨mc, keepN _ _ l1, l2⟩⟩, fun b o e => of_hidT e, Nat.le_of_eq (hidT_size _ _), trivial, (fun b z => absurd (show b ∈ ([] : List Addr) from z) (by simp)), hok, PyProof.Rows.AllBare.of_eq hg⟩⟩
open PyProof.Rows in
theorem law_at (KX : K.In s1.heap) (hns : s1.heap.Ns mainGlobals mg) (hb : s1.heap.Ns builtinsNs mb) (hbb : ∀ x : Str, x ≠ "__name__" → mb x = bootBuiltins x) (hlim : s1.heap.NoLimit) (hg : s1.gens = #[])
    (ha : s1.heap.get? a = some { cls := .type "list", data := .seq vs.toArray }) (hok : HOk P w H s1.heap) (hA : ∀ b u, H b = some u → b = a) (hK : ∀ u, H a = some u → K.lookup a = none) (hO : Only H) (hr : Room k callerA)
    (F : ∀ base : Heap, K.In base → base.Ns mainGlobals mg → FnG P w K mg base k fa fd [x] sp) (hbind : ∀ (s : Shared) (u : Value), BindsTo s fd ⟨[u], []⟩ [(x, u)])
    (hsp : sp [.ref a] H (fun v _ => v = .bl true) fun _ _ _ => False) :
    codeAny (model P w) callerA (.call (.ref fa) ⟨[.ref a], []⟩) (fun r s' => r = .ok (.ret (.bool true)) ∧ OldK s1.heap s'.heap ∧ s'.os = s1.os ∧ AllBare s'.gens) s1 := by
  obtain ⟨h1, h2, e0⟩ := hid_env KX hns hb hbb hlim hg ha hok hA hK
  refine codeAny_mono ((F _ h1 h2).run callerA [] s1 H ⟨[.ref a], []⟩ [.ref a] [.ref a] _ _ hr rfl e0 (hbind s1 (.ref a)) (.cons rfl .nil) hsp) fun r s' h => ?_
  match r, h with
  | .error e, ⟨_, _, _, _, _, _, _, _, _, _, _, _, z⟩ => exact z.elim
  | .ok .next, h => exact False.elim h
  | .ok .brk, h => exact False.elim h
  | .ok .cont, h => exact False.elim h
  | .ok (.ret u), ⟨v, H', os, bare, un, hok', rv, q⟩ =>
    have q : v = .bl true := q
    subst q
    obtain rfl : u = Value.bool true := rv
    refine ⟨rfl, OldK.of_keep fun b o e => ?_, os, bare⟩
    cases q : H b with
    | none => exact un.keep b o e q (fun z => nomatch z) (fun z => nomatch z)
    | some t =>
      rcases hO b with z | ⟨ob, xs, z⟩
      · rw [q] at z; cases z
      · have e1 := (hok b _ z).1
        have e2 := (hok' b _ (un.frzs b ob _ z)).1
        rw [e] at e1
        cases e1
        exact e2
open PyProof.Rows in
theorem law_run {ns : List Int} (KX : K.In s1.heap) (hns : s1.heap.Ns mainGlobals mg) (hb : s1.heap.Ns builtinsNs mb) (hbb : ∀ x : Str, x ≠ "__name__" → mb x = bootBuiltins x) (hlim : s1.heap.NoLimit) (hg : s1.gens = #[])
    (ha : s1.heap.get? a = some { cls := .type "list", data := .seq vs.toArray }) (hi : IntsAre vs ns) (hl : ns.length ≤ sizeLine) (hr : Room k callerA)
    (F : ∀ base : Heap, K.In base → base.Ns mainGlobals mg → FnG P w K mg base k fa fd [x] sp) (hbind : ∀ (s : Shared) (u : Value), BindsTo s fd ⟨[u], []⟩ [(x, u)])
    (hsp : ∀ H : Hp, Only H → SqL K H a (ns.map V.int) → sp [.ref a] H (fun v _ => v = .bl true) fun _ _ _ => False) :
    codeAny (model P w) callerA (.call (.ref fa) ⟨[.ref a], []⟩) (fun r s' => r = .ok (.ret (.bool true)) ∧ OldK s1.heap s'.heap ∧ s'.os = s1.os ∧ AllBare s'.gens) s1 := by
  have rv := vals_ints hi
  have hlen := hi.length
  cases hk : K.lookup a with
  | some o =>
    have e := KX a o hk
    rw [ha] at e
    cases e
    have hO : Only (fun _ => none) := fun _ => .inl rfl
    have hS : SqL K (fun _ => none) a (ns.map V.int) := .inr ⟨_, vs.toArray, _, hk, rfl, rfl, rfl, by rw [List.size_toArray, hlen]; exact hl, by simpa using rv⟩
    exact law_at KX hns hb hbb hlim hg ha (fun b u z => by cases (show (none : Option HO) = some u from z)) (fun b u z => by cases (show (none : Option HO) = some u from z)) (fun u z => by cases (show (none : Option HO) = some u from z)) hO hr F hbind (hsp _ hO hS)
  | none =>
    have at_a : (fun b => if b = a then some (HO.frz { cls := .type "list", data := .seq vs.toArray } (.lst (ns.map V.int))) else none : Hp) a = some (HO.frz { cls := .type "list", data := .seq vs.toArray } (.lst (ns.map V.int))) := if_pos rfl
    generalize hH : (fun b => if b = a then some (HO.frz { cls := .type "list", data := .seq vs.toArray } (.lst (ns.map V.int))) else none : Hp) = H at at_a
    have off_a : ∀ b, b ≠ a → H b = none := fun b z => by rw [← hH]; exact if_neg z
    have only_a : ∀ b u, H b = some u → b = a := fun b u z => by
      by_cases hb : b = a
      · exact hb
      · rw [off_a b hb] at z; cases z
    have hO : Only H := fun b => by
      by_cases hb : b = a
      · subst hb; exact .inr ⟨_, _, at_a⟩
      · exact .inl (off_a b hb)
    have hok : HOk P w H s1.heap := fun b u z => by
      have e := only_a b u z
      subst e
      rw [at_a] at z
      cases z
      exact ⟨ha, by rw [List.length_map]; exact hl, vs, _, rv, ha⟩
    exact law_at KX hns hb hbb hlim hg ha hok only_a (fun _ _ => hk) hO hr F hbind (hsp H hO (.inl (.inr ⟨_, at_a⟩)))
end
theorem walk_end {l : PySem.W.OpenLaw} {n k : Nat} {q : Program} {loose : List Str} {XP : (Str → Option Value) → Heap → Prop} {YP : World → Heap → Prop} {d : DefRec} {x : Str} {m : Fn}
    (hn : l.most = some n) (hn2 : n ≤ sizeLine) (hdf : d.params.defaults = []) (hr : Room k callerA)
    (F : ∀ (w : World) (mg : Str → Option Value) (fa : Addr) (h : Heap), YP w h → h.Ns mainGlobals mg → mg d.name = some (.ref fa) →
      ∃ (K : Frag) (fd : FuncData), K.In h ∧ (∀ (s : Shared) (u : Value), BindsTo s fd ⟨[u], []⟩ [(x, u)]) ∧ ∀ base : Heap, K.In base → base.Ns mainGlobals mg → FnD l.prog w K mg base k fa fd [x] m)
    (hm : ∀ ns : List Int, ns.length ≤ n → ∃ M, m [.s (ns.map PyData.int)] [] = .ok (.d (.bool true)) M) :
    PySem.W.WalkO q loose XP YP l.row.toRowW d [] (fun f vs => PySem.call f vs) := by
  refine Att.attach_call hn hdf fun w s₀ s₁ mg mb fa o pm cd doc a vs ns G Y ho hd hcd hmg hobj hints hlen hg => ?_
  obtain ⟨K, fd, KX, hb, hF⟩ := F w mg fa _ Y G.T.g hmg
  refine law_run KX G.T.g G.T.b G.T.builtins G.T.nolimit hg hobj hints (Nat.le_trans hlen hn2) hr hF hb fun H hO hS => ?_
  obtain ⟨M', e⟩ := hm ns hlen
  refine ⟨rfl, ⟨[], H, fun _ => none⟩, [], [.s (ns.map PyData.int)], ⟨fun _ _ z => z, rfl, List.nodup_nil, (fun a o z => nomatch z), (fun i a m z => by have z : none = some a := z; cases z)⟩, .cons ⟨a, ns.map V.int, rfl, hS, DpAll.ints ns⟩ .nil, ?_⟩
  rw [e]
  intro w' v H' l r rv
  cases rv
  rfl
end DL

namespace DL
open PySem PySem.Spec L2
/-! ### a, b = a list -/
section
open PyProof.Rows
variable {prog : Program} {w : World} {A : Around} {E : Value → Shared → Prop}
theorem draw_lst {it l : Addr} {items : Array Value} (hne : l ≠ it) : ∀ (n i : Nat) (s : Shared) (Q : List Value → Shared → Prop), s.heap.IsListIter it l i → s.heap.IsList l items → i + n ≤ items.size →
    (∀ h', h'.IsListIter it l (i + n) → Heap.SameBut it s.heap h' → Q ((items.toList.drop i).take n) { s with heap := h' }) → wpAny (model prog w) A (draw (.ref it) n) Q E s
  | 0, i, s, Q, hit, _, _, hQ => by
    show wpAny _ _ (pure []) Q E s
    exact wpAny_pure (by simpa using hQ s.heap hit (Heap.SameBut.refl ..))
  | n + 1, i, s, Q, hit, hl, hle, hQ => by
    have hlt : i < items.size := by omega
    show wpAny _ _ (pyNext (.ref it) >>= _) Q E s
    refine wpAny_bind (wpAny_pyNext_list_item hit hl (x := items[i]) (by simp [hlt]) fun h1 hit1 hs1 => ?_)
    refine wpAny_bind (wpAny_holding (draw_lst hne n (i + 1) _ _ hit1 (hl.extBut hs1.extBut hne) (by omega) fun h2 hit2 hs2 => wpAny_pure ?_))
    have hd : items.toList.drop i = items[i] :: items.toList.drop (i + 1) := by simp [List.drop_eq_getElem_cons, hlt]
    have q := hQ h2 (by rw [show i + (n + 1) = i + 1 + n by omega]; exact hit2) (hs1.trans hs2)
    rw [hd, List.take_succ_cons] at q
    exact q
theorem unpack_lst {s : Shared} {l : Addr} {items : Array Value} {Q : List Value → Shared → Prop} (hh : A.handled = none) (hl : s.heap.IsList l items)
    (hQ : ∀ h', Heap.ExtBut s.heap.objs.size s.heap h' → Q items.toList { s with heap := h' }) : wpAny (model prog w) A (unpackItems (.ref l) items.size none) Q E s := by
  have hlt : l ≠ s.heap.objs.size := by
    obtain ⟨o, ho, _⟩ := hl
    exact Nat.ne_of_lt (Heap.lt_size ho)
  have hp : ∀ o, (s.heap.push o).IsList l items := fun o => hl.at fun u e => Heap.get?_push_of_some _ e
  unfold unpackItems notIterableAtAll
  refine wpAny_bind (wpAny_bind (wpAny_specialOf hl.typeIs slot_list_iter.lookup (wpAny_pure ?_)))
  simp only [Bool.false_eq_true, if_false]
  refine wpAny_bind (wpAny_holding (wpAny_pyIter_list hl ?_))
  refine wpAny_bind (wpAny_holding (draw_lst hlt items.size 0 _ _ ⟨_, Heap.get?_push_size _ rfl, rfl, rfl⟩ (hp _) (by omega) fun h1 hit1 hs1 => ?_))
  have hall : List.take items.size (List.drop 0 items.toList) = items.toList := by
    rw [List.drop_zero]
    exact List.take_of_length_le (by simp)
  rw [hall, if_neg (by simp)]
  refine wpAny_bind (wpAny_holding (wpAny_pyNext_list_end hh hit1 ((hp _).extBut hs1.extBut hlt) (by simp) fun h2 he2 => ?_))
  simp only [Option.isSome_none, Bool.false_eq_true, if_false]
  exact wpAny_pure (hQ h2 fun b o hb e => he2 b o hb (hs1.extBut b o hb (Heap.get?_push_of_some _ e)))
end
section
variable {X : Cx} {W : WX} {pos : Pos}
/-- a target of several names, of a tuple or a list of that length -/
def gSeq (K : Frag) (n : Nat) (t : TGs) : TG := fun v σ H Q => ∃ a xs, v = .ref a ∧ (SqT K H a xs ∨ SqL K H a xs) ∧ xs.length = n ∧ t xs σ H Q
theorem pg_seq {es : List Expr} {k : Nat} {t : TGs} {n : Nat} (hc : X.calm = true) (h : PGs X es t) (hn : (assignEach es X.env).length = n := by rfl) (hst : (assignEach es X.env).findIdx? (·.1) = none := by rfl) : PG X (.Tuple es k pos) (gSeq X.K n t) := by
  constructor
  intro pins s σ H v u Q I r hw
  obtain ⟨a, xs, e1, hq, hl, hw⟩ := hw
  subst e1
  cases r
  rcases hq with hq | hq
  · exact (pg_tup hc h hn hst).run pins s σ H (.ref a) _ Q I rfl ⟨a, xs, rfl, hq, hl, hw⟩
  · obtain ⟨its, rv, p, hz⟩ := I.list hq
    have he : (assignEach es X.env).length = its.toArray.size := by rw [hn, ← hl, rv.length, List.size_toArray]
    rw [PyProof.Rows.assign_Tuple]
    refine wpAny_bind (wpAny_standAt ?_)
    unfold unpack
    rw [he, hst]
    refine wpAny_bind (wpAny_holding (unpack_lst (I.ok.hd hc) p.isList fun h' hx => ?_))
    have I1 : Inv X pins σ H { s with heap := h' } := I.kept (t' := s.toks) fun b o e => hx b o (Nat.ne_of_lt (Heap.lt_size e)) e
    exact h.run pins _ σ H xs _ Q I1 (by simpa using rv) hw
def seqT (n : Nat) (δ : Tgs) : Tg := fun x e M => match seqOf M x with
  | some xs => if xs.length = n then δ xs e M else .st
  | none => .st
theorem gd_seq {es : List Expr} {k n : Nat} {δ : Tgs} (hc : X.calm = true) (h : GDs X es δ) (hn : (assignEach es X.env).length = n := by rfl) (hst : (assignEach es X.env).findIdx? (·.1) = none := by rfl) : GD X (.Tuple es k pos) (seqT n δ) :=
  PGweak (pg_seq hc h hn hst) fun v σ H Q ⟨w, e, M, x, r, re, rv, p⟩ => by
    unfold seqT at p
    split at p
    · rename_i xs hx
      split at p
      · rename_i hl
        obtain ⟨q, vs, rfl, hs, d⟩ := seq_at r rv hx
        exact ⟨q, vs, rfl, hs.symm, by rw [d.len]; exact hl, w, e, M, xs, r, re, d, p⟩
      · exact p.elim
    · exact p.elim
/-! ### a, b = x, y -/
def parS (i j : Nat) (f : Evs) : Sv := lift f fun xs e M => match xs with
  | [x, y] => .go .nx ((e.set i (some x)).set j (some y)) M
  | _ => .st
theorem ds_par {i j : Nat} {x y : Str} {a b : Expr} {f : Evs} {px py pt : Pos} {kt k2 pt2} (hc : X.calm = true) (hN : X.N.Nodup) (hi : X.N[i]? = some x) (hj : X.N[j]? = some y) (hij : i ≠ j)
    (hx : X.env.scope.names.lookup x = some .local) (hy : X.env.scope.names.lookup y = some .local) (ha : DA X W [a, b] f)
    (hw : swappedStores [.Tuple [.Name x px, .Name y py] kt pt] (.Tuple [a, b] k2 pt2) X.env = pure (some [x, y]))
    (hs : swapsWithSole [.Tuple [.Name x px, .Name y py] kt pt] (.Tuple [a, b] k2 pt2) pos.line X.env = pure false := by rfl) :
    DS X W (.Assign [.Tuple [.Name x px, .Name y py] kt pt] (.Tuple [a, b] k2 pt2) pos) (parS i j f) :=
  PSweak (ps_par hc hN hi hj hij hx hy ha hw hs) fun D σ H ⟨w, e, M, r, re, p⟩ => ⟨w, e, M, r, re, p.of re fun xs M1 w1 vs H1 l1 r1 rv p1 => by
    split at p1
    · obtain ⟨v, u, rfl, h1, h2⟩ := rvs2 rv
      exact ⟨v, u, rfl, p1.nx r1 (((re.up l1).set h1 i).set h2 j)⟩
    · exact p1.elim⟩
theorem rvs3 {K : Frag} {w : Wd} {x y z : Vl} {vs : List V} (h : RVs K w [x, y, z] vs) : ∃ v u t, vs = [v, u, t] ∧ RV K w x v ∧ RV K w y u ∧ RV K w z t := by
  cases h with
  | cons a b =>
    obtain ⟨u, t, rfl, r, q⟩ := rvs2 b
    exact ⟨_, u, t, rfl, a, r, q⟩
def par3S (i j l : Nat) (f : Evs) : Sv := lift f fun xs e M => match xs with
  | [x, y, z] => .go .nx (((e.set i (some x)).set j (some y)).set l (some z)) M
  | _ => .st
theorem ds_par3 {i j l : Nat} {x y z : Str} {a b c : Expr} {f : Evs} {px py pz pt : Pos} {kt k2 pt2} (hc : X.calm = true) (hN : X.N.Nodup) (hi : X.N[i]? = some x) (hj : X.N[j]? = some y) (hl : X.N[l]? = some z) (hij : i ≠ j) (hil : i ≠ l) (hjl : j ≠ l)
    (hx : X.env.scope.names.lookup x = some .local) (hy : X.env.scope.names.lookup y = some .local) (hz : X.env.scope.names.lookup z = some .local) (ha : DA X W [a, b, c] f)
    (hw : swappedStores [.Tuple [.Name x px, .Name y py, .Name z pz] kt pt] (.Tuple [a, b, c] k2 pt2) X.env = pure (some [x, y, z]))
    (hs : swapsWithSole [.Tuple [.Name x px, .Name y py, .Name z pz] kt pt] (.Tuple [a, b, c] k2 pt2) pos.line X.env = pure false := by rfl) :
    DS X W (.Assign [.Tuple [.Name x px, .Name y py, .Name z pz] kt pt] (.Tuple [a, b, c] k2 pt2) pos) (par3S i j l f) :=
  PSweak (ps_par3 hc hN hi hj hl hij hil hjl hx hy hz ha hw hs) fun D σ H ⟨w, e, M, r, re, p⟩ => ⟨w, e, M, r, re, p.of re fun xs M1 w1 vs H1 l1 r1 rv p1 => by
    split at p1
    · obtain ⟨v, u, t, rfl, h1, h2, h3⟩ := rvs3 rv
      exact ⟨v, u, t, rfl, p1.nx r1 ((((re.up l1).set h1 i).set h2 j).set h3 l)⟩
    · exact p1.elim⟩
/-! ### repr -/
theorem noDict {K : Frag} {F : Hp} {v : V} {x : PyData} (h : L2.Dp K F v x) : x.hasDict = false ∧ True := by
  have h0 : ∀ (d : PyData) (v : V), L2.Dp K F v d → d.hasDict = false := by
    intro d
    exact PyData.rec (motive_1 := fun d => ∀ v, L2.Dp K F v d → d.hasDict = false) (motive_2 := fun ds => ∀ vs, L2.DpAll K F vs ds → PyData.hasDictAll ds = false) (motive_3 := fun _ => True) (motive_4 := fun _ => True)
      (fun v h => rfl) (fun b v h => rfl) (fun i v h => rfl) (fun s v h => rfl)
      (fun xs ih v h => by cases h with | lst h1 h2 => simp only [PyData.hasDict]; exact ih _ h2)
      (fun xs ih v h => by cases h with | tup h1 h2 => simp only [PyData.hasDict]; exact ih _ h2)
      (fun kvs ih v h => by cases h)
      (fun vs h => rfl)
      (fun x xs ih1 ih2 vs h => by cases h with | cons h1 h2 => simp only [PyData.hasDictAll, ih1 _ h1, ih2 _ h2, Bool.or_self])
      trivial (fun _ _ _ _ => trivial) (fun _ _ _ _ => trivial) d
  exact ⟨h0 x v h, trivial⟩
/-- as it is shown; a list or a tuple -/
def reprV : List Vl → Mem → Res Vl
  | [x], M => match datOf M x with
    | some (.list xs) => if (PyData.list xs).showable = true ∧ (PyData.list xs).shown.length ≤ sizeLine ∧ (PyData.list xs).depth ≤ 60 then .ok (.d (.str (PyData.list xs).shown)) M else .st
    | some (.tuple xs) => if (PyData.tuple xs).showable = true ∧ (PyData.tuple xs).shown.length ≤ sizeLine ∧ (PyData.tuple xs).depth ≤ 60 then .ok (.d (.str (PyData.tuple xs).shown)) M else .st
    | some (.int i) => if i.natAbs.log2 < 1920 then .ok (.d (.str (toString i))) M else .st
    | some (.bool b) => .ok (.d (.str (if b then "True" else "False"))) M
    | some .none => .ok (.d (.str "None")) M
    | some (.str z) => if (reprText z).length ≤ sizeLine then .ok (.d (.str (reprText z))) M else .st
    | _ => .st
  | _, _ => .st
theorem repr_ref {a : Addr} {x : PyData} {pins : List (Addr × Obj)} {s : Shared} {σ : L2.St} {H : Hp} {Q : VK} (ga : GA X.A) (hu : X.A.units + 64 < cLine) (I : Inv X pins σ H s) (h : L2.Dp X.K H (.ref a) x) (h1 : x.showable = true) (h2 : x.shown.length ≤ sizeLine) (h3 : x.depth ≤ 60) (q : Q (.str x.shown) H) :
    wpAny (model X.prog X.w) X.A (call (.builtin "repr") [.ref a]) (EP X pins σ Q) X.xe s := by
  obtain ⟨as, r⟩ := L2.Dp.reads I x _ (.ref a) h rfl
  refine PySem.repr_of_reads' r h1 (fun z => by rw [(noDict h).1] at z; cases z) ga (by omega) (fun _ _ e => e) (fun h' u tk hk => ⟨.str x.shown, H, I.kept (t' := tk) hk, ⟨u, rfl⟩, q⟩) h2
theorem cd_repr (ga : GA X.A) (hu : X.A.units + 64 < cLine) : CallD X (.builtin "repr") reprV := by
  rintro pins s σ H vs us Q I rv ⟨w, M, xs, r, rx, p⟩
  unfold reprV at p
  split at p
  · obtain ⟨v, rfl, hv⟩ := rvs1 rx
    split at p
    · rename_i hq
      split at p
      · rename_i hz
        have d := dat_at r hv hq
        cases d with
        | lst d1 d2 =>
          have eu := rv.ref1
          subst eu
          exact repr_ref ga hu I (.lst d1 d2) hz.1 hz.2.1 hz.2.2 (p.at r (.str _))
      · exact p.elim
    · rename_i hq
      split at p
      · rename_i hz
        have d := dat_at r hv hq
        cases d with
        | tup d1 d2 =>
          have eu := rv.ref1
          subst eu
          exact repr_ref ga hu I (.tup d1 d2) hz.1 hz.2.1 hz.2.2 (p.at r (.str _))
      · exact p.elim
    · rename_i hq
      split at p
      · rename_i hz
        have d := dat_at r hv hq
        cases d
        obtain ⟨u, rfl, t, rfl⟩ := rv.one
        exact PySem.P.repr_of_int hz ⟨.str _, H, I.tok _, ⟨_, rfl⟩, p.at r (.str _)⟩
      · exact p.elim
    · rename_i hq
      have d := dat_at r hv hq
      cases d
      obtain ⟨u, rfl, hu'⟩ := rv.one
      cases hu'
      exact PySem.P.repr_of_bool ⟨.str _, H, I.tok _, ⟨_, rfl⟩, p.at r (.str _)⟩
    · rename_i hq
      have d := dat_at r hv hq
      cases d
      obtain ⟨u, rfl, hu'⟩ := rv.one
      cases hu'
      exact PySem.P.repr_of_none ⟨.str _, H, I.tok _, ⟨_, rfl⟩, p.at r (.str _)⟩
    · rename_i hq
      split at p
      · rename_i hz
        have d := dat_at r hv hq
        cases d
        obtain ⟨u, rfl, t, rfl⟩ := rv.one
        exact PySem.P.repr_of_str ⟨.str _, H, I.tok _, ⟨_, rfl⟩, p.at r (.str _)⟩ hz
      · exact p.elim
    · exact p.elim
  · exact p.elim
end
end DL

namespace DL
open PySem PySem.Spec L2
/-! ### what the generated texts name -/
theorem fnD0 {P : Program} {w : World} {K : Frag} {mg : Str → Option Value} {base : Heap} {k : Nat} {f : Addr} {fd : FuncData} {ps : List Str} : FnD P w K mg base k f fd ps (fun _ _ => .st) :=
  ⟨fun vs H Q E h => h.1, fun A outer s H args us vs Q E hr hg he hb hv ⟨_, _, _, _, _, _, p⟩ => p.elim⟩
/-- fuel of a loop over the list in a slot -/
def lenAt (i : Nat) : Env → Mem → Nat := fun e M => match e[i]? with
  | some (some x) => match lstOf M x with
    | some xs => xs.length + 1
    | none => 0
  | _ => 0
end DL

namespace DL
open PySem PySem.Spec L2
namespace C
def g_box : Sv := (seqS (setS 2 (ifE (opT ltV (getV 1) (callE lenV (consA (getV 0) nilA))) (op2 ixV (getV 0) (getV 1)) (cst (.d (.int 0))))) (retS (newE (dispE (consA (op2 mulV (callE DL.absV (consA (getV 2) nilA)) (callE intV (consA (op2 geV (callE DL.absV (consA (getV 2) nilA)) (op2 powV (cst (.d (.int 10))) (cst (.d (.int 18))))) nilA))) (consA (op2 addV (op2 addV (op2 modV (getV 2) (cst (.d (.int 2305843009213693951)))) (op2 mulV (cst (.d (.int 7919))) (getV 1))) (cst (.d (.int 55)))) (consA (cst (.d (.int 0))) nilA)))))))
def m_box : Fn := defM 3 1 g_box
def g_take (self : Fn) : Sv := (seqS (ifS (opT gtV (op2 ixV (getV 0) (cst (.d (.int 0)))) (cst (.d (.int 0)))) (seqS (setS 2 (op2 modV (op2 ixV (getV 0) (cst (.d (.int 0)))) (getV 1))) (seqS (asgS (op2 fdivV (op2 ixV (getV 0) (cst (.d (.int 0)))) (getV 1)) (subT (getV 0) (cst (.d (.int 0))))) (retS (getV 2)))) nopS) (seqS (ifS (opT gtV (getV 1) (op2 powV (cst (.d (.int 10))) (cst (.d (.int 7))))) (retS (op2 modV (op2 addV (callF 2 self (consA (getV 0) (consA (op2 powV (cst (.d (.int 10))) (cst (.d (.int 7)))) nilA))) (op2 mulV (op2 powV (cst (.d (.int 10))) (cst (.d (.int 7)))) (callF 2 self (consA (getV 0) (consA (op2 addV (op2 fdivV (op2 subV (getV 1) (cst (.d (.int 1)))) (op2 powV (cst (.d (.int 10))) (cst (.d (.int 7))))) (cst (.d (.int 1)))) nilA))))) (getV 1))) nopS) (seqS (asgS (op2 addV (op2 ixV (getV 0) (cst (.d (.int 2)))) (cst (.d (.int 1)))) (subT (getV 0) (cst (.d (.int 2))))) (seqS (setS 3 (op2 modV (op2 powV (op2 addV (op2 ixV (getV 0) (cst (.d (.int 1)))) (op2 mulV (cst (.d (.int 39373))) (op2 ixV (getV 0) (cst (.d (.int 2)))))) (cst (.d (.int 5)))) (cst (.d (.int 2147483647))))) (retS (op2 modV (op2 fdivV (op2 modV (op2 addV (op2 mulV (getV 3) (op2 addV (op2 modV (getV 3) (cst (.d (.int 40009)))) (cst (.d (.int 7))))) (op2 mulV (op2 ixV (getV 0) (cst (.d (.int 2)))) (cst (.d (.int 7919))))) (cst (.d (.int 2147483629)))) (cst (.d (.int 64)))) (getV 1)))))))
def m_take : Nat → Fn
  | 0 => fun _ _ => .st
  | n + 1 => defM 4 0 (g_take (m_take n))
def g_cells : Sv := (seqS (setS 2 (newE (listE (slE (getV 0) noP (someP (getV 1)))))) (seqS (forS (enumI (slE (getV 0) (someP (getV 1)) (someP (cst (.d (.int 63)))))) (tupT 2 (consT (setT 3) (consT (setT 4) nilT))) (asgS (op2 addV (op2 ixV (getV 2) (op2 modV (getV 3) (getV 1))) (op2 mulV (getV 4) (op2 addV (getV 3) (cst (.d (.int 2)))))) (subT (getV 2) (op2 modV (getV 3) (getV 1))))) (seqS (freeze 2) (retS (ifE (opT neV (getV 2) (datE (dispE nilA))) (getV 2) (datE (dispE (consA (cst (.d (.int 0))) nilA))))))))
def m_cells : Fn := defM 5 0 g_cells
def g_of : Sv := (retS (op2 ixV (getV 1) (callF 2 (C.m_take 10) (consA (getV 0) (consA (callE lenV (consA (getV 1) nilA)) nilA)))))
def m_of : Fn := defM 2 0 g_of
def g_strewn : Sv := (seqS (parS 2 3 (consA (newE (listE (getV 1))) (consA (newE (dispE nilA)) nilA))) (seqS (whileS (opT neV (getV 2) (datE (dispE nilA))) (dropS (methE appM (getV 3) (consA (methE popM (getV 2) (consA (callF 2 (C.m_take 10) (consA (getV 0) (consA (callE lenV (consA (getV 2) nilA)) nilA))) nilA)) nilA))) (lenAt 2)) (seqS (freeze 3) (retS (getV 3)))))
def m_strewn : Fn := defM 4 0 g_strewn
def g_same (self : Fn) : Sv := (seqS (ifS (tstE (isiTE (getV 1) (consA (cst (.t "list")) (consA (cst (.t "tuple")) nilA)))) (seqS (ifS (orT (opT neV (callE isiV (consA (getV 0) (consA (cst (.t "list")) nilA))) (callE isiV (consA (getV 1) (consA (cst (.t "list")) nilA)))) (opT neV (callE isiV (consA (getV 0) (consA (cst (.t "tuple")) nilA))) (callE isiV (consA (getV 1) (consA (cst (.t "tuple")) nilA))))) (retS (cst (.d (.bool false)))) nopS) (retS (andE (op2 eqV (callE lenV (consA (getV 0) nilA)) (callE lenV (consA (getV 1) nilA))) (callE allV (consA (datE (lcE [2, 3] (zipI (getV 0) (getV 1)) (tupT 2 (consT (setT 2) (consT (setT 3) nilT))) (fun _ M => .ok true M) (callF 2 self (consA (getV 2) (consA (getV 3) nilA))))) nilA))))) nopS) (seqS (ifS (orT (opT isV (getV 1) (cst (.d .none))) (tstE (isiTE (getV 1) (consA (cst (.t "str")) (consA (cst (.t "bool")) nilA))))) (retS (andE (op2 eqV (getV 0) (getV 1)) (andE (op2 eqV (callE isiV (consA (getV 0) (consA (cst (.t "bool")) nilA))) (callE isiV (consA (getV 1) (consA (cst (.t "bool")) nilA)))) (op2 eqV (op2 isV (getV 0) (cst (.d .none))) (op2 isV (getV 1) (cst (.d .none))))))) nopS) (retS (andE (callE isiV (consA (getV 0) (consA (cst (.t "int")) nilA))) (andE (notE (callE isiV (consA (getV 0) (consA (cst (.t "bool")) nilA)))) (op2 eqV (getV 0) (getV 1)))))))
def m_same : Nat → Fn
  | 0 => fun _ _ => .st
  | n + 1 => defM 4 0 (g_same (m_same n))
def g_lists (self : Fn) : Sv := (retS (ifE (tstE (isiTE (getV 0) (consA (cst (.t "list")) (consA (cst (.t "tuple")) nilA)))) (datE (lcE [1] (seqI (getV 0)) (setT 1) (fun _ M => .ok true M) (callF 1 self (consA (getV 1) nilA)))) (getV 0)))
def m_lists : Nat → Fn
  | 0 => fun _ _ => .st
  | n + 1 => defM 2 0 (g_lists (m_lists n))
def g_random_state : Sv := (seqS (setS 3 (callE tupleV (consA (callF 2 C.m_strewn (consA (getV 0) (consA (datE (rgE1 (getV 1))) nilA))) nilA))) (seqS (setS 4 (callE tupleV (consA (datE (lcE [5] (rngI1 (getV 1)) (setT 5) (fun _ M => .ok true M) (ifE (opT gtV (callF 2 (C.m_take 10) (consA (getV 0) (consA (cst (.d (.int 3))) nilA))) (cst (.d (.int 0)))) (callF 2 (C.m_take 10) (consA (getV 0) (consA (op2 addV (getV 2) (cst (.d (.int 1)))) nilA))) (cst (.d (.int 0)))))) nilA))) (retS (tupE (consA (getV 3) (consA (getV 4) nilA))))))
def m_random_state : Fn := defM 6 0 g_random_state
end C
end DL

namespace DL
open PySem PySem.Spec L2
/-! ### worths, computed -/
theorem bind_ok {α β : Type} {x : α} {M : Mem} {k : α → Mem → Res β} : (Res.ok x M).bind k = k x M := Eq.trans rfl rfl
theorem pur_ok {α : Type} {x : α} {M : Mem} : (Res.ok x M).pur = .ok x M := Eq.trans rfl rfl
def bindS {α : Type} (r : Res α) (k : α → Env → Mem → RS) (e : Env) : RS := match r with
  | .ok x M1 => k x e M1
  | .er C fs M1 => .er C fs e M1
  | .st => .st
theorem lift_eq {α : Type} {f : Env → Mem → Res α} {k : α → Env → Mem → RS} {e : Env} {M : Mem} : lift f k e M = bindS (f e M) k e := Eq.trans rfl rfl
theorem bindS_ok {α : Type} {x : α} {M1 : Mem} {k : α → Env → Mem → RS} {e : Env} : bindS (.ok x M1) k e = k x e M1 := Eq.trans rfl rfl
theorem bindS_er {α : Type} {C : Addr} {fs : List (Str × PyData)} {M1 : Mem} {k : α → Env → Mem → RS} {e : Env} : bindS (α := α) (.er C fs M1) k e = .er C fs e M1 := Eq.trans rfl rfl
def thenS (r : RS) (h : Sv) : RS := match r with
  | .go .nx e1 M1 => h e1 M1
  | r => r
theorem seqS_eq {g h : Sv} {e : Env} {M : Mem} : seqS g h e M = thenS (g e M) h := Eq.trans rfl rfl
theorem then_nx {e : Env} {M : Mem} {h : Sv} : thenS (.go .nx e M) h = h e M := Eq.trans rfl rfl
theorem then_rt {e : Env} {M : Mem} {h : Sv} {x : Vl} : thenS (.go (.rt x) e M) h = .go (.rt x) e M := Eq.trans rfl rfl
theorem then_er {e : Env} {M : Mem} {h : Sv} {C : Addr} {fs : List (Str × PyData)} : thenS (.er C fs e M) h = .er C fs e M := Eq.trans rfl rfl
theorem getV_0 {e : Env} {M : Mem} {v : Vl} : getV 0 (some v :: e) M = .ok v M := Eq.trans rfl rfl
theorem getV_s {i : Nat} {e : Env} {M : Mem} {o : Option Vl} : getV (i + 1) (o :: e) M = getV i e M := by simp [getV]
theorem leave_d {n : Nat} {e : Env} {M : Mem} {x : PyData} : leave n (.go (.rt (.d x)) e M) = .ok (.d x) (M.take n) := Eq.trans rfl rfl
theorem leave_nx {n : Nat} {e : Env} {M : Mem} : leave n (.go .nx e M) = .ok (.d .none) (M.take n) := Eq.trans rfl rfl
theorem leave_er {n : Nat} {e : Env} {M : Mem} {C : Addr} {fs : List (Str × PyData)} : leave n (.er C fs e M) = .er C fs (M.take n) := Eq.trans rfl rfl
theorem leave_h {n i : Nat} {e : Env} {M : Mem} (h : i < n) : leave n (.go (.rt (.h i)) e M) = .ok (.h i) (M.take n) := by simp [leave, h]
theorem take_all {M : Mem} {n : Nat} (h : M.length ≤ n) : M.take n = M := List.take_of_length_le h
theorem ixV_h {M : Mem} {i : Nat} {xs : List PyData} {k : Int} {d : PyData} (h : M[i]? = some (.lst xs)) (hd : atI xs k = some d) : ixV (.h i) (.d (.int k)) M = .ok (.d d) M := by
  simp [ixV, seqOf, tupOf, rdOf, lstOf, h, hd]
theorem ixV_l {M : Mem} {xs : List PyData} {k : Int} {d : PyData} (hd : atI xs k = some d) : ixV (.d (.list xs)) (.d (.int k)) M = .ok (.d d) M := by
  simp [ixV, seqOf, tupOf, rdOf, lstOf, hd]
theorem ixV_t {M : Mem} {xs : List PyData} {k : Int} {d : PyData} (hd : atI xs k = some d) : ixV (.d (.tuple xs)) (.d (.int k)) M = .ok (.d d) M := by
  simp [ixV, seqOf, tupOf, rdOf, lstOf, hd]
theorem ixV_s {M : Mem} {xs : List PyData} {k : Int} {d : PyData} (hd : atI xs k = some d) : ixV (.s xs) (.d (.int k)) M = .ok (.d d) M := by
  simp [ixV, seqOf, tupOf, rdOf, lstOf, hd]
theorem add_ii {i j : Int} {M : Mem} : addV (.d (.int i)) (.d (.int j)) M = .ok (.d (.int (i + j))) M := Eq.trans rfl rfl
theorem sub_ii {i j : Int} {M : Mem} : subV (.d (.int i)) (.d (.int j)) M = .ok (.d (.int (i - j))) M := Eq.trans rfl rfl
theorem mul_ii {i j : Int} {M : Mem} (h : (-(2 ^ 64) < i ∧ i < 2 ^ 64) ∨ (-(2 ^ 64) < j ∧ j < 2 ^ 64)) : mulV (.d (.int i)) (.d (.int j)) M = .ok (.d (.int (i * j))) M := by
  exact if_pos (by rcases h with h | h; exact .inl h; exact .inr (.inl h))
theorem mod_ii {i j : Int} {M : Mem} (h : 0 < j) : modV (.d (.int i)) (.d (.int j)) M = .ok (.d (.int (i % j))) M := by
  exact if_pos h
theorem fdiv_ii {i j : Int} {M : Mem} (h : 0 < j) (h2 : j < 2 ^ 255) : fdivV (.d (.int i)) (.d (.int j)) M = .ok (.d (.int (i / j))) M := by
  refine if_pos ⟨h, ?_⟩
  have : j.natAbs < 2 ^ 255 := by omega
  exact Nat.lt_trans ((Nat.log2_lt (by omega)).mpr this) (by decide)
theorem pow_ii {i j : Int} {M : Mem} (h0 : 0 ≤ j) (h : j ≤ 1000000) (h2 : i.natAbs < 2 ^ 64) : powV (.d (.int i)) (.d (.int j)) M = .ok (.d (.int (i ^ j.toNat))) M := if_pos ⟨h0, h, h2⟩
theorem pow_7 {M : Mem} : powV (.d (.int 10)) (.d (.int 7)) M = .ok (.d (.int 10000000)) M := Eq.trans rfl rfl
theorem pow_18 {M : Mem} : powV (.d (.int 10)) (.d (.int 18)) M = .ok (.d (.int 1000000000000000000)) M := Eq.trans rfl rfl
theorem pow_40 {M : Mem} : powV (.d (.int 10)) (.d (.int 40)) M = .ok (.d (.int 10000000000000000000000000000000000000000)) M := Eq.trans rfl rfl
theorem gt_ii {i j : Int} {M : Mem} : gtV (.d (.int i)) (.d (.int j)) M = .ok (.d (.bool (decide (j < i)))) M := Eq.trans rfl rfl
theorem lt_ii {i j : Int} {M : Mem} : ltV (.d (.int i)) (.d (.int j)) M = .ok (.d (.bool (decide (i < j)))) M := Eq.trans rfl rfl
theorem ge_ii {i j : Int} {M : Mem} : geV (.d (.int i)) (.d (.int j)) M = .ok (.d (.bool (decide (j ≤ i)))) M := Eq.trans rfl rfl
theorem le_ii {i j : Int} {M : Mem} : leV (.d (.int i)) (.d (.int j)) M = .ok (.d (.bool (decide (i ≤ j)))) M := Eq.trans rfl rfl
theorem bool_b {b : Bool} {M : Mem} : boolOf (.d (.bool b)) M = .ok b M := Eq.trans rfl rfl
def putV (o j x : Vl) (e : Env) (M2 : Mem) : Res Env := match o, j, x with
  | .h i, .d (.int k), .d y => match M2[i]? with
    | some (.lst xs) => match ixN xs.length k with
      | some n => .ok e (M2.set i (.lst (xs.set n y)))
      | none => .st
    | _ => .st
  | _, _, _ => .st
theorem subT_eq {f g : Ev} {x : Vl} {e : Env} {M : Mem} : subT f g x e M = (f e M).bind fun o M1 => (g e M1).bind fun j M2 => putV o j x e M2 := Eq.trans rfl rfl
theorem putV_h {e : Env} {M : Mem} {i n : Nat} {k : Int} {xs : List PyData} {y : PyData} (hM : M[i]? = some (.lst xs)) (hn : ixN xs.length k = some n) : putV (.h i) (.d (.int k)) (.d y) e M = .ok e (M.set i (.lst (xs.set n y))) := by
  unfold putV
  simp only [hM, hn]
def goG (r : Res Env) : RS := match r with
  | .ok e1 M1 => .go .nx e1 M1
  | _ => .st
theorem asgS_eq {f : Ev} {γ : Tg} : asgS f γ = lift f fun x e M => goG (γ x e M) := Eq.trans rfl rfl
theorem goG_ok {e : Env} {M : Mem} : goG (.ok e M) = .go .nx e M := Eq.trans rfl rfl
/-! each worth, applied: one step at a time, the first part first -/
section
variable {g : Vl → Vl → Mem → Res Vl} {f f1 f2 : Ev} {F : Env → Mem → Res (List PyData)} {h k : Evs} {e : Env} {M M1 : Mem} {x y : Vl} {xs : List Vl} {t u : Env → Mem → Res Bool} {G G2 : Sv} {b : Bool} {γ : Tg} {δ : Tgs}
theorem cst_a : cst x e M = .ok x M := Eq.trans rfl rfl
def o2a (g : Vl → Vl → Mem → Res Vl) (f2 : Ev) (e : Env) (r : Res Vl) : Res Vl := r.bind fun x M1 => (f2 e M1).bind fun y M2 => (g x y M2).pur
def o2b (g : Vl → Vl → Mem → Res Vl) (x : Vl) (r : Res Vl) : Res Vl := r.bind fun y M2 => (g x y M2).pur
theorem op2_a : op2 g f1 f2 e M = o2a g f2 e (f1 e M) := Eq.trans rfl rfl
theorem o2a_ok : o2a g f2 e (.ok x M1) = o2b g x (f2 e M1) := Eq.trans rfl rfl
theorem o2b_ok : o2b g x (.ok y M1) = (g x y M1).pur := Eq.trans rfl rfl
def oTa (g : Vl → Vl → Mem → Res Vl) (f2 : Ev) (e : Env) (r : Res Vl) : Res Bool := r.bind fun x M1 => (f2 e M1).bind fun y M2 => (g x y M2).pur.bind boolOf
def oTb (g : Vl → Vl → Mem → Res Vl) (x : Vl) (r : Res Vl) : Res Bool := r.bind fun y M2 => (g x y M2).pur.bind boolOf
theorem opT_a : opT g f1 f2 e M = oTa g f2 e (f1 e M) := Eq.trans rfl rfl
theorem oTa_ok : oTa g f2 e (.ok x M1) = oTb g x (f2 e M1) := Eq.trans rfl rfl
theorem oTb_ok : oTb g x (.ok y M1) = (g x y M1).pur.bind boolOf := Eq.trans rfl rfl
def cAa (h : Evs) (e : Env) (r : Res Vl) : Res (List Vl) := r.bind fun x M1 => (h e M1).bind fun xs M2 => .ok (x :: xs) M2
def cAb (x : Vl) (r : Res (List Vl)) : Res (List Vl) := r.bind fun xs M2 => .ok (x :: xs) M2
theorem nilA_a : nilA e M = .ok [] M := Eq.trans rfl rfl
theorem consA_a : consA f h e M = cAa h e (f e M) := Eq.trans rfl rfl
theorem cAa_ok : cAa h e (.ok x M1) = cAb x (h e M1) := Eq.trans rfl rfl
theorem cAb_ok : cAb x (.ok xs M1) = .ok (x :: xs) M1 := Eq.trans rfl rfl
def cFa (n : Nat) (m : Fn) (r : Res (List Vl)) : Res Vl := r.bind fun xs M1 => if xs.length = n then m xs M1 else .st
theorem callF_a {n : Nat} {m : Fn} : callF n m h e M = cFa n m (h e M) := Eq.trans rfl rfl
theorem cFa_ok {n : Nat} {m : Fn} : cFa n m (.ok xs M1) = if xs.length = n then m xs M1 else .st := Eq.trans rfl rfl
def cEa (v : List Vl → Mem → Res Vl) (r : Res (List Vl)) : Res Vl := r.bind fun xs M1 => (v xs M1).pur
theorem callE_a {v : List Vl → Mem → Res Vl} : callE v h e M = cEa v (h e M) := Eq.trans rfl rfl
theorem cEa_ok {v : List Vl → Mem → Res Vl} : cEa v (.ok xs M1) = (v xs M1).pur := Eq.trans rfl rfl
def dta (r : Res (List PyData)) : Res Vl := r.bind fun xs M1 => .ok (.d (.list xs)) M1
theorem datE_a : datE F e M = dta (F e M) := Eq.trans rfl rfl
theorem dta_ok {ds : List PyData} : dta (.ok ds M1) = .ok (.d (.list ds)) M1 := Eq.trans rfl rfl
def nwa (r : Res (List PyData)) : Res Vl := r.bind fun xs M1 => .ok (.h M1.length) (M1 ++ [.lst xs])
theorem newE_a : newE F e M = nwa (F e M) := Eq.trans rfl rfl
theorem nwa_ok {ds : List PyData} : nwa (.ok ds M1) = .ok (.h M1.length) (M1 ++ [.lst ds]) := Eq.trans rfl rfl
theorem dispE_a : dispE h e M = (h e M).bind asDs := Eq.trans rfl rfl
def tpa (r : Res (List Vl)) : Res Vl := r.bind fun xs M1 => (asDs xs M1).bind fun ds M2 => .ok (.d (.tuple ds)) M2
theorem tupE_a : tupE h e M = tpa (h e M) := Eq.trans rfl rfl
theorem tpa_ok : tpa (.ok xs M1) = (asDs xs M1).bind fun ds M2 => .ok (.d (.tuple ds)) M2 := Eq.trans rfl rfl
theorem asDs_a : asDs xs M = match datas xs with
  | some ds => if ds.length ≤ sizeLine then .ok ds M else .st
  | none => .st := by unfold asDs; rfl
def ifa (f g : Ev) (e : Env) (r : Res Bool) : Res Vl := r.bind fun b M1 => if b = true then f e M1 else g e M1
theorem ifE_a : ifE t f1 f2 e M = ifa f1 f2 e (t e M) := Eq.trans rfl rfl
theorem ifa_t : ifa f1 f2 e (.ok true M1) = f1 e M1 := Eq.trans rfl rfl
theorem ifa_f : ifa f1 f2 e (.ok false M1) = f2 e M1 := Eq.trans rfl rfl
def nta (r : Res Bool) : Res Bool := r.bind fun b M1 => .ok (!b) M1
theorem notT_a : notT t e M = nta (t e M) := Eq.trans rfl rfl
theorem nta_ok : nta (.ok b M1) = .ok (!b) M1 := Eq.trans rfl rfl
def ana (u : Env → Mem → Res Bool) (e : Env) (r : Res Bool) : Res Bool := r.bind fun b M1 => if b = true then u e M1 else .ok false M1
theorem andT_a : andT t u e M = ana u e (t e M) := Eq.trans rfl rfl
theorem ana_t : ana u e (.ok true M1) = u e M1 := Eq.trans rfl rfl
theorem ana_f : ana u e (.ok false M1) = .ok false M1 := Eq.trans rfl rfl
def ora (u : Env → Mem → Res Bool) (e : Env) (r : Res Bool) : Res Bool := r.bind fun b M1 => if b = true then .ok true M1 else u e M1
theorem orT_a : orT t u e M = ora u e (t e M) := Eq.trans rfl rfl
theorem ora_t : ora u e (.ok true M1) = .ok true M1 := Eq.trans rfl rfl
theorem ora_f : ora u e (.ok false M1) = u e M1 := Eq.trans rfl rfl
def tsa (r : Res Vl) : Res Bool := r.bind asB
theorem tstE_a : tstE f e M = tsa (f e M) := Eq.trans rfl rfl
theorem tsa_b : tsa (.ok (.d (.bool b)) M1) = .ok b M1 := Eq.trans rfl rfl
def aEa (g : Ev) (e : Env) (r : Res Vl) : Res Vl := r.bind fun x M1 => (boolOf x M1).bind fun b M2 => if b = true then g e M2 else .ok (.d (.bool false)) M2
theorem andE_a : andE f1 f2 e M = aEa f2 e (f1 e M) := Eq.trans rfl rfl
theorem aEa_t : aEa f2 e (.ok (.d (.bool true)) M1) = f2 e M1 := Eq.trans rfl rfl
theorem aEa_f : aEa f2 e (.ok (.d (.bool false)) M1) = .ok (.d (.bool false)) M1 := Eq.trans rfl rfl
def oEa (g : Ev) (e : Env) (r : Res Vl) : Res Vl := r.bind fun x M1 => (boolOf x M1).bind fun b M2 => if b = true then .ok (.d (.bool true)) M2 else g e M2
theorem orE_a : orE f1 f2 e M = oEa f2 e (f1 e M) := Eq.trans rfl rfl
theorem oEa_t : oEa f2 e (.ok (.d (.bool true)) M1) = .ok (.d (.bool true)) M1 := Eq.trans rfl rfl
theorem oEa_f : oEa f2 e (.ok (.d (.bool false)) M1) = f2 e M1 := Eq.trans rfl rfl
def nEa (r : Res Vl) : Res Vl := r.bind fun x M1 => (boolOf x M1).bind fun b M2 => .ok (.d (.bool !b)) M2
theorem notE_a : notE f e M = nEa (f e M) := Eq.trans rfl rfl
theorem nEa_ok : nEa (.ok (.d (.bool b)) M1) = .ok (.d (.bool !b)) M1 := Eq.trans rfl rfl
theorem seqS_a : seqS G G2 e M = thenS (G e M) G2 := Eq.trans rfl rfl
theorem nopS_a : nopS e M = .go .nx e M := Eq.trans rfl rfl
theorem setS_a {i : Nat} : setS i f e M = bindS (f e M) (fun x e M => .go .nx (e.set i (some x)) M) e := Eq.trans rfl rfl
theorem retS_a : retS f e M = bindS (f e M) (fun x e M => .go (.rt x) e M) e := Eq.trans rfl rfl
theorem dropS_a : dropS f e M = bindS (f e M) (fun _ e M => .go .nx e M) e := Eq.trans rfl rfl
def ifK (G G2 : Sv) : Bool → Env → Mem → RS := fun b e M => if b = true then G e M else G2 e M
theorem ifS_a : ifS t G G2 e M = bindS (t e M) (ifK G G2) e := Eq.trans rfl rfl
theorem ifK_t : ifK G G2 true e M = G e M := Eq.trans rfl rfl
theorem ifK_f : ifK G G2 false e M = G2 e M := Eq.trans rfl rfl
def asK (γ : Tg) : Vl → Env → Mem → RS := fun x e M => goG (γ x e M)
theorem asgS_a : asgS f γ e M = bindS (f e M) (asK γ) e := Eq.trans rfl rfl
theorem asK_a : asK γ x e M = goG (γ x e M) := Eq.trans rfl rfl
theorem setT_a {i : Nat} : setT i x e M = .ok (e.set i (some x)) M := Eq.trans rfl rfl
theorem nilT_a : nilT [] e M = .ok e M := Eq.trans rfl rfl
def cTa (δ : Tgs) (xs : List PyData) (r : Res Env) : Res Env := r.bind fun e1 M1 => δ xs e1 M1
theorem consT_a {d : PyData} {ds : List PyData} : consT γ δ (d :: ds) e M = cTa δ ds (γ (.d d) e M) := Eq.trans rfl rfl
theorem cTa_ok {ds : List PyData} {e1 : Env} : cTa δ ds (.ok e1 M1) = δ ds e1 M1 := Eq.trans rfl rfl
theorem tupT_a {n : Nat} {ds : List PyData} (h : ds.length = n) : tupT n δ (.d (.tuple ds)) e M = δ ds e M := if_pos h
theorem seqT_t {n : Nat} {ds : List PyData} (h : ds.length = n) : seqT n δ (.d (.tuple ds)) e M = δ ds e M := if_pos h
theorem seqT_l {n : Nat} {ds : List PyData} (h : ds.length = n) : seqT n δ (.d (.list ds)) e M = δ ds e M := if_pos h
theorem subT_a : subT f1 f2 x e M = (f1 e M).bind fun o M1 => (f2 e M1).bind fun j M2 => putV o j x e M2 := Eq.trans rfl rfl
theorem forS_a {fi : Ei} : forS fi γ G e M = bindS (fi e M) (fun xs e M => forL γ G xs e M) e := Eq.trans rfl rfl
theorem parS_2 {i j : Nat} {x y : Vl} : bindS (.ok [x, y] M1) (fun xs e M => match xs with
  | [x, y] => RS.go .nx ((e.set i (some x)).set j (some y)) M
  | _ => .st) e = .go .nx ((e.set i (some x)).set j (some y)) M1 := Eq.trans rfl rfl
theorem parS_a {i j : Nat} : parS i j h e M = bindS (h e M) (fun xs e M => match xs with
  | [x, y] => RS.go .nx ((e.set i (some x)).set j (some y)) M
  | _ => .st) e := Eq.trans rfl rfl
end
theorem freeze_at {i j : Nat} {e : Env} {M : Mem} {xs : List PyData} (h1 : e[i]? = some (some (.h j))) (h2 : M[j]? = some (.lst xs)) : freeze i e M = .go .nx (e.set i (some (.d (.list xs)))) (M.set j .gone) := by
  unfold freeze
  rw [h1]
  simp only [h2]
theorem whileS_at {c : Env → Mem → Res Bool} {g : Sv} {n : Env → Mem → Nat} {k : Nat} {e : Env} {M : Mem} {r : RS} (hk : n e M = k) (h : whileL c g k e M = r) : whileS c g n e M = r := by
  unfold whileS
  rw [hk]
  exact h
theorem listE_a {f : Ev} {e : Env} {M M1 : Mem} {x : Vl} {xs : List PyData} (h : f e M = .ok x M1) (hx : seqOf M1 x = some xs) : listE f e M = .ok xs M1 := by
  unfold listE
  rw [h, bind_ok]
  simp only [hx]
namespace C
/-- the box: what is left of a great number, a seed, a counter -/
def Bx (n : Nat) (o : MO) : Prop := ∃ a b c : Int, o = .lst [.int a, .int b, .int c] ∧ 0 ≤ a ∧ 0 ≤ b ∧ b < 2 ^ 62 ∧ 0 ≤ c ∧ c ≤ n
theorem Bx.mono {m n : Nat} {o : MO} (h : Bx m o) (hn : m ≤ n) : Bx n o := by
  obtain ⟨a, b, c, e, h1, h2, h3, h4, h5⟩ := h
  exact ⟨a, b, c, e, h1, h2, h3, h4, by omega⟩
theorem getM {M : Mem} {i : Nat} {o o' : MO} (h : M[i]? = some o) : (M.set i o')[i]? = some o' := by
  have : i < M.length := by
    by_cases hi : i < M.length
    · exact hi
    · rw [List.getElem?_eq_none (by omega)] at h; cases h
  simp [this]
theorem take_step (i n m : Nat) (M : Mem) (o : MO) (sp : Int) (self : Fn) (hM : M[i]? = some o) (hB : Bx n o) (hn : n + 1 ≤ 2 ^ 46) (hm : n + 1 ≤ m) (h0 : 0 < sp) (h1 : sp ≤ 10 ^ 70)
    (hs : 10000000 < sp → ∃ v1 o1 v2 o2, self [.h i, .d (.int 10000000)] M = .ok (.d (.int v1)) (M.set i o1) ∧ self [.h i, .d (.int ((sp - 1) / 10000000 + 1))] (M.set i o1) = .ok (.d (.int v2)) (M.set i o2) ∧ Bx m o2) :
    ∃ v o', defM 4 0 (g_take self) [.h i, .d (.int sp)] M = .ok (.d (.int v)) (M.set i o') ∧ Bx m o' ∧ 0 ≤ v ∧ v < sp := by
  obtain ⟨a, b, c, rfl, ha, hb, hb2, hc, hc2⟩ := hB
  have i0 : atI [PyData.int a, .int b, .int c] 0 = some (.int a) := rfl
  have i1 : atI [PyData.int a, .int b, .int c] 1 = some (.int b) := rfl
  have i2 : atI [PyData.int a, .int b, .int c] 2 = some (.int c) := rfl
  have p0 : ixN [PyData.int a, .int b, .int c].length 0 = some 0 := rfl
  have p2 : ixN [PyData.int a, .int b, .int c].length 2 = some 2 := rfl
  have hv : ∀ x : Int, 0 ≤ x % sp ∧ x % sp < sp := fun x => ⟨Int.emod_nonneg _ (by omega), Int.emod_lt_of_pos _ h0⟩
  unfold g_take
  by_cases h : 0 < a
  · simp only [defM, startE, seqS_a, setS_a, bindS_ok, bindS_er, then_nx, then_rt, then_er, ifS_a, ifK_t, ifK_f, retS_a, dropS_a, asgS_a, asK_a, goG_ok, subT_a, nopS_a, getV_0, getV_s, cst_a, op2_a, o2a_ok, o2b_ok, opT_a, oTa_ok, oTb_ok, consA_a, cAa_ok, cAb_ok, nilA_a, callF_a, cFa_ok, callE_a, cEa_ok, newE_a, nwa_ok, datE_a, dta_ok, dispE_a, tupE_a, tpa_ok, asDs_a, datas, bind_ok, pur_ok, bool_b, leave_d, leave_nx, leave_er, ifE_a, ifa_t, ifa_f, notT_a, nta_ok, andT_a, ana_t, ana_f, orT_a, ora_t, ora_f, tstE_a, tsa_b, andE_a, aEa_t, aEa_f, orE_a, oEa_t, oEa_f, notE_a, nEa_ok, add_ii, sub_ii, gt_ii, lt_ii, ge_ii, le_ii, setT_a, consT_a, cTa_ok, nilT_a, tupT_a, seqT_t, seqT_l, forS_a, List.map_cons, List.map_nil, List.length_cons, List.length_nil, Nat.reduceAdd, Nat.reduceSub, Nat.zero_add, Nat.add_zero, List.replicate, List.cons_append, List.nil_append, List.append_nil, List.getElem?_cons_zero, List.getElem?_cons_succ, List.set_cons_zero, List.set_cons_succ, List.getElem?_nil, Option.map_some, Option.map_none, Option.bind_some, if_true, if_false, ite_true, ite_false, eq_self_iff_true, and_self, and_true, true_and, decide_true, decide_false, Bool.false_eq_true, Bool.not_true, Bool.not_false, sizeLine, Nat.reducePow, Nat.reduceLeDiff, Nat.zero_le, pow_7, pow_18, pow_40, ixV_h hM i0, h, mod_ii h0, fdiv_ii h0 (by omega), putV_h hM p0]
    refine ⟨a % sp, _, ?_, ⟨a / sp, b, c, rfl, ?_, hb, hb2, hc, by omega⟩, hv _⟩
    · rw [take_all (by simp)]
      try rfl
    · exact Int.ediv_nonneg ha (by omega)
  · by_cases hsp : 10000000 < sp
    · obtain ⟨v1, o1, v2, o2, e1, e2, hB2⟩ := hs hsp
      have hmul : mulV (.d (.int 10000000)) (.d (.int v2)) (M.set i o2) = .ok (.d (.int (10000000 * v2))) (M.set i o2) := mul_ii (.inl (by decide))
      simp only [defM, startE, seqS_a, setS_a, bindS_ok, bindS_er, then_nx, then_rt, then_er, ifS_a, ifK_t, ifK_f, retS_a, dropS_a, asgS_a, asK_a, goG_ok, subT_a, nopS_a, getV_0, getV_s, cst_a, op2_a, o2a_ok, o2b_ok, opT_a, oTa_ok, oTb_ok, consA_a, cAa_ok, cAb_ok, nilA_a, callF_a, cFa_ok, callE_a, cEa_ok, newE_a, nwa_ok, datE_a, dta_ok, dispE_a, tupE_a, tpa_ok, asDs_a, datas, bind_ok, pur_ok, bool_b, leave_d, leave_nx, leave_er, ifE_a, ifa_t, ifa_f, notT_a, nta_ok, andT_a, ana_t, ana_f, orT_a, ora_t, ora_f, tstE_a, tsa_b, andE_a, aEa_t, aEa_f, orE_a, oEa_t, oEa_f, notE_a, nEa_ok, add_ii, sub_ii, gt_ii, lt_ii, ge_ii, le_ii, setT_a, consT_a, cTa_ok, nilT_a, tupT_a, seqT_t, seqT_l, forS_a, List.map_cons, List.map_nil, List.length_cons, List.length_nil, Nat.reduceAdd, Nat.reduceSub, Nat.zero_add, Nat.add_zero, List.replicate, List.cons_append, List.nil_append, List.append_nil, List.getElem?_cons_zero, List.getElem?_cons_succ, List.set_cons_zero, List.set_cons_succ, List.getElem?_nil, Option.map_some, Option.map_none, Option.bind_some, if_true, if_false, ite_true, ite_false, eq_self_iff_true, and_self, and_true, true_and, decide_true, decide_false, Bool.false_eq_true, Bool.not_true, Bool.not_false, sizeLine, Nat.reducePow, Nat.reduceLeDiff, Nat.zero_le, pow_7, pow_18, pow_40, ixV_h hM i0, h, hsp, e1, fdiv_ii (show (0 : Int) < 10000000 by decide) (by decide), e2, hmul, mod_ii h0]
      refine ⟨(v1 + 10000000 * v2) % sp, o2, ?_, hB2, hv _⟩
      rw [take_all (by simp)]
    · have j1 : atI [PyData.int a, .int b, .int (c + 1)] 1 = some (.int b) := rfl
      have j2 : atI [PyData.int a, .int b, .int (c + 1)] 2 = some (.int (c + 1)) := rfl
      have hM' := getM (o' := .lst [.int a, .int b, .int (c + 1)]) hM
      have hmul : mulV (.d (.int 39373)) (.d (.int (c + 1))) (M.set i (.lst [.int a, .int b, .int (c + 1)])) = .ok (.d (.int (39373 * (c + 1)))) (M.set i (.lst [.int a, .int b, .int (c + 1)])) := mul_ii (.inl (by decide))
      have hpow : powV (.d (.int (b + 39373 * (c + 1)))) (.d (.int 5)) (M.set i (.lst [.int a, .int b, .int (c + 1)])) = .ok (.d (.int ((b + 39373 * (c + 1)) ^ 5))) (M.set i (.lst [.int a, .int b, .int (c + 1)])) := pow_ii (by decide) (by decide) (by omega)
      generalize hq : (b + 39373 * (c + 1)) ^ 5 % 2147483647 = q at *
      have hq1 : 0 ≤ q := by omega
      have hq2 : q < 2147483647 := by omega
      simp only [defM, startE, seqS_a, setS_a, bindS_ok, bindS_er, then_nx, then_rt, then_er, ifS_a, ifK_t, ifK_f, retS_a, dropS_a, asgS_a, asK_a, goG_ok, subT_a, nopS_a, getV_0, getV_s, cst_a, op2_a, o2a_ok, o2b_ok, opT_a, oTa_ok, oTb_ok, consA_a, cAa_ok, cAb_ok, nilA_a, callF_a, cFa_ok, callE_a, cEa_ok, newE_a, nwa_ok, datE_a, dta_ok, dispE_a, tupE_a, tpa_ok, asDs_a, datas, bind_ok, pur_ok, bool_b, leave_d, leave_nx, leave_er, ifE_a, ifa_t, ifa_f, notT_a, nta_ok, andT_a, ana_t, ana_f, orT_a, ora_t, ora_f, tstE_a, tsa_b, andE_a, aEa_t, aEa_f, orE_a, oEa_t, oEa_f, notE_a, nEa_ok, add_ii, sub_ii, gt_ii, lt_ii, ge_ii, le_ii, setT_a, consT_a, cTa_ok, nilT_a, tupT_a, seqT_t, seqT_l, forS_a, List.map_cons, List.map_nil, List.length_cons, List.length_nil, Nat.reduceAdd, Nat.reduceSub, Nat.zero_add, Nat.add_zero, List.replicate, List.cons_append, List.nil_append, List.append_nil, List.getElem?_cons_zero, List.getElem?_cons_succ, List.set_cons_zero, List.set_cons_succ, List.getElem?_nil, Option.map_some, Option.map_none, Option.bind_some, if_true, if_false, ite_true, ite_false, eq_self_iff_true, and_self, and_true, true_and, decide_true, decide_false, Bool.false_eq_true, Bool.not_true, Bool.not_false, sizeLine, Nat.reducePow, Nat.reduceLeDiff, Nat.zero_le, pow_7, pow_18, pow_40, ixV_h hM i0, ixV_h hM i1, ixV_h hM i2, h, hsp, mod_ii h0, putV_h hM p2, ixV_h hM' j1, ixV_h hM' j2, hmul, hpow, mod_ii (show (0 : Int) < 2147483647 by decide), hq, mod_ii (show (0 : Int) < 40009 by decide), mul_ii (.inl (show -(2 ^ 64) < q ∧ q < 2 ^ 64 by omega)), mul_ii (i := c + 1) (.inr (show -(2 ^ 64) < (7919 : Int) ∧ (7919 : Int) < 2 ^ 64 by decide)), mod_ii (show (0 : Int) < 2147483629 by decide), fdiv_ii (show (0 : Int) < 64 by decide) (by decide)]
      refine ⟨((q * (q % 40009 + 7) + (c + 1) * 7919) % 2147483629 / 64 % sp), .lst [.int a, .int b, .int (c + 1)], ?_, ⟨a, b, c + 1, rfl, ha, hb, hb2, by omega, by omega⟩, hv _⟩
      rw [take_all (by simp)]
theorem take_ok : ∀ (f n i : Nat) (M : Mem) (o : MO) (sp : Int), M[i]? = some o → Bx n o → n + 2 ^ f ≤ 2 ^ 45 → 0 < sp → sp ≤ 10 ^ (7 * (f + 1)) → f < 10 →
    ∃ v o', m_take (f + 1) [.h i, .d (.int sp)] M = .ok (.d (.int v)) (M.set i o') ∧ Bx (n + 2 ^ f) o' ∧ 0 ≤ v ∧ v < sp := by
  intro f
  induction f with
  | zero =>
    intro n i M o sp hM hB hn h0 h1 hf
    exact take_step i n (n + 2 ^ 0) M o sp (m_take 0) hM hB (by omega) (by omega) h0 (by omega) (fun h => by omega)
  | succ f ih =>
    intro n i M o sp hM hB hn h0 h1 hf
    have hp : 0 < 2 ^ f := Nat.pow_pos (by decide)
    have hp2 : 2 ^ (f + 1) = 2 ^ f + 2 ^ f := by rw [Nat.pow_succ]; omega
    have hT : (10 : Int) ^ (7 * (f + 1 + 1)) = 10 ^ (7 * (f + 1)) * 10000000 := by
      rw [show 7 * (f + 1 + 1) = 7 * (f + 1) + 7 by omega, Int.pow_add]
      rfl
    have hT2 : (10000000 : Int) ≤ 10 ^ (7 * (f + 1)) := by
      have : (10 : Nat) ^ 7 ≤ 10 ^ (7 * (f + 1)) := Nat.pow_le_pow_right (by decide) (by omega)
      have e : ((10 ^ (7 * (f + 1)) : Nat) : Int) = (10 : Int) ^ (7 * (f + 1)) := by simp
      omega
    have hT3 : (10 : Int) ^ (7 * (f + 1 + 1)) ≤ 10 ^ 70 := by
      have : (10 : Nat) ^ (7 * (f + 1 + 1)) ≤ 10 ^ 70 := Nat.pow_le_pow_right (by decide) (by omega)
      have e : ((10 ^ (7 * (f + 1 + 1)) : Nat) : Int) = (10 : Int) ^ (7 * (f + 1 + 1)) := by simp
      omega
    refine take_step i n (n + 2 ^ (f + 1)) M o sp (m_take (f + 1)) hM hB (by omega) (by omega) h0 (by omega) (fun hs => ?_)
    obtain ⟨v1, o1, e1, B1, k1, _⟩ := ih n i M o 10000000 hM hB (by omega) (by decide) hT2 (by omega)
    obtain ⟨v2, o2, e2, B2, k2, _⟩ := ih (n + 2 ^ f) i (M.set i o1) o1 ((sp - 1) / 10000000 + 1) (getM hM) B1 (by omega) (by omega) (by omega) (by omega)
    rw [List.set_set] at e2
    exact ⟨v1, o1, v2, o2, e1, e2, by rw [hp2, ← Nat.add_assoc]; exact B2⟩
/-- one draw -/
theorem take10 {n i : Nat} {M : Mem} {o : MO} {sp : Int} (hM : M[i]? = some o) (hB : Bx n o) (hn : n ≤ 2 ^ 44) (h0 : 0 < sp) (h1 : sp ≤ 10 ^ 70) :
    ∃ v o', m_take 10 [.h i, .d (.int sp)] M = .ok (.d (.int v)) (M.set i o') ∧ Bx (n + 512) o' ∧ 0 ≤ v ∧ v < sp :=
  take_ok 9 n i M o sp hM hB (by omega) h0 h1 (by omega)
end C
end DL

namespace DL
open PySem PySem.Spec L2
/-! ### loops, lists -/
theorem ixN_nat {n k : Nat} (h : k < n) : ixN n (k : Int) = some k := by
  unfold ixN
  rw [if_pos (by omega), if_pos (by omega)]
  simp
theorem atI_nat {α : Type} {xs : List α} {k : Nat} (h : k < xs.length) : atI xs (k : Int) = some xs[k] := by
  unfold atI
  rw [ixN_nat h]
  simp [h]
theorem methE_at {g : Nat → List PyData → List Vl → Mem → Res Vl} {f : Ev} {h : Evs} {e : Env} {M M2 : Mem} {i : Nat} {xs0 xs : List PyData} {ys : List Vl} (hf : f e M = .ok (.h i) M) (h0 : M[i]? = some (.lst xs0)) (hh : h e M = .ok ys M2) (h2 : M2[i]? = some (.lst xs)) :
    methE g f h e M = (g i xs ys M2).pur := by
  unfold methE
  rw [hf, bind_ok]
  simp only [h0, hh, bind_ok, h2]
theorem meth0E_at {g : Nat → List PyData → List Vl → Mem → Res Vl} {f : Ev} {e : Env} {M : Mem} {i : Nat} {xs : List PyData} (hf : f e M = .ok (.h i) M) (h0 : M[i]? = some (.lst xs)) : meth0E g f e M = (g i xs [] M).pur := by
  unfold meth0E
  rw [hf, bind_ok]
  simp only [h0]
theorem pop_at {i k : Nat} {xs : List PyData} {M : Mem} (h : k < xs.length) (hl : xs.length ≤ 2 ^ 62) : popM i xs [.d (.int (k : Nat))] M = .ok (.d xs[k]) (M.set i (.lst (xs.eraseIdx k))) := by
  unfold popM
  simp only [ixN_nat h]
  rw [if_pos ⟨by omega, by omega⟩]
  simp [h]
theorem app_at {i : Nat} {xs : List PyData} {y : PyData} {M : Mem} (h : xs.length < sizeLine) : appM i xs [.d y] M = .ok (.d .none) (M.set i (.lst (xs ++ [y]))) := if_pos h
theorem while_step {c : Env → Mem → Res Bool} {g : Sv} {n : Nat} {e e2 : Env} {M M1 M2 : Mem} (h1 : c e M = .ok true M1) (h2 : g e M1 = .go .nx e2 M2) : whileL c g (n + 1) e M = whileL c g n e2 M2 := by
  show lift c _ e M = _
  rw [lift_eq, h1, bindS_ok, if_pos rfl, h2]
theorem while_end {c : Env → Mem → Res Bool} {g : Sv} {n : Nat} {e : Env} {M M1 : Mem} (h1 : c e M = .ok false M1) : whileL c g (n + 1) e M = .go .nx e M1 := by
  show lift c _ e M = _
  rw [lift_eq, h1, bindS_ok, if_neg Bool.false_ne_true]
theorem forL_cons {γ : Tg} {g : Sv} {x : PyData} {xs : List PyData} {e e1 e2 : Env} {M M1 M2 : Mem} (h1 : γ (.d x) e M = .ok e1 M1) (h2 : g e1 M1 = .go .nx e2 M2) : forL γ g (x :: xs) e M = forL γ g xs e2 M2 := by
  show (match γ (.d x) e M with
    | .ok e1 M1 => _
    | _ => _) = _
  rw [h1]
  simp only [h2]
/-- a loop that keeps something -/
theorem forL_inv {γ : Tg} {g : Sv} (I : Nat → Env → Mem → Prop) (xs : List PyData) : ∀ (j : Nat) (e : Env) (M : Mem), j ≤ xs.length → (∀ (k : Nat) (x : PyData) (e : Env) (M : Mem), j ≤ k → xs[k]? = some x → I k e M → ∃ e1 M1 e2 M2, γ (.d x) e M = .ok e1 M1 ∧ g e1 M1 = .go .nx e2 M2 ∧ I (k + 1) e2 M2) → I j e M →
    ∃ e' M', forL γ g (xs.drop j) e M = .go .nx e' M' ∧ I xs.length e' M' := by
  intro j
  induction hn : xs.length - j generalizing j with
  | zero =>
    intro e M hj _ hI
    have : j = xs.length := by omega
    subst this
    rw [List.drop_length]
    exact ⟨e, M, rfl, hI⟩
  | succ n ih =>
    intro e M hj hs hI
    have hlt : j < xs.length := by omega
    rw [List.drop_eq_getElem_cons hlt]
    obtain ⟨e1, M1, e2, M2, h1, h2, h3⟩ := hs j xs[j] e M (Nat.le_refl _) (List.getElem?_eq_getElem hlt) hI
    rw [forL_cons h1 h2]
    exact ih (j + 1) (by omega) e2 M2 (by omega) (fun k x e M hk => hs k x e M (by omega)) h3
theorem forL_all {γ : Tg} {g : Sv} (I : Nat → Env → Mem → Prop) {xs : List PyData} {e : Env} {M : Mem} (hs : ∀ (k : Nat) (x : PyData) (e : Env) (M : Mem), xs[k]? = some x → I k e M → ∃ e1 M1 e2 M2, γ (.d x) e M = .ok e1 M1 ∧ g e1 M1 = .go .nx e2 M2 ∧ I (k + 1) e2 M2) (h0 : I 0 e M) :
    ∃ e' M', forL γ g xs e M = .go .nx e' M' ∧ I xs.length e' M' := forL_inv I xs 0 e M (Nat.zero_le _) (fun k x e M _ => hs k x e M) h0
/-- a comprehension that keeps something -/
theorem lcL_all {γ : Tg} {t : Env → Mem → Res Bool} {h : Ev} {ew : Env} (I : Nat → Mem → Prop) (P : Nat → PyData → PyData → Prop) (xs : List PyData) : ∀ (j : Nat) (acc : List PyData) (M : Mem), j ≤ xs.length → acc.length + (xs.length - j) ≤ sizeLine →
    (∀ (k : Nat) (x : PyData) (M : Mem), xs[k]? = some x → I k M → ∃ e1 M1 M2 y M3, γ (.d x) ew M = .ok e1 M1 ∧ t e1 M1 = .ok true M2 ∧ h e1 M2 = .ok (.d y) M3 ∧ I (k + 1) M3 ∧ P k x y) → I j M →
    ∃ ys M', lcL γ t h ew (xs.drop j) acc M = .ok (acc ++ ys) M' ∧ I xs.length M' ∧ ys.length = xs.length - j ∧ ∀ k x y, xs[j + k]? = some x → ys[k]? = some y → P (j + k) x y := by
  intro j
  induction hn : xs.length - j generalizing j with
  | zero =>
    intro acc M hj _ _ hI
    have : j = xs.length := by omega
    subst this
    rw [List.drop_length]
    exact ⟨[], M, by rw [List.append_nil]; rfl, hI, rfl, fun k x y _ e => by cases e⟩
  | succ n ih =>
    intro acc M hj hl hs hI
    have hlt : j < xs.length := by omega
    rw [List.drop_eq_getElem_cons hlt]
    obtain ⟨e1, M1, M2, y, M3, h1, h2, h3, h4, h5⟩ := hs j xs[j] M (List.getElem?_eq_getElem hlt) hI
    obtain ⟨ys, M', k1, k2, k3, k4⟩ := ih (j + 1) (by omega) (acc ++ [y]) M3 (by omega) (by rw [List.length_append, List.length_singleton]; omega) hs h4
    refine ⟨y :: ys, M', ?_, k2, by rw [List.length_cons, k3], ?_⟩
    · unfold lcL
      rw [h1]
      simp only [h2, h3]
      rw [if_pos (by omega), k1, List.append_assoc]
      rfl
    · intro k x z e1 e2
      cases k with
      | zero =>
        rw [Nat.add_zero] at e1 ⊢
        rw [List.getElem?_eq_getElem hlt] at e1
        cases e1
        cases e2
        exact h5
      | succ k =>
        have := k4 k x z (by rw [show j + 1 + k = j + (k + 1) by omega]; exact e1) e2
        rw [show j + (k + 1) = j + 1 + k by omega]
        exact this
/-- a comprehension without side effects -/
theorem lcL_map {γ : Tg} {t : Env → Mem → Res Bool} {h : Ev} {ew : Env} {M : Mem} (F : PyData → PyData) : ∀ (xs acc : List PyData), acc.length + xs.length ≤ sizeLine → (∀ x ∈ xs, ∃ e1, γ (.d x) ew M = .ok e1 M ∧ t e1 M = .ok true M ∧ h e1 M = .ok (.d (F x)) M) →
    lcL γ t h ew xs acc M = .ok (acc ++ xs.map F) M
  | [], acc, _, _ => by rw [List.map_nil, List.append_nil]; rfl
  | x :: xs, acc, hl, hs => by
    obtain ⟨e1, h1, h2, h3⟩ := hs x List.mem_cons_self
    rw [List.length_cons] at hl
    unfold lcL
    rw [h1]
    simp only [h2, h3]
    rw [if_pos (by omega), lcL_map F xs (acc ++ [F x]) (by rw [List.length_append, List.length_singleton]; omega) fun y hy => hs y (List.mem_cons_of_mem _ hy), List.append_assoc]
    rfl
section
variable {M : Mem} {a b x o : MO} {i L : Nat}
theorem m2_get (hi : i < M.length) : (M ++ [a, b])[i]? = M[i]? := List.getElem?_append_left hi
theorem m2_a (hL : L = M.length) : (M ++ [a, b])[L]? = some a := by subst hL; simp
theorem m2_b (hL : L = M.length) : (M ++ [a, b])[L + 1]? = some b := by subst hL; simp
theorem m2_set (hi : i < M.length) : (M ++ [a, b]).set i x = M.set i x ++ [a, b] := by rw [List.set_append_left _ _ hi]
theorem m2_sa (hL : L = M.length) : (M ++ [a, b]).set L x = M ++ [x, b] := by subst hL; rw [List.set_append_right _ _ (Nat.le_refl _)]; simp
theorem m2_sb (hL : L = M.length) : (M ++ [a, b]).set (L + 1) x = M ++ [a, x] := by subst hL; rw [List.set_append_right _ _ (by omega)]; simp
theorem m1_get (hi : i < M.length) : (M ++ [a])[i]? = M[i]? := List.getElem?_append_left hi
theorem m1_a (hL : L = M.length) : (M ++ [a])[L]? = some a := by subst hL; simp
theorem m1_set (hi : i < M.length) : (M ++ [a]).set i x = M.set i x ++ [a] := by rw [List.set_append_left _ _ hi]
theorem m1_sa (hL : L = M.length) : (M ++ [a]).set L x = M ++ [x] := by subst hL; rw [List.set_append_right _ _ (Nat.le_refl _)]; simp
theorem lt_of_get (h : M[i]? = some o) : i < M.length := by
  by_cases hi : i < M.length
  · exact hi
  · rw [List.getElem?_eq_none (by omega)] at h; cases h
end
theorem lt_of_getL {α : Type} {xs : List α} {i : Nat} {x : α} (h : xs[i]? = some x) : i < xs.length := by
  by_cases hi : i < xs.length
  · exact hi
  · rw [List.getElem?_eq_none (by omega)] at h; cases h
theorem perm_erase {α : Type} : ∀ (l : List α) (k : Nat) (h : k < l.length), (l[k] :: l.eraseIdx k).Perm l
  | x :: l, 0, _ => by simp
  | x :: l, k + 1, h => by
    rw [List.getElem_cons_succ, List.eraseIdx_cons_succ]
    exact (List.Perm.swap x _ _).trans (List.Perm.cons x (perm_erase l k (by simpa using h)))
theorem canLayAll_iff : ∀ xs : List PyData, PyData.canLayAll0 xs = true ↔ ∀ x ∈ xs, PyData.canLay0 x = true
  | [] => by simp [PyData.canLayAll0]
  | x :: xs => by simp [PyData.canLayAll0, canLayAll_iff xs]
theorem eqvAll_nil (xs : List PyData) : PyData.eqvAll xs [] = xs.isEmpty := by cases xs <;> simp [PyData.eqvAll]
/-- a list beside the empty list -/
theorem ne_nil {a : Vl} {xs : List PyData} {M : Mem} (h : datOf M a = some (.list xs)) (hc : ∀ x ∈ xs, x.canLay0 = true) : neV a (.d (.list [])) M = .ok (.d (.bool (!xs.isEmpty))) M := by
  unfold neV
  rw [h]
  show neD (.list xs) (.list []) M = _
  have h1 : (PyData.list xs).canLay0 = true := by rw [PyData.canLay0]; exact (canLayAll_iff xs).mpr hc
  have h2 : (PyData.list []).canLay0 = true := rfl
  have h3 : (PyData.list []).depth = 1 := rfl
  refine (if_pos (by unfold eqOk; rw [h1, h2, h3]; simp; omega)).trans ?_
  rw [PyData.eqv, eqvAll_nil]
theorem len_at {x : Vl} {xs : List PyData} {M : Mem} (h : seqOf M x = some xs) : lenV [x] M = .ok (.d (.int (xs.length : Nat))) M := by
  cases x with
  | d y =>
    cases y with
    | str z => simp [seqOf, tupOf, rdOf, lstOf] at h
    | _ => simp only [lenV, h]
  | _ => simp only [lenV, h]
theorem len_l {xs : List PyData} {M : Mem} : lenV [.d (.list xs)] M = .ok (.d (.int (xs.length : Nat))) M := len_at rfl
theorem len_t {xs : List PyData} {M : Mem} : lenV [.d (.tuple xs)] M = .ok (.d (.int (xs.length : Nat))) M := len_at rfl
theorem len_s {xs : List PyData} {M : Mem} : lenV [.s xs] M = .ok (.d (.int (xs.length : Nat))) M := len_at rfl
theorem len_h {i : Nat} {xs : List PyData} {M : Mem} (h : M[i]? = some (.lst xs)) : lenV [.h i] M = .ok (.d (.int (xs.length : Nat))) M := len_at (by simp [seqOf, tupOf, rdOf, lstOf, h])
namespace C
/-- one of several -/
theorem of_ok {n i : Nat} {M : Mem} {o : MO} {xs : List PyData} (hM : M[i]? = some o) (hB : Bx n o) (hn : n ≤ 2 ^ 44) (h0 : xs ≠ []) (h1 : xs.length ≤ 2 ^ 60) :
    ∃ d o', m_of [.h i, .d (.list xs)] M = .ok (.d d) (M.set i o') ∧ Bx (n + 512) o' ∧ d ∈ xs := by
  have hl : 0 < xs.length := List.length_pos_iff.mpr h0
  obtain ⟨v, o', e, B, k1, k2⟩ := take10 (sp := (xs.length : Nat)) hM hB hn (by omega) (by omega)
  obtain ⟨k, rfl⟩ := Int.eq_ofNat_of_zero_le k1
  have hk : k < xs.length := by omega
  refine ⟨xs[k], o', ?_, B, List.getElem_mem hk⟩
  unfold m_of g_of
  simp only [defM, startE, seqS_a, setS_a, bindS_ok, bindS_er, then_nx, then_rt, then_er, ifS_a, ifK_t, ifK_f, retS_a, dropS_a, asgS_a, asK_a, goG_ok, subT_a, nopS_a, getV_0, getV_s, cst_a, op2_a, o2a_ok, o2b_ok, opT_a, oTa_ok, oTb_ok, consA_a, cAa_ok, cAb_ok, nilA_a, callF_a, cFa_ok, callE_a, cEa_ok, newE_a, nwa_ok, datE_a, dta_ok, dispE_a, tupE_a, tpa_ok, asDs_a, datas, bind_ok, pur_ok, bool_b, leave_d, leave_nx, leave_er, ifE_a, ifa_t, ifa_f, notT_a, nta_ok, andT_a, ana_t, ana_f, orT_a, ora_t, ora_f, tstE_a, tsa_b, andE_a, aEa_t, aEa_f, orE_a, oEa_t, oEa_f, notE_a, nEa_ok, add_ii, sub_ii, gt_ii, lt_ii, ge_ii, le_ii, setT_a, consT_a, cTa_ok, nilT_a, tupT_a, seqT_t, seqT_l, forS_a, List.map_cons, List.map_nil, List.length_cons, List.length_nil, Nat.reduceAdd, Nat.reduceSub, Nat.zero_add, Nat.add_zero, List.replicate, List.cons_append, List.nil_append, List.append_nil, List.getElem?_cons_zero, List.getElem?_cons_succ, List.set_cons_zero, List.set_cons_succ, List.getElem?_nil, Option.map_some, Option.map_none, Option.bind_some, if_true, if_false, ite_true, ite_false, eq_self_iff_true, and_self, and_true, true_and, decide_true, decide_false, Bool.false_eq_true, Bool.not_true, Bool.not_false, sizeLine, Nat.reducePow, Nat.reduceLeDiff, Nat.zero_le, pow_7, pow_18, pow_40, len_l, e, ixV_l (atI_nat hk)]
  rw [take_all (by simp)]
/-- all of some, in another order -/
theorem strewn_loop {i : Nat} {xs0 : List PyData} : ∀ (f : Nat) (left found : List PyData) (n : Nat) (M : Mem) (o : MO), left.length = f → M[i]? = some o → Bx n o → n + 512 * f ≤ 2 ^ 44 → f ≤ 2 ^ 20 → found.length + left.length ≤ 2 ^ 20 → (∀ x ∈ left, x.canLay0 = true) →
    ∃ o' ys, whileL (opT neV (getV 2) (datE (dispE nilA))) (dropS (methE appM (getV 3) (consA (methE popM (getV 2) (consA (callF 2 (C.m_take 10) (consA (getV 0) (consA (callE lenV (consA (getV 2) nilA)) nilA))) nilA)) nilA))) (f + 1)
      [some (.h i), some (.d (.list xs0)), some (.h M.length), some (.h (M.length + 1))] (M ++ [.lst left, .lst found])
      = .go .nx [some (.h i), some (.d (.list xs0)), some (.h M.length), some (.h (M.length + 1))] (M.set i o' ++ [.lst [], .lst ys]) ∧ Bx (n + 512 * f) o' ∧ ys.Perm (found ++ left) := by
  intro f
  induction f with
  | zero =>
    intro left found n M o hl hM hB hn _ _ hc
    have hl : left = [] := List.length_eq_zero_iff.mp hl
    subst hl
    refine ⟨o, found, ?_, by simpa using hB, by simp⟩
    have hd : datOf (M ++ [.lst [], .lst found]) (.h M.length) = some (.list []) := by simp [datOf, m2_a]
    have hs : M.set i o = M := by
      have hi := lt_of_get hM
      rw [List.getElem?_eq_getElem hi] at hM
      cases hM
      simp
    rw [while_end (M1 := M ++ [.lst [], .lst found]) (by simp only [defM, startE, seqS_a, setS_a, bindS_ok, bindS_er, then_nx, then_rt, then_er, ifS_a, ifK_t, ifK_f, retS_a, dropS_a, asgS_a, asK_a, goG_ok, subT_a, nopS_a, getV_0, getV_s, cst_a, op2_a, o2a_ok, o2b_ok, opT_a, oTa_ok, oTb_ok, consA_a, cAa_ok, cAb_ok, nilA_a, callF_a, cFa_ok, callE_a, cEa_ok, newE_a, nwa_ok, datE_a, dta_ok, dispE_a, tupE_a, tpa_ok, asDs_a, datas, bind_ok, pur_ok, bool_b, leave_d, leave_nx, leave_er, ifE_a, ifa_t, ifa_f, notT_a, nta_ok, andT_a, ana_t, ana_f, orT_a, ora_t, ora_f, tstE_a, tsa_b, andE_a, aEa_t, aEa_f, orE_a, oEa_t, oEa_f, notE_a, nEa_ok, add_ii, sub_ii, gt_ii, lt_ii, ge_ii, le_ii, setT_a, consT_a, cTa_ok, nilT_a, tupT_a, seqT_t, seqT_l, forS_a, List.map_cons, List.map_nil, List.length_cons, List.length_nil, Nat.reduceAdd, Nat.reduceSub, Nat.zero_add, Nat.add_zero, List.replicate, List.cons_append, List.nil_append, List.append_nil, List.getElem?_cons_zero, List.getElem?_cons_succ, List.set_cons_zero, List.set_cons_succ, List.getElem?_nil, Option.map_some, Option.map_none, Option.bind_some, if_true, if_false, ite_true, ite_false, eq_self_iff_true, and_self, and_true, true_and, decide_true, decide_false, Bool.false_eq_true, Bool.not_true, Bool.not_false, sizeLine, Nat.reducePow, Nat.reduceLeDiff, Nat.zero_le, pow_7, pow_18, pow_40, ne_nil hd (by simp)]; rfl), hs]
  | succ f ih =>
    intro left found n M o hl hM hB hn hf hsz hc
    have hd : datOf (M ++ [.lst left, .lst found]) (.h M.length) = some (.list left) := by simp [datOf, m2_a]
    have hi := lt_of_get hM
    have hne : left.isEmpty = false := by cases left with
      | nil => cases hl
      | cons _ _ => rfl
    have hM2 : (M ++ [.lst left, .lst found])[i]? = some o := by rw [m2_get hi]; exact hM
    obtain ⟨v, o1, e, B, k1, k2⟩ := take10 (sp := (left.length : Nat)) hM2 hB (by omega) (by omega) (by omega)
    obtain ⟨k, rfl⟩ := Int.eq_ofNat_of_zero_le k1
    have hk : k < left.length := by omega
    rw [m2_set hi] at e
    have hs0 : sizeLine = 2 ^ 24 := rfl
    have pop := pop_at (i := M.length) (M := M.set i o1 ++ [.lst left, .lst found]) hk (by omega)
    rw [m2_sa (by simp)] at pop
    have app := app_at (i := M.length + 1) (xs := found) (y := left[k]) (M := M.set i o1 ++ [.lst (left.eraseIdx k), .lst found]) (by omega)
    rw [m2_sb (by simp)] at app
    have hlen : lenV [.h M.length] (M ++ [.lst left, .lst found]) = _ := len_h (m2_a rfl)
    have inner : methE popM (getV 2) (consA (callF 2 (C.m_take 10) (consA (getV 0) (consA (callE lenV (consA (getV 2) nilA)) nilA))) nilA) [some (.h i), some (.d (.list xs0)), some (.h M.length), some (.h (M.length + 1))] (M ++ [.lst left, .lst found])
        = .ok (.d left[k]) (M.set i o1 ++ [.lst (left.eraseIdx k), .lst found]) := by
      rw [methE_at (i := M.length) (xs0 := left) (xs := left) (ys := [.d (.int (k : Nat))]) (M2 := M.set i o1 ++ [.lst left, .lst found]) (by simp only [defM, startE, seqS_a, setS_a, bindS_ok, bindS_er, then_nx, then_rt, then_er, ifS_a, ifK_t, ifK_f, retS_a, dropS_a, asgS_a, asK_a, goG_ok, subT_a, nopS_a, getV_0, getV_s, cst_a, op2_a, o2a_ok, o2b_ok, opT_a, oTa_ok, oTb_ok, consA_a, cAa_ok, cAb_ok, nilA_a, callF_a, cFa_ok, callE_a, cEa_ok, newE_a, nwa_ok, datE_a, dta_ok, dispE_a, tupE_a, tpa_ok, asDs_a, datas, bind_ok, pur_ok, bool_b, leave_d, leave_nx, leave_er, ifE_a, ifa_t, ifa_f, notT_a, nta_ok, andT_a, ana_t, ana_f, orT_a, ora_t, ora_f, tstE_a, tsa_b, andE_a, aEa_t, aEa_f, orE_a, oEa_t, oEa_f, notE_a, nEa_ok, add_ii, sub_ii, gt_ii, lt_ii, ge_ii, le_ii, setT_a, consT_a, cTa_ok, nilT_a, tupT_a, seqT_t, seqT_l, forS_a, List.map_cons, List.map_nil, List.length_cons, List.length_nil, Nat.reduceAdd, Nat.reduceSub, Nat.zero_add, Nat.add_zero, List.replicate, List.cons_append, List.nil_append, List.append_nil, List.getElem?_cons_zero, List.getElem?_cons_succ, List.set_cons_zero, List.set_cons_succ, List.getElem?_nil, Option.map_some, Option.map_none, Option.bind_some, if_true, if_false, ite_true, ite_false, eq_self_iff_true, and_self, and_true, true_and, decide_true, decide_false, Bool.false_eq_true, Bool.not_true, Bool.not_false, sizeLine, Nat.reducePow, Nat.reduceLeDiff, Nat.zero_le, pow_7, pow_18, pow_40]) (m2_a rfl) (by simp only [defM, startE, seqS_a, setS_a, bindS_ok, bindS_er, then_nx, then_rt, then_er, ifS_a, ifK_t, ifK_f, retS_a, dropS_a, asgS_a, asK_a, goG_ok, subT_a, nopS_a, getV_0, getV_s, cst_a, op2_a, o2a_ok, o2b_ok, opT_a, oTa_ok, oTb_ok, consA_a, cAa_ok, cAb_ok, nilA_a, callF_a, cFa_ok, callE_a, cEa_ok, newE_a, nwa_ok, datE_a, dta_ok, dispE_a, tupE_a, tpa_ok, asDs_a, datas, bind_ok, pur_ok, bool_b, leave_d, leave_nx, leave_er, ifE_a, ifa_t, ifa_f, notT_a, nta_ok, andT_a, ana_t, ana_f, orT_a, ora_t, ora_f, tstE_a, tsa_b, andE_a, aEa_t, aEa_f, orE_a, oEa_t, oEa_f, notE_a, nEa_ok, add_ii, sub_ii, gt_ii, lt_ii, ge_ii, le_ii, setT_a, consT_a, cTa_ok, nilT_a, tupT_a, seqT_t, seqT_l, forS_a, List.map_cons, List.map_nil, List.length_cons, List.length_nil, Nat.reduceAdd, Nat.reduceSub, Nat.zero_add, Nat.add_zero, List.replicate, List.cons_append, List.nil_append, List.append_nil, List.getElem?_cons_zero, List.getElem?_cons_succ, List.set_cons_zero, List.set_cons_succ, List.getElem?_nil, Option.map_some, Option.map_none, Option.bind_some, if_true, if_false, ite_true, ite_false, eq_self_iff_true, and_self, and_true, true_and, decide_true, decide_false, Bool.false_eq_true, Bool.not_true, Bool.not_false, sizeLine, Nat.reducePow, Nat.reduceLeDiff, Nat.zero_le, pow_7, pow_18, pow_40, hlen, e]) (m2_a (by simp)), pop]
      rfl
    have outer : methE appM (getV 3) (consA (methE popM (getV 2) (consA (callF 2 (C.m_take 10) (consA (getV 0) (consA (callE lenV (consA (getV 2) nilA)) nilA))) nilA)) nilA) [some (.h i), some (.d (.list xs0)), some (.h M.length), some (.h (M.length + 1))] (M ++ [.lst left, .lst found])
        = .ok (.d .none) (M.set i o1 ++ [.lst (left.eraseIdx k), .lst (found ++ [left[k]])]) := by
      rw [methE_at (i := M.length + 1) (xs0 := found) (xs := found) (ys := [.d left[k]]) (M2 := M.set i o1 ++ [.lst (left.eraseIdx k), .lst found]) (by simp only [defM, startE, seqS_a, setS_a, bindS_ok, bindS_er, then_nx, then_rt, then_er, ifS_a, ifK_t, ifK_f, retS_a, dropS_a, asgS_a, asK_a, goG_ok, subT_a, nopS_a, getV_0, getV_s, cst_a, op2_a, o2a_ok, o2b_ok, opT_a, oTa_ok, oTb_ok, consA_a, cAa_ok, cAb_ok, nilA_a, callF_a, cFa_ok, callE_a, cEa_ok, newE_a, nwa_ok, datE_a, dta_ok, dispE_a, tupE_a, tpa_ok, asDs_a, datas, bind_ok, pur_ok, bool_b, leave_d, leave_nx, leave_er, ifE_a, ifa_t, ifa_f, notT_a, nta_ok, andT_a, ana_t, ana_f, orT_a, ora_t, ora_f, tstE_a, tsa_b, andE_a, aEa_t, aEa_f, orE_a, oEa_t, oEa_f, notE_a, nEa_ok, add_ii, sub_ii, gt_ii, lt_ii, ge_ii, le_ii, setT_a, consT_a, cTa_ok, nilT_a, tupT_a, seqT_t, seqT_l, forS_a, List.map_cons, List.map_nil, List.length_cons, List.length_nil, Nat.reduceAdd, Nat.reduceSub, Nat.zero_add, Nat.add_zero, List.replicate, List.cons_append, List.nil_append, List.append_nil, List.getElem?_cons_zero, List.getElem?_cons_succ, List.set_cons_zero, List.set_cons_succ, List.getElem?_nil, Option.map_some, Option.map_none, Option.bind_some, if_true, if_false, ite_true, ite_false, eq_self_iff_true, and_self, and_true, true_and, decide_true, decide_false, Bool.false_eq_true, Bool.not_true, Bool.not_false, sizeLine, Nat.reducePow, Nat.reduceLeDiff, Nat.zero_le, pow_7, pow_18, pow_40]) (m2_b rfl) (by simp only [defM, startE, seqS_a, setS_a, bindS_ok, bindS_er, then_nx, then_rt, then_er, ifS_a, ifK_t, ifK_f, retS_a, dropS_a, asgS_a, asK_a, goG_ok, subT_a, nopS_a, getV_0, getV_s, cst_a, op2_a, o2a_ok, o2b_ok, opT_a, oTa_ok, oTb_ok, consA_a, cAa_ok, cAb_ok, nilA_a, callF_a, cFa_ok, callE_a, cEa_ok, newE_a, nwa_ok, datE_a, dta_ok, dispE_a, tupE_a, tpa_ok, asDs_a, datas, bind_ok, pur_ok, bool_b, leave_d, leave_nx, leave_er, ifE_a, ifa_t, ifa_f, notT_a, nta_ok, andT_a, ana_t, ana_f, orT_a, ora_t, ora_f, tstE_a, tsa_b, andE_a, aEa_t, aEa_f, orE_a, oEa_t, oEa_f, notE_a, nEa_ok, add_ii, sub_ii, gt_ii, lt_ii, ge_ii, le_ii, setT_a, consT_a, cTa_ok, nilT_a, tupT_a, seqT_t, seqT_l, forS_a, List.map_cons, List.map_nil, List.length_cons, List.length_nil, Nat.reduceAdd, Nat.reduceSub, Nat.zero_add, Nat.add_zero, List.replicate, List.cons_append, List.nil_append, List.append_nil, List.getElem?_cons_zero, List.getElem?_cons_succ, List.set_cons_zero, List.set_cons_succ, List.getElem?_nil, Option.map_some, Option.map_none, Option.bind_some, if_true, if_false, ite_true, ite_false, eq_self_iff_true, and_self, and_true, true_and, decide_true, decide_false, Bool.false_eq_true, Bool.not_true, Bool.not_false, sizeLine, Nat.reducePow, Nat.reduceLeDiff, Nat.zero_le, pow_7, pow_18, pow_40, inner]) (m2_b (by simp)), app]
      rfl
    rw [while_step (M1 := M ++ [.lst left, .lst found]) (e2 := [some (.h i), some (.d (.list xs0)), some (.h M.length), some (.h (M.length + 1))]) (M2 := M.set i o1 ++ [.lst (left.eraseIdx k), .lst (found ++ [left[k]])]) (by simp only [defM, startE, seqS_a, setS_a, bindS_ok, bindS_er, then_nx, then_rt, then_er, ifS_a, ifK_t, ifK_f, retS_a, dropS_a, asgS_a, asK_a, goG_ok, subT_a, nopS_a, getV_0, getV_s, cst_a, op2_a, o2a_ok, o2b_ok, opT_a, oTa_ok, oTb_ok, consA_a, cAa_ok, cAb_ok, nilA_a, callF_a, cFa_ok, callE_a, cEa_ok, newE_a, nwa_ok, datE_a, dta_ok, dispE_a, tupE_a, tpa_ok, asDs_a, datas, bind_ok, pur_ok, bool_b, leave_d, leave_nx, leave_er, ifE_a, ifa_t, ifa_f, notT_a, nta_ok, andT_a, ana_t, ana_f, orT_a, ora_t, ora_f, tstE_a, tsa_b, andE_a, aEa_t, aEa_f, orE_a, oEa_t, oEa_f, notE_a, nEa_ok, add_ii, sub_ii, gt_ii, lt_ii, ge_ii, le_ii, setT_a, consT_a, cTa_ok, nilT_a, tupT_a, seqT_t, seqT_l, forS_a, List.map_cons, List.map_nil, List.length_cons, List.length_nil, Nat.reduceAdd, Nat.reduceSub, Nat.zero_add, Nat.add_zero, List.replicate, List.cons_append, List.nil_append, List.append_nil, List.getElem?_cons_zero, List.getElem?_cons_succ, List.set_cons_zero, List.set_cons_succ, List.getElem?_nil, Option.map_some, Option.map_none, Option.bind_some, if_true, if_false, ite_true, ite_false, eq_self_iff_true, and_self, and_true, true_and, decide_true, decide_false, Bool.false_eq_true, Bool.not_true, Bool.not_false, sizeLine, Nat.reducePow, Nat.reduceLeDiff, Nat.zero_le, pow_7, pow_18, pow_40, ne_nil hd hc, hne]) (by simp only [defM, startE, seqS_a, setS_a, bindS_ok, bindS_er, then_nx, then_rt, then_er, ifS_a, ifK_t, ifK_f, retS_a, dropS_a, asgS_a, asK_a, goG_ok, subT_a, nopS_a, getV_0, getV_s, cst_a, op2_a, o2a_ok, o2b_ok, opT_a, oTa_ok, oTb_ok, consA_a, cAa_ok, cAb_ok, nilA_a, callF_a, cFa_ok, callE_a, cEa_ok, newE_a, nwa_ok, datE_a, dta_ok, dispE_a, tupE_a, tpa_ok, asDs_a, datas, bind_ok, pur_ok, bool_b, leave_d, leave_nx, leave_er, ifE_a, ifa_t, ifa_f, notT_a, nta_ok, andT_a, ana_t, ana_f, orT_a, ora_t, ora_f, tstE_a, tsa_b, andE_a, aEa_t, aEa_f, orE_a, oEa_t, oEa_f, notE_a, nEa_ok, add_ii, sub_ii, gt_ii, lt_ii, ge_ii, le_ii, setT_a, consT_a, cTa_ok, nilT_a, tupT_a, seqT_t, seqT_l, forS_a, List.map_cons, List.map_nil, List.length_cons, List.length_nil, Nat.reduceAdd, Nat.reduceSub, Nat.zero_add, Nat.add_zero, List.replicate, List.cons_append, List.nil_append, List.append_nil, List.getElem?_cons_zero, List.getElem?_cons_succ, List.set_cons_zero, List.set_cons_succ, List.getElem?_nil, Option.map_some, Option.map_none, Option.bind_some, if_true, if_false, ite_true, ite_false, eq_self_iff_true, and_self, and_true, true_and, decide_true, decide_false, Bool.false_eq_true, Bool.not_true, Bool.not_false, sizeLine, Nat.reducePow, Nat.reduceLeDiff, Nat.zero_le, pow_7, pow_18, pow_40, outer])]
    have hle : (left.eraseIdx k).length = f := by rw [List.length_eraseIdx]; simp [hk]; omega
    obtain ⟨o', ys, e2, B2, P⟩ := ih (left.eraseIdx k) (found ++ [left[k]]) (n + 512) (M.set i o1) o1 hle (getM hM) B (by omega) (by omega) (by rw [List.length_append, hle]; simp; omega) (fun x hx => hc x (List.mem_of_mem_eraseIdx hx))
    rw [List.length_set, List.set_set] at e2
    refine ⟨o', ys, e2, by rw [show n + 512 * (f + 1) = n + 512 + 512 * f by omega]; exact B2, P.trans ?_⟩
    rw [List.append_assoc]
    exact List.Perm.append_left _ (perm_erase left k hk)
theorem strewn_ok {n i : Nat} {M : Mem} {o : MO} {xs : List PyData} (hM : M[i]? = some o) (hB : Bx n o) (hn : n + 512 * xs.length ≤ 2 ^ 44) (hl : xs.length ≤ 2 ^ 20) (hc : ∀ x ∈ xs, x.canLay0 = true) :
    ∃ ys o', m_strewn [.h i, .d (.list xs)] M = .ok (.d (.list ys)) (M.set i o') ∧ Bx (n + 512 * xs.length) o' ∧ ys.Perm xs := by
  have hi := lt_of_get hM
  obtain ⟨o', ys, e, B, P⟩ := strewn_loop (i := i) (xs0 := xs) xs.length xs [] n M o rfl hM hB hn hl (by simpa using hl) hc
  refine ⟨ys, o', ?_, B, P⟩
  have fuel : lenAt 2 [some (.h i), some (.d (.list xs)), some (.h M.length), some (.h (M.length + 1))] (M ++ [.lst xs, .lst []]) = xs.length + 1 := by
    unfold lenAt
    simp [lstOf]
  have par : parS 2 3 (consA (newE (listE (getV 1))) (consA (newE (dispE nilA)) nilA)) [some (.h i), some (.d (.list xs)), none, none] M
      = .go .nx [some (.h i), some (.d (.list xs)), some (.h M.length), some (.h (M.length + 1))] (M ++ [.lst xs, .lst []]) := by
    simp only [defM, startE, seqS_a, setS_a, bindS_ok, bindS_er, then_nx, then_rt, then_er, ifS_a, ifK_t, ifK_f, retS_a, dropS_a, asgS_a, asK_a, goG_ok, subT_a, nopS_a, getV_0, getV_s, cst_a, op2_a, o2a_ok, o2b_ok, opT_a, oTa_ok, oTb_ok, consA_a, cAa_ok, cAb_ok, nilA_a, callF_a, cFa_ok, callE_a, cEa_ok, newE_a, nwa_ok, datE_a, dta_ok, dispE_a, tupE_a, tpa_ok, asDs_a, datas, bind_ok, pur_ok, bool_b, leave_d, leave_nx, leave_er, ifE_a, ifa_t, ifa_f, notT_a, nta_ok, andT_a, ana_t, ana_f, orT_a, ora_t, ora_f, tstE_a, tsa_b, andE_a, aEa_t, aEa_f, orE_a, oEa_t, oEa_f, notE_a, nEa_ok, add_ii, sub_ii, gt_ii, lt_ii, ge_ii, le_ii, setT_a, consT_a, cTa_ok, nilT_a, tupT_a, seqT_t, seqT_l, forS_a, List.map_cons, List.map_nil, List.length_cons, List.length_nil, Nat.reduceAdd, Nat.reduceSub, Nat.zero_add, Nat.add_zero, List.replicate, List.cons_append, List.nil_append, List.append_nil, List.getElem?_cons_zero, List.getElem?_cons_succ, List.set_cons_zero, List.set_cons_succ, List.getElem?_nil, Option.map_some, Option.map_none, Option.bind_some, if_true, if_false, ite_true, ite_false, eq_self_iff_true, and_self, and_true, true_and, decide_true, decide_false, Bool.false_eq_true, Bool.not_true, Bool.not_false, sizeLine, Nat.reducePow, Nat.reduceLeDiff, Nat.zero_le, pow_7, pow_18, pow_40, parS_a, listE_a (f := getV 1) (x := .d (.list xs)) (xs := xs) (e := [some (.h i), some (.d (.list xs)), none, none]) (M := M) (M1 := M) (by simp only [defM, startE, seqS_a, setS_a, bindS_ok, bindS_er, then_nx, then_rt, then_er, ifS_a, ifK_t, ifK_f, retS_a, dropS_a, asgS_a, asK_a, goG_ok, subT_a, nopS_a, getV_0, getV_s, cst_a, op2_a, o2a_ok, o2b_ok, opT_a, oTa_ok, oTb_ok, consA_a, cAa_ok, cAb_ok, nilA_a, callF_a, cFa_ok, callE_a, cEa_ok, newE_a, nwa_ok, datE_a, dta_ok, dispE_a, tupE_a, tpa_ok, asDs_a, datas, bind_ok, pur_ok, bool_b, leave_d, leave_nx, leave_er, ifE_a, ifa_t, ifa_f, notT_a, nta_ok, andT_a, ana_t, ana_f, orT_a, ora_t, ora_f, tstE_a, tsa_b, andE_a, aEa_t, aEa_f, orE_a, oEa_t, oEa_f, notE_a, nEa_ok, add_ii, sub_ii, gt_ii, lt_ii, ge_ii, le_ii, setT_a, consT_a, cTa_ok, nilT_a, tupT_a, seqT_t, seqT_l, forS_a, List.map_cons, List.map_nil, List.length_cons, List.length_nil, Nat.reduceAdd, Nat.reduceSub, Nat.zero_add, Nat.add_zero, List.replicate, List.cons_append, List.nil_append, List.append_nil, List.getElem?_cons_zero, List.getElem?_cons_succ, List.set_cons_zero, List.set_cons_succ, List.getElem?_nil, Option.map_some, Option.map_none, Option.bind_some, if_true, if_false, ite_true, ite_false, eq_self_iff_true, and_self, and_true, true_and, decide_true, decide_false, Bool.false_eq_true, Bool.not_true, Bool.not_false, sizeLine, Nat.reducePow, Nat.reduceLeDiff, Nat.zero_le, pow_7, pow_18, pow_40]) rfl, List.length_append, List.append_assoc]
  have fz := freeze_at (i := 3) (e := [some (.h i), some (.d (.list xs)), some (.h M.length), some (.h (M.length + 1))]) (M := M.set i o' ++ [.lst [], .lst ys]) rfl (m2_b (by simp))
  rw [m2_sb (by simp)] at fz
  unfold m_strewn g_strewn
  simp only [defM, startE, seqS_a, setS_a, bindS_ok, bindS_er, then_nx, then_rt, then_er, ifS_a, ifK_t, ifK_f, retS_a, dropS_a, asgS_a, asK_a, goG_ok, subT_a, nopS_a, getV_0, getV_s, cst_a, op2_a, o2a_ok, o2b_ok, opT_a, oTa_ok, oTb_ok, consA_a, cAa_ok, cAb_ok, nilA_a, callF_a, cFa_ok, callE_a, cEa_ok, newE_a, nwa_ok, datE_a, dta_ok, dispE_a, tupE_a, tpa_ok, asDs_a, datas, bind_ok, pur_ok, bool_b, leave_d, leave_nx, leave_er, ifE_a, ifa_t, ifa_f, notT_a, nta_ok, andT_a, ana_t, ana_f, orT_a, ora_t, ora_f, tstE_a, tsa_b, andE_a, aEa_t, aEa_f, orE_a, oEa_t, oEa_f, notE_a, nEa_ok, add_ii, sub_ii, gt_ii, lt_ii, ge_ii, le_ii, setT_a, consT_a, cTa_ok, nilT_a, tupT_a, seqT_t, seqT_l, forS_a, List.map_cons, List.map_nil, List.length_cons, List.length_nil, Nat.reduceAdd, Nat.reduceSub, Nat.zero_add, Nat.add_zero, List.replicate, List.cons_append, List.nil_append, List.append_nil, List.getElem?_cons_zero, List.getElem?_cons_succ, List.set_cons_zero, List.set_cons_succ, List.getElem?_nil, Option.map_some, Option.map_none, Option.bind_some, if_true, if_false, ite_true, ite_false, eq_self_iff_true, and_self, and_true, true_and, decide_true, decide_false, Bool.false_eq_true, Bool.not_true, Bool.not_false, sizeLine, Nat.reducePow, Nat.reduceLeDiff, Nat.zero_le, pow_7, pow_18, pow_40, par, whileS_at fuel e, fz]
  rw [List.take_append_of_le_length (by simp), take_all (by simp)]
theorem numD_get {ys : List PyData} {j : Nat} {x : PyData} (h : (numD ys)[j]? = some x) : ∃ y, ys[j]? = some y ∧ x = .tuple [.int (j : Nat), y] := by
  unfold numD at h
  rw [List.getElem?_map, List.getElem?_zipIdx] at h
  cases q : ys[j]? with
  | none => rw [q] at h; cases h
  | some y =>
    rw [q] at h
    cases h
    exact ⟨y, rfl, by simp⟩
theorem slE_s {f : Ev} {a b : Eo} {e : Env} {M : Mem} {xs : List PyData} {lo hi : Option Int} (hf : f e M = .ok (.s xs) M) (ha : a e M = .ok lo M) (hb : b e M = .ok hi M) : slE f a b e M = .ok (.d (.list (cutD xs lo hi))) M := by
  unfold slE
  rw [hf, bind_ok, ha, bind_ok, hb, bind_ok]
  rfl
theorem slE_l {f : Ev} {a b : Eo} {e : Env} {M : Mem} {xs : List PyData} {lo hi : Option Int} (hf : f e M = .ok (.d (.list xs)) M) (ha : a e M = .ok lo M) (hb : b e M = .ok hi M) : slE f a b e M = .ok (.d (.list (cutD xs lo hi))) M := by
  unfold slE
  rw [hf, bind_ok, ha, bind_ok, hb, bind_ok]
  rfl
theorem someP_a {f : Ev} {e : Env} {M : Mem} {i : Int} (h : f e M = .ok (.d (.int i)) M) : someP f e M = .ok (some i) M := by
  unfold someP
  rw [h, bind_ok]
theorem cut_to {xs : List PyData} {k : Nat} : cutD xs none (some (k : Int)) = xs.take k := by
  unfold cutD
  rw [HT.sIx_none, HT.sIx_nat, List.drop_zero, Nat.sub_zero, ← List.take_eq_take_min]
theorem cut_nn {xs : List PyData} {k l : Nat} : cutD xs (some (k : Int)) (some (l : Int)) = (xs.drop (min k xs.length)).take (min l xs.length - min k xs.length) := by
  unfold cutD
  rw [HT.sIx_nat, HT.sIx_nat]
theorem enumI_a {f : Ev} {e : Env} {M M1 : Mem} {x : Vl} {xs : List PyData} (h : f e M = .ok x M1) (hx : walkOf x = some xs) (hl : xs.length ≤ 2 ^ 20) : enumI f e M = .ok (numD xs) M1 := by
  unfold enumI
  rw [h, bind_ok]
  simp only [hx]
  try rfl
/-- the numbers of the script, as they are drawn from -/
theorem cells_ok {ns : List Int} {k : Nat} (hk : 0 < k) (hk2 : k ≤ 63) (hn : ns.length ≤ 63) {M : Mem} :
    ∃ cs : List Int, m_cells [.s (ns.map PyData.int), .d (.int (k : Nat))] M = .ok (.d (.list (cs.map PyData.int))) M ∧ cs ≠ [] ∧ cs.length ≤ k := by
  have hcan : ∀ cs : List Int, ∀ x ∈ cs.map PyData.int, x.canLay0 = true := fun cs x hx => by
    obtain ⟨i, _, rfl⟩ := List.mem_map.mp hx
    rfl
  generalize hys : ((ns.map PyData.int).drop (min k (ns.map PyData.int).length)).take (min 63 (ns.map PyData.int).length - min k (ns.map PyData.int).length) = ys
  have hyl : ys.length ≤ 63 := by rw [← hys, List.length_take]; omega
  obtain ⟨e', M', el, cs, v3, v4, rfl, rfl, hl⟩ := forL_all (γ := tupT 2 (consT (setT 3) (consT (setT 4) nilT)))
    (g := asgS (op2 addV (op2 ixV (getV 2) (op2 modV (getV 3) (getV 1))) (op2 mulV (getV 4) (op2 addV (getV 3) (cst (.d (.int 2)))))) (subT (getV 2) (op2 modV (getV 3) (getV 1))))
    (fun j e M2 => ∃ (cs : List Int) (v3 v4 : Option Vl), e = [some (.s (ns.map PyData.int)), some (.d (.int (k : Nat))), some (.h M.length), v3, v4] ∧ M2 = M ++ [.lst (cs.map PyData.int)] ∧ cs.length = min k ns.length)
    (xs := numD ys) (e := [some (.s (ns.map PyData.int)), some (.d (.int (k : Nat))), some (.h M.length), none, none]) (M := M ++ [.lst ((ns.take k).map PyData.int)])
    (by
      rintro j x e M2 hx ⟨cs, v3, v4, rfl, rfl, hl⟩
      obtain ⟨y, hy, rfl⟩ := numD_get hx
      have hj : j < ys.length := lt_of_getL hy
      rw [← hys] at hy
      have hkn : k < ns.length := by
        rw [← hys, List.length_take, List.length_drop, List.length_map] at hj
        omega
      rw [List.getElem?_take, List.getElem?_drop, List.getElem?_map] at hy
      split at hy
      · obtain ⟨c, hc, rfl⟩ := Option.map_eq_some_iff.mp hy
        have hjk : j % k < cs.length := by
          have := Nat.mod_lt j hk
          omega
        have hjk' : j % k < (cs.map PyData.int).length := by simpa using hjk
        have hmod : modV (.d (.int (j : Nat))) (.d (.int (k : Nat))) (M ++ [.lst (cs.map PyData.int)]) = .ok (.d (.int ((j % k : Nat) : Int))) (M ++ [.lst (cs.map PyData.int)]) := by
          rw [mod_ii (by omega)]
          rfl
        have hix := ixV_h (M := M ++ [.lst (cs.map PyData.int)]) (m1_a rfl) (atI_nat hjk')
        rw [List.getElem_map] at hix
        have hput := putV_h (e := [some (.s (ns.map PyData.int)), some (.d (.int (k : Nat))), some (.h M.length), some (.d (.int (j : Nat))), some (.d (.int c))]) (M := M ++ [.lst (cs.map PyData.int)]) (y := .int (cs[j % k] + c * ((j : Int) + 2))) (m1_a rfl) (ixN_nat hjk')
        rw [m1_sa rfl] at hput
        refine ⟨[some (.s (ns.map PyData.int)), some (.d (.int (k : Nat))), some (.h M.length), some (.d (.int (j : Nat))), some (.d (.int c))], M ++ [.lst (cs.map PyData.int)], [some (.s (ns.map PyData.int)), some (.d (.int (k : Nat))), some (.h M.length), some (.d (.int (j : Nat))), some (.d (.int c))], M ++ [.lst ((cs.set (j % k) (cs[j % k] + c * ((j : Int) + 2))).map PyData.int)], ?_, ?_, cs.set (j % k) (cs[j % k] + c * ((j : Int) + 2)), _, _, rfl, rfl, by rw [List.length_set]; exact hl⟩
        · simp only [defM, startE, seqS_a, setS_a, bindS_ok, bindS_er, then_nx, then_rt, then_er, ifS_a, ifK_t, ifK_f, retS_a, dropS_a, asgS_a, asK_a, goG_ok, subT_a, nopS_a, getV_0, getV_s, cst_a, op2_a, o2a_ok, o2b_ok, opT_a, oTa_ok, oTb_ok, consA_a, cAa_ok, cAb_ok, nilA_a, callF_a, cFa_ok, callE_a, cEa_ok, newE_a, nwa_ok, datE_a, dta_ok, dispE_a, tupE_a, tpa_ok, asDs_a, datas, bind_ok, pur_ok, bool_b, leave_d, leave_nx, leave_er, ifE_a, ifa_t, ifa_f, notT_a, nta_ok, andT_a, ana_t, ana_f, orT_a, ora_t, ora_f, tstE_a, tsa_b, andE_a, aEa_t, aEa_f, orE_a, oEa_t, oEa_f, notE_a, nEa_ok, add_ii, sub_ii, gt_ii, lt_ii, ge_ii, le_ii, setT_a, consT_a, cTa_ok, nilT_a, tupT_a, seqT_t, seqT_l, forS_a, List.map_cons, List.map_nil, List.length_cons, List.length_nil, Nat.reduceAdd, Nat.reduceSub, Nat.zero_add, Nat.add_zero, List.replicate, List.cons_append, List.nil_append, List.append_nil, List.getElem?_cons_zero, List.getElem?_cons_succ, List.set_cons_zero, List.set_cons_succ, List.getElem?_nil, Option.map_some, Option.map_none, Option.bind_some, if_true, if_false, ite_true, ite_false, eq_self_iff_true, and_self, and_true, true_and, decide_true, decide_false, Bool.false_eq_true, Bool.not_true, Bool.not_false, sizeLine, Nat.reducePow, Nat.reduceLeDiff, Nat.zero_le, pow_7, pow_18, pow_40]
        · simp only [defM, startE, seqS_a, setS_a, bindS_ok, bindS_er, then_nx, then_rt, then_er, ifS_a, ifK_t, ifK_f, retS_a, dropS_a, asgS_a, asK_a, goG_ok, subT_a, nopS_a, getV_0, getV_s, cst_a, op2_a, o2a_ok, o2b_ok, opT_a, oTa_ok, oTb_ok, consA_a, cAa_ok, cAb_ok, nilA_a, callF_a, cFa_ok, callE_a, cEa_ok, newE_a, nwa_ok, datE_a, dta_ok, dispE_a, tupE_a, tpa_ok, asDs_a, datas, bind_ok, pur_ok, bool_b, leave_d, leave_nx, leave_er, ifE_a, ifa_t, ifa_f, notT_a, nta_ok, andT_a, ana_t, ana_f, orT_a, ora_t, ora_f, tstE_a, tsa_b, andE_a, aEa_t, aEa_f, orE_a, oEa_t, oEa_f, notE_a, nEa_ok, add_ii, sub_ii, gt_ii, lt_ii, ge_ii, le_ii, setT_a, consT_a, cTa_ok, nilT_a, tupT_a, seqT_t, seqT_l, forS_a, List.map_cons, List.map_nil, List.length_cons, List.length_nil, Nat.reduceAdd, Nat.reduceSub, Nat.zero_add, Nat.add_zero, List.replicate, List.cons_append, List.nil_append, List.append_nil, List.getElem?_cons_zero, List.getElem?_cons_succ, List.set_cons_zero, List.set_cons_succ, List.getElem?_nil, Option.map_some, Option.map_none, Option.bind_some, if_true, if_false, ite_true, ite_false, eq_self_iff_true, and_self, and_true, true_and, decide_true, decide_false, Bool.false_eq_true, Bool.not_true, Bool.not_false, sizeLine, Nat.reducePow, Nat.reduceLeDiff, Nat.zero_le, pow_7, pow_18, pow_40, hmod, hix, mul_ii (i := c) (j := (j : Int) + 2) (.inr (by omega)), hput, List.map_set]
      · cases hy)
    ⟨ns.take k, none, none, rfl, rfl, by simp⟩
  have h1 : slE (getV 0) noP (someP (getV 1)) [some (.s (ns.map PyData.int)), some (.d (.int (k : Nat))), none, none, none] M = .ok (.d (.list ((ns.take k).map PyData.int))) M := by
    rw [slE_s (xs := ns.map PyData.int) (lo := none) (hi := some (k : Int)) (by simp only [defM, startE, seqS_a, setS_a, bindS_ok, bindS_er, then_nx, then_rt, then_er, ifS_a, ifK_t, ifK_f, retS_a, dropS_a, asgS_a, asK_a, goG_ok, subT_a, nopS_a, getV_0, getV_s, cst_a, op2_a, o2a_ok, o2b_ok, opT_a, oTa_ok, oTb_ok, consA_a, cAa_ok, cAb_ok, nilA_a, callF_a, cFa_ok, callE_a, cEa_ok, newE_a, nwa_ok, datE_a, dta_ok, dispE_a, tupE_a, tpa_ok, asDs_a, datas, bind_ok, pur_ok, bool_b, leave_d, leave_nx, leave_er, ifE_a, ifa_t, ifa_f, notT_a, nta_ok, andT_a, ana_t, ana_f, orT_a, ora_t, ora_f, tstE_a, tsa_b, andE_a, aEa_t, aEa_f, orE_a, oEa_t, oEa_f, notE_a, nEa_ok, add_ii, sub_ii, gt_ii, lt_ii, ge_ii, le_ii, setT_a, consT_a, cTa_ok, nilT_a, tupT_a, seqT_t, seqT_l, forS_a, List.map_cons, List.map_nil, List.length_cons, List.length_nil, Nat.reduceAdd, Nat.reduceSub, Nat.zero_add, Nat.add_zero, List.replicate, List.cons_append, List.nil_append, List.append_nil, List.getElem?_cons_zero, List.getElem?_cons_succ, List.set_cons_zero, List.set_cons_succ, List.getElem?_nil, Option.map_some, Option.map_none, Option.bind_some, if_true, if_false, ite_true, ite_false, eq_self_iff_true, and_self, and_true, true_and, decide_true, decide_false, Bool.false_eq_true, Bool.not_true, Bool.not_false, sizeLine, Nat.reducePow, Nat.reduceLeDiff, Nat.zero_le, pow_7, pow_18, pow_40]) rfl (someP_a (by simp only [defM, startE, seqS_a, setS_a, bindS_ok, bindS_er, then_nx, then_rt, then_er, ifS_a, ifK_t, ifK_f, retS_a, dropS_a, asgS_a, asK_a, goG_ok, subT_a, nopS_a, getV_0, getV_s, cst_a, op2_a, o2a_ok, o2b_ok, opT_a, oTa_ok, oTb_ok, consA_a, cAa_ok, cAb_ok, nilA_a, callF_a, cFa_ok, callE_a, cEa_ok, newE_a, nwa_ok, datE_a, dta_ok, dispE_a, tupE_a, tpa_ok, asDs_a, datas, bind_ok, pur_ok, bool_b, leave_d, leave_nx, leave_er, ifE_a, ifa_t, ifa_f, notT_a, nta_ok, andT_a, ana_t, ana_f, orT_a, ora_t, ora_f, tstE_a, tsa_b, andE_a, aEa_t, aEa_f, orE_a, oEa_t, oEa_f, notE_a, nEa_ok, add_ii, sub_ii, gt_ii, lt_ii, ge_ii, le_ii, setT_a, consT_a, cTa_ok, nilT_a, tupT_a, seqT_t, seqT_l, forS_a, List.map_cons, List.map_nil, List.length_cons, List.length_nil, Nat.reduceAdd, Nat.reduceSub, Nat.zero_add, Nat.add_zero, List.replicate, List.cons_append, List.nil_append, List.append_nil, List.getElem?_cons_zero, List.getElem?_cons_succ, List.set_cons_zero, List.set_cons_succ, List.getElem?_nil, Option.map_some, Option.map_none, Option.bind_some, if_true, if_false, ite_true, ite_false, eq_self_iff_true, and_self, and_true, true_and, decide_true, decide_false, Bool.false_eq_true, Bool.not_true, Bool.not_false, sizeLine, Nat.reducePow, Nat.reduceLeDiff, Nat.zero_le, pow_7, pow_18, pow_40])), cut_to, List.map_take]
  have h2 : ∀ N : Mem, slE (getV 0) (someP (getV 1)) (someP (cst (.d (.int 63)))) [some (.s (ns.map PyData.int)), some (.d (.int (k : Nat))), some (.h M.length), none, none] N = .ok (.d (.list ys)) N := fun N => by
    rw [slE_s (xs := ns.map PyData.int) (lo := some (k : Int)) (hi := some ((63 : Nat) : Int)) (by simp only [defM, startE, seqS_a, setS_a, bindS_ok, bindS_er, then_nx, then_rt, then_er, ifS_a, ifK_t, ifK_f, retS_a, dropS_a, asgS_a, asK_a, goG_ok, subT_a, nopS_a, getV_0, getV_s, cst_a, op2_a, o2a_ok, o2b_ok, opT_a, oTa_ok, oTb_ok, consA_a, cAa_ok, cAb_ok, nilA_a, callF_a, cFa_ok, callE_a, cEa_ok, newE_a, nwa_ok, datE_a, dta_ok, dispE_a, tupE_a, tpa_ok, asDs_a, datas, bind_ok, pur_ok, bool_b, leave_d, leave_nx, leave_er, ifE_a, ifa_t, ifa_f, notT_a, nta_ok, andT_a, ana_t, ana_f, orT_a, ora_t, ora_f, tstE_a, tsa_b, andE_a, aEa_t, aEa_f, orE_a, oEa_t, oEa_f, notE_a, nEa_ok, add_ii, sub_ii, gt_ii, lt_ii, ge_ii, le_ii, setT_a, consT_a, cTa_ok, nilT_a, tupT_a, seqT_t, seqT_l, forS_a, List.map_cons, List.map_nil, List.length_cons, List.length_nil, Nat.reduceAdd, Nat.reduceSub, Nat.zero_add, Nat.add_zero, List.replicate, List.cons_append, List.nil_append, List.append_nil, List.getElem?_cons_zero, List.getElem?_cons_succ, List.set_cons_zero, List.set_cons_succ, List.getElem?_nil, Option.map_some, Option.map_none, Option.bind_some, if_true, if_false, ite_true, ite_false, eq_self_iff_true, and_self, and_true, true_and, decide_true, decide_false, Bool.false_eq_true, Bool.not_true, Bool.not_false, sizeLine, Nat.reducePow, Nat.reduceLeDiff, Nat.zero_le, pow_7, pow_18, pow_40]) (someP_a (by simp only [defM, startE, seqS_a, setS_a, bindS_ok, bindS_er, then_nx, then_rt, then_er, ifS_a, ifK_t, ifK_f, retS_a, dropS_a, asgS_a, asK_a, goG_ok, subT_a, nopS_a, getV_0, getV_s, cst_a, op2_a, o2a_ok, o2b_ok, opT_a, oTa_ok, oTb_ok, consA_a, cAa_ok, cAb_ok, nilA_a, callF_a, cFa_ok, callE_a, cEa_ok, newE_a, nwa_ok, datE_a, dta_ok, dispE_a, tupE_a, tpa_ok, asDs_a, datas, bind_ok, pur_ok, bool_b, leave_d, leave_nx, leave_er, ifE_a, ifa_t, ifa_f, notT_a, nta_ok, andT_a, ana_t, ana_f, orT_a, ora_t, ora_f, tstE_a, tsa_b, andE_a, aEa_t, aEa_f, orE_a, oEa_t, oEa_f, notE_a, nEa_ok, add_ii, sub_ii, gt_ii, lt_ii, ge_ii, le_ii, setT_a, consT_a, cTa_ok, nilT_a, tupT_a, seqT_t, seqT_l, forS_a, List.map_cons, List.map_nil, List.length_cons, List.length_nil, Nat.reduceAdd, Nat.reduceSub, Nat.zero_add, Nat.add_zero, List.replicate, List.cons_append, List.nil_append, List.append_nil, List.getElem?_cons_zero, List.getElem?_cons_succ, List.set_cons_zero, List.set_cons_succ, List.getElem?_nil, Option.map_some, Option.map_none, Option.bind_some, if_true, if_false, ite_true, ite_false, eq_self_iff_true, and_self, and_true, true_and, decide_true, decide_false, Bool.false_eq_true, Bool.not_true, Bool.not_false, sizeLine, Nat.reducePow, Nat.reduceLeDiff, Nat.zero_le, pow_7, pow_18, pow_40])) (someP_a (by simp only [defM, startE, seqS_a, setS_a, bindS_ok, bindS_er, then_nx, then_rt, then_er, ifS_a, ifK_t, ifK_f, retS_a, dropS_a, asgS_a, asK_a, goG_ok, subT_a, nopS_a, getV_0, getV_s, cst_a, op2_a, o2a_ok, o2b_ok, opT_a, oTa_ok, oTb_ok, consA_a, cAa_ok, cAb_ok, nilA_a, callF_a, cFa_ok, callE_a, cEa_ok, newE_a, nwa_ok, datE_a, dta_ok, dispE_a, tupE_a, tpa_ok, asDs_a, datas, bind_ok, pur_ok, bool_b, leave_d, leave_nx, leave_er, ifE_a, ifa_t, ifa_f, notT_a, nta_ok, andT_a, ana_t, ana_f, orT_a, ora_t, ora_f, tstE_a, tsa_b, andE_a, aEa_t, aEa_f, orE_a, oEa_t, oEa_f, notE_a, nEa_ok, add_ii, sub_ii, gt_ii, lt_ii, ge_ii, le_ii, setT_a, consT_a, cTa_ok, nilT_a, tupT_a, seqT_t, seqT_l, forS_a, List.map_cons, List.map_nil, List.length_cons, List.length_nil, Nat.reduceAdd, Nat.reduceSub, Nat.zero_add, Nat.add_zero, List.replicate, List.cons_append, List.nil_append, List.append_nil, List.getElem?_cons_zero, List.getElem?_cons_succ, List.set_cons_zero, List.set_cons_succ, List.getElem?_nil, Option.map_some, Option.map_none, Option.bind_some, if_true, if_false, ite_true, ite_false, eq_self_iff_true, and_self, and_true, true_and, decide_true, decide_false, Bool.false_eq_true, Bool.not_true, Bool.not_false, sizeLine, Nat.reducePow, Nat.reduceLeDiff, Nat.zero_le, pow_7, pow_18, pow_40]; rfl)), cut_nn, hys]
  have fz := freeze_at (i := 2) (e := [some (.s (ns.map PyData.int)), some (.d (.int (k : Nat))), some (.h M.length), v3, v4]) (M := M ++ [.lst (cs.map PyData.int)]) rfl (m1_a rfl)
  rw [m1_sa rfl] at fz
  unfold m_cells g_cells
  by_cases hc : cs = []
  · subst hc
    refine ⟨[0], ?_, by simp, by simp; omega⟩
    rw [List.map_nil] at el fz
    simp only [defM, startE, seqS_a, setS_a, bindS_ok, bindS_er, then_nx, then_rt, then_er, ifS_a, ifK_t, ifK_f, retS_a, dropS_a, asgS_a, asK_a, goG_ok, subT_a, nopS_a, getV_0, getV_s, cst_a, op2_a, o2a_ok, o2b_ok, opT_a, oTa_ok, oTb_ok, consA_a, cAa_ok, cAb_ok, nilA_a, callF_a, cFa_ok, callE_a, cEa_ok, newE_a, nwa_ok, datE_a, dta_ok, dispE_a, tupE_a, tpa_ok, asDs_a, datas, bind_ok, pur_ok, bool_b, leave_d, leave_nx, leave_er, ifE_a, ifa_t, ifa_f, notT_a, nta_ok, andT_a, ana_t, ana_f, orT_a, ora_t, ora_f, tstE_a, tsa_b, andE_a, aEa_t, aEa_f, orE_a, oEa_t, oEa_f, notE_a, nEa_ok, add_ii, sub_ii, gt_ii, lt_ii, ge_ii, le_ii, setT_a, consT_a, cTa_ok, nilT_a, tupT_a, seqT_t, seqT_l, forS_a, List.map_cons, List.map_nil, List.length_cons, List.length_nil, Nat.reduceAdd, Nat.reduceSub, Nat.zero_add, Nat.add_zero, List.replicate, List.cons_append, List.nil_append, List.append_nil, List.getElem?_cons_zero, List.getElem?_cons_succ, List.set_cons_zero, List.set_cons_succ, List.getElem?_nil, Option.map_some, Option.map_none, Option.bind_some, if_true, if_false, ite_true, ite_false, eq_self_iff_true, and_self, and_true, true_and, decide_true, decide_false, Bool.false_eq_true, Bool.not_true, Bool.not_false, sizeLine, Nat.reducePow, Nat.reduceLeDiff, Nat.zero_le, pow_7, pow_18, pow_40, listE_a h1 rfl, enumI_a (h2 _) rfl (by omega), el, fz, ne_nil (M := M ++ [.gone]) (a := .d (.list [])) (xs := []) rfl (by simp), List.isEmpty_nil]
    rw [List.take_append_of_le_length (by simp), take_all (by simp)]
  · have hce : (cs.map PyData.int).isEmpty = false := by cases cs with
      | nil => exact absurd rfl hc
      | cons _ _ => rfl
    refine ⟨cs, ?_, hc, by omega⟩
    simp only [defM, startE, seqS_a, setS_a, bindS_ok, bindS_er, then_nx, then_rt, then_er, ifS_a, ifK_t, ifK_f, retS_a, dropS_a, asgS_a, asK_a, goG_ok, subT_a, nopS_a, getV_0, getV_s, cst_a, op2_a, o2a_ok, o2b_ok, opT_a, oTa_ok, oTb_ok, consA_a, cAa_ok, cAb_ok, nilA_a, callF_a, cFa_ok, callE_a, cEa_ok, newE_a, nwa_ok, datE_a, dta_ok, dispE_a, tupE_a, tpa_ok, asDs_a, datas, bind_ok, pur_ok, bool_b, leave_d, leave_nx, leave_er, ifE_a, ifa_t, ifa_f, notT_a, nta_ok, andT_a, ana_t, ana_f, orT_a, ora_t, ora_f, tstE_a, tsa_b, andE_a, aEa_t, aEa_f, orE_a, oEa_t, oEa_f, notE_a, nEa_ok, add_ii, sub_ii, gt_ii, lt_ii, ge_ii, le_ii, setT_a, consT_a, cTa_ok, nilT_a, tupT_a, seqT_t, seqT_l, forS_a, List.map_cons, List.map_nil, List.length_cons, List.length_nil, Nat.reduceAdd, Nat.reduceSub, Nat.zero_add, Nat.add_zero, List.replicate, List.cons_append, List.nil_append, List.append_nil, List.getElem?_cons_zero, List.getElem?_cons_succ, List.set_cons_zero, List.set_cons_succ, List.getElem?_nil, Option.map_some, Option.map_none, Option.bind_some, if_true, if_false, ite_true, ite_false, eq_self_iff_true, and_self, and_true, true_and, decide_true, decide_false, Bool.false_eq_true, Bool.not_true, Bool.not_false, sizeLine, Nat.reducePow, Nat.reduceLeDiff, Nat.zero_le, pow_7, pow_18, pow_40, listE_a h1 rfl, enumI_a (h2 _) rfl (by omega), el, fz, ne_nil (M := M ++ [.gone]) (a := .d (.list (cs.map PyData.int))) rfl (hcan cs), hce]
    rw [List.take_append_of_le_length (by simp), take_all (by simp)]
end C
end DL

namespace DL
open PySem PySem.Spec L2
/-! ### kinds, equality, comprehensions -/
theorem abs_i {i : Int} {M : Mem} : DL.absV [.d (.int i)] M = .ok (.d (.int (if i < 0 then -i else i))) M := Eq.trans rfl rfl
theorem int_b {b : Bool} {M : Mem} : intV [.d (.bool b)] M = .ok (.d (.int (if b then 1 else 0))) M := Eq.trans rfl rfl
theorem int_i {b : Int} {M : Mem} : intV [.d (.int b)] M = .ok (.d (.int b)) M := Eq.trans rfl rfl
theorem eq_ii {i j : Int} {M : Mem} : eqV (.d (.int i)) (.d (.int j)) M = .ok (.d (.bool (i == j))) M := Eq.trans rfl rfl
theorem ne_ii {i j : Int} {M : Mem} : neV (.d (.int i)) (.d (.int j)) M = .ok (.d (.bool (!(i == j)))) M := Eq.trans rfl rfl
theorem eq_bb {i j : Bool} {M : Mem} : eqV (.d (.bool i)) (.d (.bool j)) M = .ok (.d (.bool (i == j))) M := Eq.trans rfl rfl
theorem ne_bb {i j : Bool} {M : Mem} : neV (.d (.bool i)) (.d (.bool j)) M = .ok (.d (.bool (!(i == j)))) M := Eq.trans rfl rfl
theorem eq_ss {i j : Str} {M : Mem} : eqV (.d (.str i)) (.d (.str j)) M = .ok (.d (.bool (decide (i = j)))) M := Eq.trans rfl rfl
theorem is_nn {M : Mem} : isV (.d .none) (.d .none) M = .ok (.d (.bool true)) M := Eq.trans rfl rfl
theorem is_n {x : PyData} {M : Mem} : isV (.d x) (.d .none) M = .ok (.d (.bool (match x with | .none => true | _ => false))) M := by cases x <;> rfl
/-- a list or a tuple -/
def isSq : PyData → Bool
  | .list _ => true
  | .tuple _ => true
  | _ => false
def isDic : PyData → Bool
  | .dict _ => true
  | _ => false
theorem isiT_lt {f : Ev} {e : Env} {M M1 : Mem} {x : PyData} (h : f e M = .ok (.d x) M1) (hx : isDic x = false) : isiTE f (consA (cst (.t "list")) (consA (cst (.t "tuple")) nilA)) e M = .ok (.d (.bool (isSq x))) M1 := by
  unfold isiTE
  rw [h, bind_ok]
  cases x with
  | dict _ => cases hx
  | _ => rfl
def isSb : PyData → Bool
  | .str _ => true
  | .bool _ => true
  | _ => false
theorem isiT_sb {f : Ev} {e : Env} {M M1 : Mem} {x : PyData} (h : f e M = .ok (.d x) M1) (hx : isDic x = false) : isiTE f (consA (cst (.t "str")) (consA (cst (.t "bool")) nilA)) e M = .ok (.d (.bool (isSb x))) M1 := by
  unfold isiTE
  rw [h, bind_ok]
  cases x with
  | dict _ => cases hx
  | _ => rfl
theorem isi_l {x : PyData} {M : Mem} (hx : isDic x = false) : isiV [.d x, .t "list"] M = .ok (.d (.bool (match x with | .list _ => true | _ => false))) M := by
  cases x with
  | dict _ => cases hx
  | _ => rfl
theorem isi_t {x : PyData} {M : Mem} (hx : isDic x = false) : isiV [.d x, .t "tuple"] M = .ok (.d (.bool (match x with | .tuple _ => true | _ => false))) M := by
  cases x with
  | dict _ => cases hx
  | _ => rfl
theorem isi_i {x : PyData} {M : Mem} (hx : isDic x = false) : isiV [.d x, .t "int"] M = .ok (.d (.bool (match x with | .int _ => true | .bool _ => true | _ => false))) M := by
  cases x with
  | dict _ => cases hx
  | _ => rfl
theorem isi_b {x : PyData} {M : Mem} (hx : isDic x = false) : isiV [.d x, .t "bool"] M = .ok (.d (.bool (match x with | .bool _ => true | _ => false))) M := by
  cases x with
  | dict _ => cases hx
  | _ => rfl
theorem lcE_at {vs : List Nat} {fi : Ei} {γ : Tg} {t : Env → Mem → Res Bool} {h : Ev} {e : Env} {M M1 : Mem} {xs : List PyData} (hf : fi e M = .ok xs M1) : lcE vs fi γ t h e M = lcL γ t h (ewipe e vs) xs [] M1 := by
  unfold lcE
  rw [hf, bind_ok]
theorem all_true {α : Type} {l : List α} {M : Mem} : allV [.d (.list (l.map fun _ => PyData.bool true))] M = .ok (.d (.bool true)) M := by
  have : l.map (fun _ => PyData.bool true) = (l.map fun _ => true).map PyData.bool := by rw [List.map_map]; rfl
  unfold allV
  rw [this]
  simp only [rdOf, lstOf, Option.bind_some, blsOf_map]
  simp
theorem seqI_a {f : Ev} {e : Env} {M M1 : Mem} {x : Vl} {xs : List PyData} (h : f e M = .ok x M1) (hx : walkOf x = some xs) : seqI f e M = .ok xs M1 := by
  unfold seqI
  rw [h, bind_ok]
  simp only [hx]
theorem zipI_a {f g : Ev} {e : Env} {M M1 M2 : Mem} {x y : Vl} {p : List PyData × List PyData} (h : f e M = .ok x M1) (h2 : g e M1 = .ok y M2) (hx : zipOf x y = some p) : zipI f g e M = .ok (zipD p.1 p.2) M2 := by
  unfold zipI
  rw [h, bind_ok, h2, bind_ok]
  simp only [hx]
theorem rngI1_a {f : Ev} {e : Env} {M M1 : Mem} {i : Int} (h : f e M = .ok (.d (.int i)) M1) (hi : -(2 ^ 62) ≤ i ∧ i < 2 ^ 62) : rngI1 f e M = .ok (rangeD 0 i) M1 := by
  unfold rngI1
  rw [h, bind_ok]
  exact if_pos hi
theorem rgE1_a {f : Ev} {e : Env} {M M1 : Mem} {i : Int} (h : f e M = .ok (.d (.int i)) M1) (h0 : 0 ≤ i) (hi : i ≤ 2 ^ 24) : rgE1 f e M = .ok (rangeD 0 i) M1 := by
  unfold rgE1
  rw [h, bind_ok]
  refine if_pos ?_
  unfold rgOk
  simp only [decide_eq_true_eq]
  omega
theorem rangeD_nat (n : Nat) : rangeD 0 (n : Int) = ((List.range n).map fun (i : Nat) => PyData.int i) := by
  unfold rangeD
  simp
theorem zipD_self {xs : List PyData} {x : PyData} (h : x ∈ zipD xs xs) : ∃ y ∈ xs, x = .tuple [y, y] := by
  unfold zipD at h
  obtain ⟨p, hp, rfl⟩ := List.mem_map.mp h
  have : ∀ (l : List PyData) (p : PyData × PyData), p ∈ l.zip l → p.1 = p.2 ∧ p.1 ∈ l := by
    intro l
    induction l with
    | nil => intro p h; cases h
    | cons a l ih =>
      intro p h
      rw [List.zip_cons_cons] at h
      rcases List.mem_cons.mp h with h | h
      · subst h; exact ⟨rfl, List.mem_cons_self⟩
      · exact ⟨(ih p h).1, List.mem_cons_of_mem _ (ih p h).2⟩
  obtain ⟨h1, h2⟩ := this xs p hp
  exact ⟨p.1, h2, by rw [← h1]⟩
/-- trees of whole numbers, truth values, texts and None -/
def leafB : PyData → Bool
  | .int _ => true
  | .bool _ => true
  | .none => true
  | .str _ => true
  | _ => false
def It : Nat → PyData → Prop
  | 0, x => leafB x = true
  | k + 1, x => leafB x = true ∨ ∃ xs, (x = .list xs ∨ x = .tuple xs) ∧ xs.length ≤ 2 ^ 20 ∧ ∀ y ∈ xs, It k y
theorem It.leaf {x : PyData} (h : leafB x = true) : ∀ k, It k x
  | 0 => h
  | _ + 1 => .inl h
theorem It.up {x : PyData} : ∀ {k : Nat}, It k x → It (k + 1) x := by
  intro k
  induction k generalizing x with
  | zero => exact fun h => .inl h
  | succ k ih =>
    rintro (h | ⟨xs, h1, h2, h3⟩)
    · exact .inl h
    · exact .inr ⟨xs, h1, h2, fun y hy => ih (h3 y hy)⟩
theorem It.mono {x : PyData} {j k : Nat} (h : It j x) (hk : j ≤ k) : It k x := by
  induction hk with
  | refl => exact h
  | step _ ih => exact ih.up
/-- the same with lists in place of tuples -/
def Tr : Nat → PyData → PyData → Prop
  | 0, x, y => ∃ i, x = .int i ∧ y = .int i
  | k + 1, x, y => (∃ i, x = .int i ∧ y = .int i) ∨ ∃ (xs : List PyData) (F : PyData → PyData), (x = .list xs ∨ x = .tuple xs) ∧ y = .list (xs.map F) ∧ xs.length ≤ 2 ^ 20 ∧ ∀ z ∈ xs, Tr k z (F z)
namespace C
theorem box_ok {cs : List Int} {k : Nat} (hk : k < cs.length) (hl : cs.length ≤ 2 ^ 20) {M : Mem} : ∃ o, m_box [.d (.list (cs.map PyData.int)), .d (.int (k : Nat))] M = .ok (.h M.length) (M ++ [o]) ∧ Bx 0 o := by
  have hk' : k < (cs.map PyData.int).length := by simpa using hk
  have hix := ixV_l (M := M) (atI_nat hk')
  rw [List.getElem_map] at hix
  have hlt : ((k : Int) < (((cs.map PyData.int).length : Nat) : Int)) := by omega
  generalize hA : (if cs[k] < 0 then -cs[k] else cs[k]) = A
  have hA0 : 0 ≤ A := by rw [← hA]; split <;> omega
  generalize hb : (if (decide (1000000000000000000 ≤ A)) = true then (1 : Int) else 0) = b
  have hb0 : 0 ≤ b ∧ b ≤ 1 := by rw [← hb]; split <;> omega
  refine ⟨.lst [.int (A * b), .int (cs[k] % 2305843009213693951 + 7919 * (k : Int) + 55), .int 0], ?_, ⟨_, _, _, rfl, Int.mul_nonneg hA0 hb0.1, by omega, by omega, by omega, by omega⟩⟩
  unfold m_box g_box
  simp only [defM, startE, seqS_a, setS_a, bindS_ok, bindS_er, then_nx, then_rt, then_er, ifS_a, ifK_t, ifK_f, retS_a, dropS_a, asgS_a, asK_a, goG_ok, subT_a, nopS_a, getV_0, getV_s, cst_a, op2_a, o2a_ok, o2b_ok, opT_a, oTa_ok, oTb_ok, consA_a, cAa_ok, cAb_ok, nilA_a, callF_a, cFa_ok, callE_a, cEa_ok, newE_a, nwa_ok, datE_a, dta_ok, dispE_a, tupE_a, tpa_ok, asDs_a, datas, bind_ok, pur_ok, bool_b, leave_d, leave_nx, leave_er, ifE_a, ifa_t, ifa_f, notT_a, nta_ok, andT_a, ana_t, ana_f, orT_a, ora_t, ora_f, tstE_a, tsa_b, andE_a, aEa_t, aEa_f, orE_a, oEa_t, oEa_f, notE_a, nEa_ok, add_ii, sub_ii, gt_ii, lt_ii, ge_ii, le_ii, setT_a, consT_a, cTa_ok, nilT_a, tupT_a, seqT_t, seqT_l, forS_a, List.map_cons, List.map_nil, List.length_cons, List.length_nil, Nat.reduceAdd, Nat.reduceSub, Nat.zero_add, Nat.add_zero, List.replicate, List.cons_append, List.nil_append, List.append_nil, List.getElem?_cons_zero, List.getElem?_cons_succ, List.set_cons_zero, List.set_cons_succ, List.getElem?_nil, Option.map_some, Option.map_none, Option.bind_some, if_true, if_false, ite_true, ite_false, eq_self_iff_true, and_self, and_true, true_and, decide_true, decide_false, Bool.false_eq_true, Bool.not_true, Bool.not_false, sizeLine, Nat.reducePow, Nat.reduceLeDiff, Nat.zero_le, pow_7, pow_18, pow_40, len_l, hlt, hix, abs_i, int_b, hA, hb, mul_ii (i := A) (j := b) (.inr (by omega)), mod_ii (show (0 : Int) < 2305843009213693951 by decide), mul_ii (i := 7919) (j := (k : Int)) (.inl (by decide))]
  rw [leave_h (by omega), take_all (by simp)]
theorem lists_ok : ∀ (f : Nat) (x y : PyData) (M : Mem), Tr f x y → m_lists (f + 1) [.d x] M = .ok (.d y) M := by
  intro f
  induction f with
  | zero =>
    rintro x y M ⟨i, rfl, rfl⟩
    unfold m_lists g_lists
    simp only [defM, startE, seqS_a, setS_a, bindS_ok, bindS_er, then_nx, then_rt, then_er, ifS_a, ifK_t, ifK_f, retS_a, dropS_a, asgS_a, asK_a, goG_ok, subT_a, nopS_a, getV_0, getV_s, cst_a, op2_a, o2a_ok, o2b_ok, opT_a, oTa_ok, oTb_ok, consA_a, cAa_ok, cAb_ok, nilA_a, callF_a, cFa_ok, callE_a, cEa_ok, newE_a, nwa_ok, datE_a, dta_ok, dispE_a, tupE_a, tpa_ok, asDs_a, datas, bind_ok, pur_ok, bool_b, leave_d, leave_nx, leave_er, ifE_a, ifa_t, ifa_f, notT_a, nta_ok, andT_a, ana_t, ana_f, orT_a, ora_t, ora_f, tstE_a, tsa_b, andE_a, aEa_t, aEa_f, orE_a, oEa_t, oEa_f, notE_a, nEa_ok, add_ii, sub_ii, gt_ii, lt_ii, ge_ii, le_ii, setT_a, consT_a, cTa_ok, nilT_a, tupT_a, seqT_t, seqT_l, forS_a, List.map_cons, List.map_nil, List.length_cons, List.length_nil, Nat.reduceAdd, Nat.reduceSub, Nat.zero_add, Nat.add_zero, List.replicate, List.cons_append, List.nil_append, List.append_nil, List.getElem?_cons_zero, List.getElem?_cons_succ, List.set_cons_zero, List.set_cons_succ, List.getElem?_nil, Option.map_some, Option.map_none, Option.bind_some, if_true, if_false, ite_true, ite_false, eq_self_iff_true, and_self, and_true, true_and, decide_true, decide_false, Bool.false_eq_true, Bool.not_true, Bool.not_false, sizeLine, Nat.reducePow, Nat.reduceLeDiff, Nat.zero_le, pow_7, pow_18, pow_40, isiT_lt (f := getV 0) (e := [some (.d (.int i)), none]) (M := M) (M1 := M) (x := .int i) rfl rfl, isSq]
    rw [take_all (by simp)]
  | succ f ih =>
    rintro x y M (⟨i, rfl, rfl⟩ | ⟨xs, F, hx, rfl, hl, hz⟩)
    · unfold m_lists g_lists
      simp only [defM, startE, seqS_a, setS_a, bindS_ok, bindS_er, then_nx, then_rt, then_er, ifS_a, ifK_t, ifK_f, retS_a, dropS_a, asgS_a, asK_a, goG_ok, subT_a, nopS_a, getV_0, getV_s, cst_a, op2_a, o2a_ok, o2b_ok, opT_a, oTa_ok, oTb_ok, consA_a, cAa_ok, cAb_ok, nilA_a, callF_a, cFa_ok, callE_a, cEa_ok, newE_a, nwa_ok, datE_a, dta_ok, dispE_a, tupE_a, tpa_ok, asDs_a, datas, bind_ok, pur_ok, bool_b, leave_d, leave_nx, leave_er, ifE_a, ifa_t, ifa_f, notT_a, nta_ok, andT_a, ana_t, ana_f, orT_a, ora_t, ora_f, tstE_a, tsa_b, andE_a, aEa_t, aEa_f, orE_a, oEa_t, oEa_f, notE_a, nEa_ok, add_ii, sub_ii, gt_ii, lt_ii, ge_ii, le_ii, setT_a, consT_a, cTa_ok, nilT_a, tupT_a, seqT_t, seqT_l, forS_a, List.map_cons, List.map_nil, List.length_cons, List.length_nil, Nat.reduceAdd, Nat.reduceSub, Nat.zero_add, Nat.add_zero, List.replicate, List.cons_append, List.nil_append, List.append_nil, List.getElem?_cons_zero, List.getElem?_cons_succ, List.set_cons_zero, List.set_cons_succ, List.getElem?_nil, Option.map_some, Option.map_none, Option.bind_some, if_true, if_false, ite_true, ite_false, eq_self_iff_true, and_self, and_true, true_and, decide_true, decide_false, Bool.false_eq_true, Bool.not_true, Bool.not_false, sizeLine, Nat.reducePow, Nat.reduceLeDiff, Nat.zero_le, pow_7, pow_18, pow_40, isiT_lt (f := getV 0) (e := [some (.d (.int i)), none]) (M := M) (M1 := M) (x := .int i) rfl rfl, isSq]
      rw [take_all (by simp)]
    · have hw : walkOf (.d x) = some xs := by rcases hx with rfl | rfl <;> rfl
      have hs : isSq x = true := by rcases hx with rfl | rfl <;> rfl
      have hd : isDic x = false := by rcases hx with rfl | rfl <;> rfl
      have hlc : lcE [1] (seqI (getV 0)) (setT 1) (fun _ M => .ok true M) (callF 1 (m_lists (f + 1)) (consA (getV 1) nilA)) [some (.d x), none] M = .ok (xs.map F) M := by
        rw [lcE_at (seqI_a (x := .d x) (M1 := M) (by simp only [defM, startE, seqS_a, setS_a, bindS_ok, bindS_er, then_nx, then_rt, then_er, ifS_a, ifK_t, ifK_f, retS_a, dropS_a, asgS_a, asK_a, goG_ok, subT_a, nopS_a, getV_0, getV_s, cst_a, op2_a, o2a_ok, o2b_ok, opT_a, oTa_ok, oTb_ok, consA_a, cAa_ok, cAb_ok, nilA_a, callF_a, cFa_ok, callE_a, cEa_ok, newE_a, nwa_ok, datE_a, dta_ok, dispE_a, tupE_a, tpa_ok, asDs_a, datas, bind_ok, pur_ok, bool_b, leave_d, leave_nx, leave_er, ifE_a, ifa_t, ifa_f, notT_a, nta_ok, andT_a, ana_t, ana_f, orT_a, ora_t, ora_f, tstE_a, tsa_b, andE_a, aEa_t, aEa_f, orE_a, oEa_t, oEa_f, notE_a, nEa_ok, add_ii, sub_ii, gt_ii, lt_ii, ge_ii, le_ii, setT_a, consT_a, cTa_ok, nilT_a, tupT_a, seqT_t, seqT_l, forS_a, List.map_cons, List.map_nil, List.length_cons, List.length_nil, Nat.reduceAdd, Nat.reduceSub, Nat.zero_add, Nat.add_zero, List.replicate, List.cons_append, List.nil_append, List.append_nil, List.getElem?_cons_zero, List.getElem?_cons_succ, List.set_cons_zero, List.set_cons_succ, List.getElem?_nil, Option.map_some, Option.map_none, Option.bind_some, if_true, if_false, ite_true, ite_false, eq_self_iff_true, and_self, and_true, true_and, decide_true, decide_false, Bool.false_eq_true, Bool.not_true, Bool.not_false, sizeLine, Nat.reducePow, Nat.reduceLeDiff, Nat.zero_le, pow_7, pow_18, pow_40]) hw)]
        have := lcL_map (γ := setT 1) (t := fun _ M => .ok true M) (h := callF 1 (m_lists (f + 1)) (consA (getV 1) nilA)) (ew := ewipe [some (.d x), none] [1]) (M := M) F xs [] (by have : sizeLine = 2 ^ 24 := rfl; simp; omega) (fun z hz' => by
          refine ⟨[some (.d x), some (.d z)], rfl, rfl, ?_⟩
          simp only [defM, startE, seqS_a, setS_a, bindS_ok, bindS_er, then_nx, then_rt, then_er, ifS_a, ifK_t, ifK_f, retS_a, dropS_a, asgS_a, asK_a, goG_ok, subT_a, nopS_a, getV_0, getV_s, cst_a, op2_a, o2a_ok, o2b_ok, opT_a, oTa_ok, oTb_ok, consA_a, cAa_ok, cAb_ok, nilA_a, callF_a, cFa_ok, callE_a, cEa_ok, newE_a, nwa_ok, datE_a, dta_ok, dispE_a, tupE_a, tpa_ok, asDs_a, datas, bind_ok, pur_ok, bool_b, leave_d, leave_nx, leave_er, ifE_a, ifa_t, ifa_f, notT_a, nta_ok, andT_a, ana_t, ana_f, orT_a, ora_t, ora_f, tstE_a, tsa_b, andE_a, aEa_t, aEa_f, orE_a, oEa_t, oEa_f, notE_a, nEa_ok, add_ii, sub_ii, gt_ii, lt_ii, ge_ii, le_ii, setT_a, consT_a, cTa_ok, nilT_a, tupT_a, seqT_t, seqT_l, forS_a, List.map_cons, List.map_nil, List.length_cons, List.length_nil, Nat.reduceAdd, Nat.reduceSub, Nat.zero_add, Nat.add_zero, List.replicate, List.cons_append, List.nil_append, List.append_nil, List.getElem?_cons_zero, List.getElem?_cons_succ, List.set_cons_zero, List.set_cons_succ, List.getElem?_nil, Option.map_some, Option.map_none, Option.bind_some, if_true, if_false, ite_true, ite_false, eq_self_iff_true, and_self, and_true, true_and, decide_true, decide_false, Bool.false_eq_true, Bool.not_true, Bool.not_false, sizeLine, Nat.reducePow, Nat.reduceLeDiff, Nat.zero_le, pow_7, pow_18, pow_40, ih z (F z) M (hz z hz')])
        exact this
      unfold m_lists g_lists
      simp only [defM, startE, seqS_a, setS_a, bindS_ok, bindS_er, then_nx, then_rt, then_er, ifS_a, ifK_t, ifK_f, retS_a, dropS_a, asgS_a, asK_a, goG_ok, subT_a, nopS_a, getV_0, getV_s, cst_a, op2_a, o2a_ok, o2b_ok, opT_a, oTa_ok, oTb_ok, consA_a, cAa_ok, cAb_ok, nilA_a, callF_a, cFa_ok, callE_a, cEa_ok, newE_a, nwa_ok, datE_a, dta_ok, dispE_a, tupE_a, tpa_ok, asDs_a, datas, bind_ok, pur_ok, bool_b, leave_d, leave_nx, leave_er, ifE_a, ifa_t, ifa_f, notT_a, nta_ok, andT_a, ana_t, ana_f, orT_a, ora_t, ora_f, tstE_a, tsa_b, andE_a, aEa_t, aEa_f, orE_a, oEa_t, oEa_f, notE_a, nEa_ok, add_ii, sub_ii, gt_ii, lt_ii, ge_ii, le_ii, setT_a, consT_a, cTa_ok, nilT_a, tupT_a, seqT_t, seqT_l, forS_a, List.map_cons, List.map_nil, List.length_cons, List.length_nil, Nat.reduceAdd, Nat.reduceSub, Nat.zero_add, Nat.add_zero, List.replicate, List.cons_append, List.nil_append, List.append_nil, List.getElem?_cons_zero, List.getElem?_cons_succ, List.set_cons_zero, List.set_cons_succ, List.getElem?_nil, Option.map_some, Option.map_none, Option.bind_some, if_true, if_false, ite_true, ite_false, eq_self_iff_true, and_self, and_true, true_and, decide_true, decide_false, Bool.false_eq_true, Bool.not_true, Bool.not_false, sizeLine, Nat.reducePow, Nat.reduceLeDiff, Nat.zero_le, pow_7, pow_18, pow_40, isiT_lt (f := getV 0) (e := [some (.d x), none]) (M := M) (M1 := M) (x := x) rfl hd, hs, hlc]
      rw [take_all (by simp)]
theorem same_ok : ∀ (f : Nat) (x : PyData) (M : Mem), It f x → m_same (f + 1) [.d x, .d x] M = .ok (.d (.bool true)) M := by
  have eq_nn : ∀ M : Mem, eqV (.d .none) (.d .none) M = .ok (.d (.bool true)) M := fun M => rfl
  have leaf : ∀ (self : Fn) (x : PyData) (M : Mem), leafB x = true → defM 4 0 (g_same self) [.d x, .d x] M = .ok (.d (.bool true)) M := by
    intro self x M hx
    unfold g_same
    cases x with
    | int i =>
      simp only [defM, startE, seqS_a, setS_a, bindS_ok, bindS_er, then_nx, then_rt, then_er, ifS_a, ifK_t, ifK_f, retS_a, dropS_a, asgS_a, asK_a, goG_ok, subT_a, nopS_a, getV_0, getV_s, cst_a, op2_a, o2a_ok, o2b_ok, opT_a, oTa_ok, oTb_ok, consA_a, cAa_ok, cAb_ok, nilA_a, callF_a, cFa_ok, callE_a, cEa_ok, newE_a, nwa_ok, datE_a, dta_ok, dispE_a, tupE_a, tpa_ok, asDs_a, datas, bind_ok, pur_ok, bool_b, leave_d, leave_nx, leave_er, ifE_a, ifa_t, ifa_f, notT_a, nta_ok, andT_a, ana_t, ana_f, orT_a, ora_t, ora_f, tstE_a, tsa_b, andE_a, aEa_t, aEa_f, orE_a, oEa_t, oEa_f, notE_a, nEa_ok, add_ii, sub_ii, gt_ii, lt_ii, ge_ii, le_ii, setT_a, consT_a, cTa_ok, nilT_a, tupT_a, seqT_t, seqT_l, forS_a, List.map_cons, List.map_nil, List.length_cons, List.length_nil, Nat.reduceAdd, Nat.reduceSub, Nat.zero_add, Nat.add_zero, List.replicate, List.cons_append, List.nil_append, List.append_nil, List.getElem?_cons_zero, List.getElem?_cons_succ, List.set_cons_zero, List.set_cons_succ, List.getElem?_nil, Option.map_some, Option.map_none, Option.bind_some, if_true, if_false, ite_true, ite_false, eq_self_iff_true, and_self, and_true, true_and, decide_true, decide_false, Bool.false_eq_true, Bool.not_true, Bool.not_false, sizeLine, Nat.reducePow, Nat.reduceLeDiff, Nat.zero_le, pow_7, pow_18, pow_40, isiT_lt (f := getV 1) (e := [some (.d (.int i)), some (.d (.int i)), none, none]) (M := M) (M1 := M) (x := (.int i)) rfl rfl, isSq, isiT_sb (f := getV 1) (e := [some (.d (.int i)), some (.d (.int i)), none, none]) (M := M) (M1 := M) (x := (.int i)) rfl rfl, isSb, isi_i (x := (.int i)) rfl, isi_b (x := (.int i)) rfl, eq_ii, eq_bb, eq_ss, is_n, beq_self_eq_true]
      rw [take_all (by simp)]
    | bool i =>
      simp only [defM, startE, seqS_a, setS_a, bindS_ok, bindS_er, then_nx, then_rt, then_er, ifS_a, ifK_t, ifK_f, retS_a, dropS_a, asgS_a, asK_a, goG_ok, subT_a, nopS_a, getV_0, getV_s, cst_a, op2_a, o2a_ok, o2b_ok, opT_a, oTa_ok, oTb_ok, consA_a, cAa_ok, cAb_ok, nilA_a, callF_a, cFa_ok, callE_a, cEa_ok, newE_a, nwa_ok, datE_a, dta_ok, dispE_a, tupE_a, tpa_ok, asDs_a, datas, bind_ok, pur_ok, bool_b, leave_d, leave_nx, leave_er, ifE_a, ifa_t, ifa_f, notT_a, nta_ok, andT_a, ana_t, ana_f, orT_a, ora_t, ora_f, tstE_a, tsa_b, andE_a, aEa_t, aEa_f, orE_a, oEa_t, oEa_f, notE_a, nEa_ok, add_ii, sub_ii, gt_ii, lt_ii, ge_ii, le_ii, setT_a, consT_a, cTa_ok, nilT_a, tupT_a, seqT_t, seqT_l, forS_a, List.map_cons, List.map_nil, List.length_cons, List.length_nil, Nat.reduceAdd, Nat.reduceSub, Nat.zero_add, Nat.add_zero, List.replicate, List.cons_append, List.nil_append, List.append_nil, List.getElem?_cons_zero, List.getElem?_cons_succ, List.set_cons_zero, List.set_cons_succ, List.getElem?_nil, Option.map_some, Option.map_none, Option.bind_some, if_true, if_false, ite_true, ite_false, eq_self_iff_true, and_self, and_true, true_and, decide_true, decide_false, Bool.false_eq_true, Bool.not_true, Bool.not_false, sizeLine, Nat.reducePow, Nat.reduceLeDiff, Nat.zero_le, pow_7, pow_18, pow_40, isiT_lt (f := getV 1) (e := [some (.d (.bool i)), some (.d (.bool i)), none, none]) (M := M) (M1 := M) (x := (.bool i)) rfl rfl, isSq, isiT_sb (f := getV 1) (e := [some (.d (.bool i)), some (.d (.bool i)), none, none]) (M := M) (M1 := M) (x := (.bool i)) rfl rfl, isSb, isi_i (x := (.bool i)) rfl, isi_b (x := (.bool i)) rfl, eq_ii, eq_bb, eq_ss, is_n, beq_self_eq_true]
      rw [take_all (by simp)]
    | str i =>
      simp only [defM, startE, seqS_a, setS_a, bindS_ok, bindS_er, then_nx, then_rt, then_er, ifS_a, ifK_t, ifK_f, retS_a, dropS_a, asgS_a, asK_a, goG_ok, subT_a, nopS_a, getV_0, getV_s, cst_a, op2_a, o2a_ok, o2b_ok, opT_a, oTa_ok, oTb_ok, consA_a, cAa_ok, cAb_ok, nilA_a, callF_a, cFa_ok, callE_a, cEa_ok, newE_a, nwa_ok, datE_a, dta_ok, dispE_a, tupE_a, tpa_ok, asDs_a, datas, bind_ok, pur_ok, bool_b, leave_d, leave_nx, leave_er, ifE_a, ifa_t, ifa_f, notT_a, nta_ok, andT_a, ana_t, ana_f, orT_a, ora_t, ora_f, tstE_a, tsa_b, andE_a, aEa_t, aEa_f, orE_a, oEa_t, oEa_f, notE_a, nEa_ok, add_ii, sub_ii, gt_ii, lt_ii, ge_ii, le_ii, setT_a, consT_a, cTa_ok, nilT_a, tupT_a, seqT_t, seqT_l, forS_a, List.map_cons, List.map_nil, List.length_cons, List.length_nil, Nat.reduceAdd, Nat.reduceSub, Nat.zero_add, Nat.add_zero, List.replicate, List.cons_append, List.nil_append, List.append_nil, List.getElem?_cons_zero, List.getElem?_cons_succ, List.set_cons_zero, List.set_cons_succ, List.getElem?_nil, Option.map_some, Option.map_none, Option.bind_some, if_true, if_false, ite_true, ite_false, eq_self_iff_true, and_self, and_true, true_and, decide_true, decide_false, Bool.false_eq_true, Bool.not_true, Bool.not_false, sizeLine, Nat.reducePow, Nat.reduceLeDiff, Nat.zero_le, pow_7, pow_18, pow_40, isiT_lt (f := getV 1) (e := [some (.d (.str i)), some (.d (.str i)), none, none]) (M := M) (M1 := M) (x := (.str i)) rfl rfl, isSq, isiT_sb (f := getV 1) (e := [some (.d (.str i)), some (.d (.str i)), none, none]) (M := M) (M1 := M) (x := (.str i)) rfl rfl, isSb, isi_i (x := (.str i)) rfl, isi_b (x := (.str i)) rfl, eq_ii, eq_bb, eq_ss, is_n, beq_self_eq_true]
      rw [take_all (by simp)]
    | none =>
      simp only [defM, startE, seqS_a, setS_a, bindS_ok, bindS_er, then_nx, then_rt, then_er, ifS_a, ifK_t, ifK_f, retS_a, dropS_a, asgS_a, asK_a, goG_ok, subT_a, nopS_a, getV_0, getV_s, cst_a, op2_a, o2a_ok, o2b_ok, opT_a, oTa_ok, oTb_ok, consA_a, cAa_ok, cAb_ok, nilA_a, callF_a, cFa_ok, callE_a, cEa_ok, newE_a, nwa_ok, datE_a, dta_ok, dispE_a, tupE_a, tpa_ok, asDs_a, datas, bind_ok, pur_ok, bool_b, leave_d, leave_nx, leave_er, ifE_a, ifa_t, ifa_f, notT_a, nta_ok, andT_a, ana_t, ana_f, orT_a, ora_t, ora_f, tstE_a, tsa_b, andE_a, aEa_t, aEa_f, orE_a, oEa_t, oEa_f, notE_a, nEa_ok, add_ii, sub_ii, gt_ii, lt_ii, ge_ii, le_ii, setT_a, consT_a, cTa_ok, nilT_a, tupT_a, seqT_t, seqT_l, forS_a, List.map_cons, List.map_nil, List.length_cons, List.length_nil, Nat.reduceAdd, Nat.reduceSub, Nat.zero_add, Nat.add_zero, List.replicate, List.cons_append, List.nil_append, List.append_nil, List.getElem?_cons_zero, List.getElem?_cons_succ, List.set_cons_zero, List.set_cons_succ, List.getElem?_nil, Option.map_some, Option.map_none, Option.bind_some, if_true, if_false, ite_true, ite_false, eq_self_iff_true, and_self, and_true, true_and, decide_true, decide_false, Bool.false_eq_true, Bool.not_true, Bool.not_false, sizeLine, Nat.reducePow, Nat.reduceLeDiff, Nat.zero_le, pow_7, pow_18, pow_40, isiT_lt (f := getV 1) (e := [some (.d .none), some (.d .none), none, none]) (M := M) (M1 := M) (x := .none) rfl rfl, isSq, isiT_sb (f := getV 1) (e := [some (.d .none), some (.d .none), none, none]) (M := M) (M1 := M) (x := .none) rfl rfl, isSb, isi_i (x := .none) rfl, isi_b (x := .none) rfl, eq_ii, eq_bb, eq_ss, eq_nn, is_n, beq_self_eq_true]
      rw [take_all (by simp)]
    | _ => cases hx
  intro f
  induction f with
  | zero => exact fun x M h => leaf _ x M h
  | succ f ih =>
    rintro x M (h | ⟨xs, hx, hl, hz⟩)
    · exact leaf _ x M h
    · have hw : zipOf (.d x) (.d x) = some (xs, xs) := by rcases hx with rfl | rfl <;> rfl
      have hs : isSq x = true := by rcases hx with rfl | rfl <;> rfl
      have hd : isDic x = false := by rcases hx with rfl | rfl <;> rfl
      have hlen : lenV [.d x] M = .ok (.d (.int (xs.length : Nat))) M := by rcases hx with rfl | rfl <;> rfl
      have hlc : lcE [2, 3] (zipI (getV 0) (getV 1)) (tupT 2 (consT (setT 2) (consT (setT 3) nilT))) (fun _ M => .ok true M) (callF 2 (m_same (f + 1)) (consA (getV 2) (consA (getV 3) nilA))) [some (.d x), some (.d x), none, none] M = .ok ((zipD xs xs).map fun _ => .bool true) M := by
        rw [lcE_at (zipI_a (x := .d x) (y := .d x) (M1 := M) (M2 := M) (by simp only [defM, startE, seqS_a, setS_a, bindS_ok, bindS_er, then_nx, then_rt, then_er, ifS_a, ifK_t, ifK_f, retS_a, dropS_a, asgS_a, asK_a, goG_ok, subT_a, nopS_a, getV_0, getV_s, cst_a, op2_a, o2a_ok, o2b_ok, opT_a, oTa_ok, oTb_ok, consA_a, cAa_ok, cAb_ok, nilA_a, callF_a, cFa_ok, callE_a, cEa_ok, newE_a, nwa_ok, datE_a, dta_ok, dispE_a, tupE_a, tpa_ok, asDs_a, datas, bind_ok, pur_ok, bool_b, leave_d, leave_nx, leave_er, ifE_a, ifa_t, ifa_f, notT_a, nta_ok, andT_a, ana_t, ana_f, orT_a, ora_t, ora_f, tstE_a, tsa_b, andE_a, aEa_t, aEa_f, orE_a, oEa_t, oEa_f, notE_a, nEa_ok, add_ii, sub_ii, gt_ii, lt_ii, ge_ii, le_ii, setT_a, consT_a, cTa_ok, nilT_a, tupT_a, seqT_t, seqT_l, forS_a, List.map_cons, List.map_nil, List.length_cons, List.length_nil, Nat.reduceAdd, Nat.reduceSub, Nat.zero_add, Nat.add_zero, List.replicate, List.cons_append, List.nil_append, List.append_nil, List.getElem?_cons_zero, List.getElem?_cons_succ, List.set_cons_zero, List.set_cons_succ, List.getElem?_nil, Option.map_some, Option.map_none, Option.bind_some, if_true, if_false, ite_true, ite_false, eq_self_iff_true, and_self, and_true, true_and, decide_true, decide_false, Bool.false_eq_true, Bool.not_true, Bool.not_false, sizeLine, Nat.reducePow, Nat.reduceLeDiff, Nat.zero_le, pow_7, pow_18, pow_40]) (by simp only [defM, startE, seqS_a, setS_a, bindS_ok, bindS_er, then_nx, then_rt, then_er, ifS_a, ifK_t, ifK_f, retS_a, dropS_a, asgS_a, asK_a, goG_ok, subT_a, nopS_a, getV_0, getV_s, cst_a, op2_a, o2a_ok, o2b_ok, opT_a, oTa_ok, oTb_ok, consA_a, cAa_ok, cAb_ok, nilA_a, callF_a, cFa_ok, callE_a, cEa_ok, newE_a, nwa_ok, datE_a, dta_ok, dispE_a, tupE_a, tpa_ok, asDs_a, datas, bind_ok, pur_ok, bool_b, leave_d, leave_nx, leave_er, ifE_a, ifa_t, ifa_f, notT_a, nta_ok, andT_a, ana_t, ana_f, orT_a, ora_t, ora_f, tstE_a, tsa_b, andE_a, aEa_t, aEa_f, orE_a, oEa_t, oEa_f, notE_a, nEa_ok, add_ii, sub_ii, gt_ii, lt_ii, ge_ii, le_ii, setT_a, consT_a, cTa_ok, nilT_a, tupT_a, seqT_t, seqT_l, forS_a, List.map_cons, List.map_nil, List.length_cons, List.length_nil, Nat.reduceAdd, Nat.reduceSub, Nat.zero_add, Nat.add_zero, List.replicate, List.cons_append, List.nil_append, List.append_nil, List.getElem?_cons_zero, List.getElem?_cons_succ, List.set_cons_zero, List.set_cons_succ, List.getElem?_nil, Option.map_some, Option.map_none, Option.bind_some, if_true, if_false, ite_true, ite_false, eq_self_iff_true, and_self, and_true, true_and, decide_true, decide_false, Bool.false_eq_true, Bool.not_true, Bool.not_false, sizeLine, Nat.reducePow, Nat.reduceLeDiff, Nat.zero_le, pow_7, pow_18, pow_40]) hw)]
        have := lcL_map (γ := tupT 2 (consT (setT 2) (consT (setT 3) nilT))) (t := fun _ M => .ok true M) (h := callF 2 (m_same (f + 1)) (consA (getV 2) (consA (getV 3) nilA))) (ew := ewipe [some (.d x), some (.d x), none, none] [2, 3]) (M := M) (fun _ => .bool true) (zipD xs xs) [] (by have : sizeLine = 2 ^ 24 := rfl; rw [zipD_len]; simp; omega) (fun z hz' => by
          obtain ⟨y, hy, rfl⟩ := zipD_self hz'
          refine ⟨[some (.d x), some (.d x), some (.d y), some (.d y)], ?_, rfl, ?_⟩
          · show tupT 2 _ _ [some (.d x), some (.d x), none, none] M = _
            simp only [defM, startE, seqS_a, setS_a, bindS_ok, bindS_er, then_nx, then_rt, then_er, ifS_a, ifK_t, ifK_f, retS_a, dropS_a, asgS_a, asK_a, goG_ok, subT_a, nopS_a, getV_0, getV_s, cst_a, op2_a, o2a_ok, o2b_ok, opT_a, oTa_ok, oTb_ok, consA_a, cAa_ok, cAb_ok, nilA_a, callF_a, cFa_ok, callE_a, cEa_ok, newE_a, nwa_ok, datE_a, dta_ok, dispE_a, tupE_a, tpa_ok, asDs_a, datas, bind_ok, pur_ok, bool_b, leave_d, leave_nx, leave_er, ifE_a, ifa_t, ifa_f, notT_a, nta_ok, andT_a, ana_t, ana_f, orT_a, ora_t, ora_f, tstE_a, tsa_b, andE_a, aEa_t, aEa_f, orE_a, oEa_t, oEa_f, notE_a, nEa_ok, add_ii, sub_ii, gt_ii, lt_ii, ge_ii, le_ii, setT_a, consT_a, cTa_ok, nilT_a, tupT_a, seqT_t, seqT_l, forS_a, List.map_cons, List.map_nil, List.length_cons, List.length_nil, Nat.reduceAdd, Nat.reduceSub, Nat.zero_add, Nat.add_zero, List.replicate, List.cons_append, List.nil_append, List.append_nil, List.getElem?_cons_zero, List.getElem?_cons_succ, List.set_cons_zero, List.set_cons_succ, List.getElem?_nil, Option.map_some, Option.map_none, Option.bind_some, if_true, if_false, ite_true, ite_false, eq_self_iff_true, and_self, and_true, true_and, decide_true, decide_false, Bool.false_eq_true, Bool.not_true, Bool.not_false, sizeLine, Nat.reducePow, Nat.reduceLeDiff, Nat.zero_le, pow_7, pow_18, pow_40]
          · simp only [defM, startE, seqS_a, setS_a, bindS_ok, bindS_er, then_nx, then_rt, then_er, ifS_a, ifK_t, ifK_f, retS_a, dropS_a, asgS_a, asK_a, goG_ok, subT_a, nopS_a, getV_0, getV_s, cst_a, op2_a, o2a_ok, o2b_ok, opT_a, oTa_ok, oTb_ok, consA_a, cAa_ok, cAb_ok, nilA_a, callF_a, cFa_ok, callE_a, cEa_ok, newE_a, nwa_ok, datE_a, dta_ok, dispE_a, tupE_a, tpa_ok, asDs_a, datas, bind_ok, pur_ok, bool_b, leave_d, leave_nx, leave_er, ifE_a, ifa_t, ifa_f, notT_a, nta_ok, andT_a, ana_t, ana_f, orT_a, ora_t, ora_f, tstE_a, tsa_b, andE_a, aEa_t, aEa_f, orE_a, oEa_t, oEa_f, notE_a, nEa_ok, add_ii, sub_ii, gt_ii, lt_ii, ge_ii, le_ii, setT_a, consT_a, cTa_ok, nilT_a, tupT_a, seqT_t, seqT_l, forS_a, List.map_cons, List.map_nil, List.length_cons, List.length_nil, Nat.reduceAdd, Nat.reduceSub, Nat.zero_add, Nat.add_zero, List.replicate, List.cons_append, List.nil_append, List.append_nil, List.getElem?_cons_zero, List.getElem?_cons_succ, List.set_cons_zero, List.set_cons_succ, List.getElem?_nil, Option.map_some, Option.map_none, Option.bind_some, if_true, if_false, ite_true, ite_false, eq_self_iff_true, and_self, and_true, true_and, decide_true, decide_false, Bool.false_eq_true, Bool.not_true, Bool.not_false, sizeLine, Nat.reducePow, Nat.reduceLeDiff, Nat.zero_le, pow_7, pow_18, pow_40, ih y M (hz y hy)])
        exact this
      unfold m_same g_same
      simp only [defM, startE, seqS_a, setS_a, bindS_ok, bindS_er, then_nx, then_rt, then_er, ifS_a, ifK_t, ifK_f, retS_a, dropS_a, asgS_a, asK_a, goG_ok, subT_a, nopS_a, getV_0, getV_s, cst_a, op2_a, o2a_ok, o2b_ok, opT_a, oTa_ok, oTb_ok, consA_a, cAa_ok, cAb_ok, nilA_a, callF_a, cFa_ok, callE_a, cEa_ok, newE_a, nwa_ok, datE_a, dta_ok, dispE_a, tupE_a, tpa_ok, asDs_a, datas, bind_ok, pur_ok, bool_b, leave_d, leave_nx, leave_er, ifE_a, ifa_t, ifa_f, notT_a, nta_ok, andT_a, ana_t, ana_f, orT_a, ora_t, ora_f, tstE_a, tsa_b, andE_a, aEa_t, aEa_f, orE_a, oEa_t, oEa_f, notE_a, nEa_ok, add_ii, sub_ii, gt_ii, lt_ii, ge_ii, le_ii, setT_a, consT_a, cTa_ok, nilT_a, tupT_a, seqT_t, seqT_l, forS_a, List.map_cons, List.map_nil, List.length_cons, List.length_nil, Nat.reduceAdd, Nat.reduceSub, Nat.zero_add, Nat.add_zero, List.replicate, List.cons_append, List.nil_append, List.append_nil, List.getElem?_cons_zero, List.getElem?_cons_succ, List.set_cons_zero, List.set_cons_succ, List.getElem?_nil, Option.map_some, Option.map_none, Option.bind_some, if_true, if_false, ite_true, ite_false, eq_self_iff_true, and_self, and_true, true_and, decide_true, decide_false, Bool.false_eq_true, Bool.not_true, Bool.not_false, sizeLine, Nat.reducePow, Nat.reduceLeDiff, Nat.zero_le, pow_7, pow_18, pow_40, isiT_lt (f := getV 1) (e := [some (.d x), some (.d x), none, none]) (M := M) (M1 := M) (x := x) rfl hd, hs, isi_l (x := x) hd, isi_t (x := x) hd, ne_bb, beq_self_eq_true, hlen, eq_ii, hlc, all_true]
      rw [take_all (by simp)]
end C
end DL

namespace DL
open PySem PySem.Spec L2
theorem set_self {M : Mem} {i : Nat} {o : MO} (h : M[i]? = some o) : M.set i o = M := by
  have hi := lt_of_get h
  rw [List.getElem?_eq_getElem hi] at h
  cases h
  simp
theorem tup_l {xs : List PyData} {M : Mem} : tupleV [.d (.list xs)] M = .ok (.d (.tuple xs)) M := Eq.trans rfl rfl
theorem tup_t {xs : List PyData} {M : Mem} : tupleV [.d (.tuple xs)] M = .ok (.d (.tuple xs)) M := Eq.trans rfl rfl
theorem tup_h {i : Nat} {xs : List PyData} {M : Mem} (h : M[i]? = some (.lst xs)) : tupleV [.h i] M = .ok (.d (.tuple xs)) M := by
  simp [tupleV, rdOf, lstOf, h]
def intD : PyData → Int
  | .int i => i
  | _ => 0
abbrev nD (n : Nat) : PyData := .int (n : Int)
theorem perm_nats {ys : List PyData} {n : Nat} (h : ys.Perm ((List.range n).map nD)) : ∃ ss : List Nat, ss.Perm (List.range n) ∧ ys = ss.map nD := by
  refine ⟨ys.map fun y => (intD y).toNat, ?_, ?_⟩
  · have := h.map fun y => (intD y).toNat
    rw [List.map_map] at this
    have e : ((fun y => (intD y).toNat) ∘ nD) = id := by funext k; simp [intD]
    rw [e, List.map_id] at this
    exact this
  · rw [List.map_map]
    have : ∀ y ∈ ys, (nD ∘ fun y => (intD y).toNat) y = y := fun y hy => by
      obtain ⟨k, _, rfl⟩ := List.mem_map.mp (h.mem_iff.mp hy)
      simp [intD]
    rw [List.map_congr_left this, List.map_id']
theorem ints_of {ys : List PyData} {Q : Int → Prop} (h : ∀ y ∈ ys, ∃ i, y = .int i ∧ Q i) : ∃ ps : List Int, ys = ps.map PyData.int ∧ ∀ p ∈ ps, Q p := by
  refine ⟨ys.map intD, ?_, fun p hp => ?_⟩
  · rw [List.map_map]
    have : ∀ y ∈ ys, (PyData.int ∘ intD) y = y := fun y hy => by
      obtain ⟨i, rfl, _⟩ := h y hy
      rfl
    rw [List.map_congr_left this, List.map_id']
  · obtain ⟨y, hy, rfl⟩ := List.mem_map.mp hp
    obtain ⟨i, rfl, q⟩ := h y hy
    exact q
/-- a state: who sits where, and the purses -/
abbrev stD (ss : List Nat) (ps : List Int) : PyData := .tuple [.tuple (ss.map nD), .tuple (ps.map PyData.int)]
structure StOk (n : Nat) (top : Int) (ss : List Nat) (ps : List Int) : Prop where
  perm : ss.Perm (List.range n)
  len : ps.length = n
  top : ∀ p ∈ ps, 0 ≤ p ∧ p ≤ top
namespace C
theorem random_ok {n0 i n : Nat} {M : Mem} {o : MO} {top : Int} (hM : M[i]? = some o) (hB : Bx n0 o) (hn0 : n0 + 2000 * n ≤ 2 ^ 44) (hn : n ≤ 1000) (ht : 0 ≤ top) (ht2 : top ≤ 10 ^ 60) :
    ∃ ss ps o', m_random_state [.h i, .d (.int (n : Nat)), .d (.int top)] M = .ok (.d (stD ss ps)) (M.set i o') ∧ Bx (n0 + 2000 * n) o' ∧ StOk n top ss ps := by
  have hsz : sizeLine = 2 ^ 24 := rfl
  have hcan : ∀ x ∈ rangeD 0 (n : Int), x.canLay0 = true := fun x hx => by
    rw [rangeD_nat] at hx
    obtain ⟨k, _, rfl⟩ := List.mem_map.mp hx
    rfl
  have hrl : (rangeD 0 (n : Int)).length = n := by rw [rangeD_nat]; simp
  obtain ⟨ys, o1, e1, B1, P1⟩ := strewn_ok (xs := rangeD 0 (n : Int)) hM hB (by rw [hrl]; omega) (by rw [hrl]; omega) hcan
  rw [hrl] at B1
  rw [rangeD_nat] at P1
  obtain ⟨ss, hss, rfl⟩ := perm_nats P1
  obtain ⟨zs, M2, e2, ⟨o2, rfl, B2⟩, hzl, hz⟩ := lcL_all (γ := setT 5) (t := fun _ M => .ok true M) (h := ifE (opT gtV (callF 2 (C.m_take 10) (consA (getV 0) (consA (cst (.d (.int 3))) nilA))) (cst (.d (.int 0)))) (callF 2 (C.m_take 10) (consA (getV 0) (consA (op2 addV (getV 2) (cst (.d (.int 1)))) nilA))) (cst (.d (.int 0))))
    (ew := [some (.h i), some (.d (.int (n : Nat))), some (.d (.int top)), some (.d (.tuple (ss.map nD))), none, none])
    (fun k N => ∃ o', N = M.set i o' ∧ Bx (n0 + 512 * n + 1024 * k) o') (fun _ _ y => ∃ p : Int, y = .int p ∧ 0 ≤ p ∧ p ≤ top) (rangeD 0 (n : Int)) 0 [] (M.set i o1) (Nat.zero_le _) (by rw [hrl]; simp; omega)
    (by
      rintro k x N hx ⟨o', rfl, B⟩
      have hkn : k < n := by
        have := lt_of_getL hx
        omega
      obtain ⟨v, o3, e3, B3, k1, k2⟩ := take10 (sp := 3) (getM (o' := o') hM) B (by omega) (by omega) (by omega)
      obtain ⟨u, o4, e4, B4, k3, k4⟩ := take10 (sp := top + 1) (getM (o' := o3) hM) B3 (by omega) (by omega) (by omega)
      rw [List.set_set] at e3 e4
      by_cases hv : 0 < v
      · refine ⟨[some (.h i), some (.d (.int (n : Nat))), some (.d (.int top)), some (.d (.tuple (ss.map nD))), none, some (.d x)], M.set i o', M.set i o', .int u, M.set i o4, rfl, rfl, ?_, ⟨o4, rfl, B4.mono (by omega)⟩, u, rfl, k3, by omega⟩
        simp only [defM, startE, seqS_a, setS_a, bindS_ok, bindS_er, then_nx, then_rt, then_er, ifS_a, ifK_t, ifK_f, retS_a, dropS_a, asgS_a, asK_a, goG_ok, subT_a, nopS_a, getV_0, getV_s, cst_a, op2_a, o2a_ok, o2b_ok, opT_a, oTa_ok, oTb_ok, consA_a, cAa_ok, cAb_ok, nilA_a, callF_a, cFa_ok, callE_a, cEa_ok, newE_a, nwa_ok, datE_a, dta_ok, dispE_a, tupE_a, tpa_ok, asDs_a, datas, bind_ok, pur_ok, bool_b, leave_d, leave_nx, leave_er, ifE_a, ifa_t, ifa_f, notT_a, nta_ok, andT_a, ana_t, ana_f, orT_a, ora_t, ora_f, tstE_a, tsa_b, andE_a, aEa_t, aEa_f, orE_a, oEa_t, oEa_f, notE_a, nEa_ok, add_ii, sub_ii, gt_ii, lt_ii, ge_ii, le_ii, setT_a, consT_a, cTa_ok, nilT_a, tupT_a, seqT_t, seqT_l, forS_a, List.map_cons, List.map_nil, List.length_cons, List.length_nil, Nat.reduceAdd, Nat.reduceSub, Nat.zero_add, Nat.add_zero, List.replicate, List.cons_append, List.nil_append, List.append_nil, List.getElem?_cons_zero, List.getElem?_cons_succ, List.set_cons_zero, List.set_cons_succ, List.getElem?_nil, Option.map_some, Option.map_none, Option.bind_some, if_true, if_false, ite_true, ite_false, eq_self_iff_true, and_self, and_true, true_and, decide_true, decide_false, Bool.false_eq_true, Bool.not_true, Bool.not_false, sizeLine, Nat.reducePow, Nat.reduceLeDiff, Nat.zero_le, pow_7, pow_18, pow_40, e3, hv, e4]
      · refine ⟨[some (.h i), some (.d (.int (n : Nat))), some (.d (.int top)), some (.d (.tuple (ss.map nD))), none, some (.d x)], M.set i o', M.set i o', .int 0, M.set i o3, rfl, rfl, ?_, ⟨o3, rfl, B3.mono (by omega)⟩, 0, rfl, by omega, by omega⟩
        simp only [defM, startE, seqS_a, setS_a, bindS_ok, bindS_er, then_nx, then_rt, then_er, ifS_a, ifK_t, ifK_f, retS_a, dropS_a, asgS_a, asK_a, goG_ok, subT_a, nopS_a, getV_0, getV_s, cst_a, op2_a, o2a_ok, o2b_ok, opT_a, oTa_ok, oTb_ok, consA_a, cAa_ok, cAb_ok, nilA_a, callF_a, cFa_ok, callE_a, cEa_ok, newE_a, nwa_ok, datE_a, dta_ok, dispE_a, tupE_a, tpa_ok, asDs_a, datas, bind_ok, pur_ok, bool_b, leave_d, leave_nx, leave_er, ifE_a, ifa_t, ifa_f, notT_a, nta_ok, andT_a, ana_t, ana_f, orT_a, ora_t, ora_f, tstE_a, tsa_b, andE_a, aEa_t, aEa_f, orE_a, oEa_t, oEa_f, notE_a, nEa_ok, add_ii, sub_ii, gt_ii, lt_ii, ge_ii, le_ii, setT_a, consT_a, cTa_ok, nilT_a, tupT_a, seqT_t, seqT_l, forS_a, List.map_cons, List.map_nil, List.length_cons, List.length_nil, Nat.reduceAdd, Nat.reduceSub, Nat.zero_add, Nat.add_zero, List.replicate, List.cons_append, List.nil_append, List.append_nil, List.getElem?_cons_zero, List.getElem?_cons_succ, List.set_cons_zero, List.set_cons_succ, List.getElem?_nil, Option.map_some, Option.map_none, Option.bind_some, if_true, if_false, ite_true, ite_false, eq_self_iff_true, and_self, and_true, true_and, decide_true, decide_false, Bool.false_eq_true, Bool.not_true, Bool.not_false, sizeLine, Nat.reducePow, Nat.reduceLeDiff, Nat.zero_le, pow_7, pow_18, pow_40, e3, hv])
    ⟨o1, rfl, B1.mono (by omega)⟩
  rw [List.drop_zero, List.nil_append] at e2
  rw [Nat.sub_zero, hrl] at hzl
  obtain ⟨ps, rfl, hps⟩ := ints_of (ys := zs) (Q := fun p => 0 ≤ p ∧ p ≤ top) (fun y hy => by
    obtain ⟨k, hk⟩ := List.getElem?_of_mem hy
    have hkl := lt_of_getL hk
    have hkr : k < (rangeD 0 (n : Int)).length := by omega
    exact hz k _ y (by rw [Nat.zero_add]; exact List.getElem?_eq_getElem hkr) hk)
  rw [hrl] at B2
  refine ⟨ss, ps, o2, ?_, B2.mono (by omega), ⟨hss, by simpa using hzl, hps⟩⟩
  have hlc : lcE [5] (rngI1 (getV 1)) (setT 5) (fun _ M => .ok true M) (ifE (opT gtV (callF 2 (C.m_take 10) (consA (getV 0) (consA (cst (.d (.int 3))) nilA))) (cst (.d (.int 0)))) (callF 2 (C.m_take 10) (consA (getV 0) (consA (op2 addV (getV 2) (cst (.d (.int 1)))) nilA))) (cst (.d (.int 0))))
      [some (.h i), some (.d (.int (n : Nat))), some (.d (.int top)), some (.d (.tuple (ss.map nD))), none, none] (M.set i o1) = .ok (ps.map PyData.int) (M.set i o2) := by
    rw [lcE_at (rngI1_a (M1 := M.set i o1) (i := (n : Int)) (by simp only [defM, startE, seqS_a, setS_a, bindS_ok, bindS_er, then_nx, then_rt, then_er, ifS_a, ifK_t, ifK_f, retS_a, dropS_a, asgS_a, asK_a, goG_ok, subT_a, nopS_a, getV_0, getV_s, cst_a, op2_a, o2a_ok, o2b_ok, opT_a, oTa_ok, oTb_ok, consA_a, cAa_ok, cAb_ok, nilA_a, callF_a, cFa_ok, callE_a, cEa_ok, newE_a, nwa_ok, datE_a, dta_ok, dispE_a, tupE_a, tpa_ok, asDs_a, datas, bind_ok, pur_ok, bool_b, leave_d, leave_nx, leave_er, ifE_a, ifa_t, ifa_f, notT_a, nta_ok, andT_a, ana_t, ana_f, orT_a, ora_t, ora_f, tstE_a, tsa_b, andE_a, aEa_t, aEa_f, orE_a, oEa_t, oEa_f, notE_a, nEa_ok, add_ii, sub_ii, gt_ii, lt_ii, ge_ii, le_ii, setT_a, consT_a, cTa_ok, nilT_a, tupT_a, seqT_t, seqT_l, forS_a, List.map_cons, List.map_nil, List.length_cons, List.length_nil, Nat.reduceAdd, Nat.reduceSub, Nat.zero_add, Nat.add_zero, List.replicate, List.cons_append, List.nil_append, List.append_nil, List.getElem?_cons_zero, List.getElem?_cons_succ, List.set_cons_zero, List.set_cons_succ, List.getElem?_nil, Option.map_some, Option.map_none, Option.bind_some, if_true, if_false, ite_true, ite_false, eq_self_iff_true, and_self, and_true, true_and, decide_true, decide_false, Bool.false_eq_true, Bool.not_true, Bool.not_false, sizeLine, Nat.reducePow, Nat.reduceLeDiff, Nat.zero_le, pow_7, pow_18, pow_40]) (by omega))]
    exact e2
  unfold m_random_state g_random_state
  simp only [defM, startE, seqS_a, setS_a, bindS_ok, bindS_er, then_nx, then_rt, then_er, ifS_a, ifK_t, ifK_f, retS_a, dropS_a, asgS_a, asK_a, goG_ok, subT_a, nopS_a, getV_0, getV_s, cst_a, op2_a, o2a_ok, o2b_ok, opT_a, oTa_ok, oTb_ok, consA_a, cAa_ok, cAb_ok, nilA_a, callF_a, cFa_ok, callE_a, cEa_ok, newE_a, nwa_ok, datE_a, dta_ok, dispE_a, tupE_a, tpa_ok, asDs_a, datas, bind_ok, pur_ok, bool_b, leave_d, leave_nx, leave_er, ifE_a, ifa_t, ifa_f, notT_a, nta_ok, andT_a, ana_t, ana_f, orT_a, ora_t, ora_f, tstE_a, tsa_b, andE_a, aEa_t, aEa_f, orE_a, oEa_t, oEa_f, notE_a, nEa_ok, add_ii, sub_ii, gt_ii, lt_ii, ge_ii, le_ii, setT_a, consT_a, cTa_ok, nilT_a, tupT_a, seqT_t, seqT_l, forS_a, List.map_cons, List.map_nil, List.length_cons, List.length_nil, Nat.reduceAdd, Nat.reduceSub, Nat.zero_add, Nat.add_zero, List.replicate, List.cons_append, List.nil_append, List.append_nil, List.getElem?_cons_zero, List.getElem?_cons_succ, List.set_cons_zero, List.set_cons_succ, List.getElem?_nil, Option.map_some, Option.map_none, Option.bind_some, if_true, if_false, ite_true, ite_false, eq_self_iff_true, and_self, and_true, true_and, decide_true, decide_false, Bool.false_eq_true, Bool.not_true, Bool.not_false, sizeLine, Nat.reducePow, Nat.reduceLeDiff, Nat.zero_le, pow_7, pow_18, pow_40, rgE1_a (f := getV 1) (e := [some (.h i), some (.d (.int (n : Nat))), some (.d (.int top)), none, none, none]) (M := M) (M1 := M) (i := (n : Int)) rfl (by omega) (by omega), e1, tup_l, hlc]
  rw [take_all (by simp)]
end C
end DL

namespace DL
open PySem PySem.Spec L2
/-! ### keyword calls, sums, texts of states, places turned round -/
def cKa (n k : Nat) (q : List Nat) (m : Fn) (g : Evs) (e : Env) (r : Res (List Vl)) : Res Vl := r.bind fun xs M1 => (g e M1).bind fun ys M2 => if xs.length = n ∧ ys.length = k ∧ (permL q (xs ++ ys)).length = q.length then m (permL q (xs ++ ys)) M2 else .st
def cKb (n k : Nat) (q : List Nat) (m : Fn) (xs : List Vl) (r : Res (List Vl)) : Res Vl := r.bind fun ys M2 => if xs.length = n ∧ ys.length = k ∧ (permL q (xs ++ ys)).length = q.length then m (permL q (xs ++ ys)) M2 else .st
theorem callK_a {n k : Nat} {q : List Nat} {m : Fn} {f g : Evs} {e : Env} {M : Mem} : callK n k q m f g e M = cKa n k q m g e (f e M) := Eq.trans rfl rfl
theorem cKa_ok {n k : Nat} {q : List Nat} {m : Fn} {g : Evs} {e : Env} {M1 : Mem} {xs : List Vl} : cKa n k q m g e (.ok xs M1) = cKb n k q m xs (g e M1) := Eq.trans rfl rfl
theorem cKb_1 {m : Fn} {M2 : Mem} {x : Vl} : cKb 0 1 [0] m [] (.ok [x] M2) = m [x] M2 := by
  show (if ([] : List Vl).length = 0 ∧ [x].length = 1 ∧ (permL [0] ([] ++ [x])).length = [0].length then m (permL [0] ([] ++ [x])) M2 else .st) = _
  rw [if_pos ⟨rfl, rfl, rfl⟩]
  rfl
theorem cKb_10 {m : Fn} {M2 : Mem} {x y : Vl} : cKb 0 2 [1, 0] m [] (.ok [x, y] M2) = m [y, x] M2 := by
  show (if ([] : List Vl).length = 0 ∧ [x, y].length = 2 ∧ (permL [1, 0] ([] ++ [x, y])).length = [1, 0].length then m (permL [1, 0] ([] ++ [x, y])) M2 else .st) = _
  rw [if_pos ⟨rfl, rfl, rfl⟩]
  rfl
theorem sum_t {ps : List Int} {M : Mem} : sumTV [.d (.tuple (ps.map PyData.int))] M = .ok (.d (.int ps.sum)) M := by
  simp [sumTV, seqOf, tupOf, rdOf, lstOf, intsOf_map]
theorem sum_l {ps : List Int} {M : Mem} : sumTV [.d (.list (ps.map PyData.int))] M = .ok (.d (.int ps.sum)) M := by
  simp [sumTV, sumV, rdOf, lstOf, intsOf_map]
theorem eq_self_l {xs : List PyData} {M : Mem} (h : (PyData.list xs).canLay0 = true) (hd : (PyData.list xs).depth ≤ 64) : eqV (.d (.list xs)) (.d (.list xs)) M = .ok (.d (.bool true)) M := by
  show eqD (.list xs) (.list xs) M = _
  refine (if_pos (by unfold eqOk; rw [h]; simp; exact hd)).trans ?_
  rw [SeqAt.eqv_refl _ h]
theorem eq_self_s {x : Str} {M : Mem} : eqV (.d (.str x)) (.d (.str x)) M = .ok (.d (.bool true)) M := by
  rw [eq_ss]
  simp
theorem rep_a {f : Ev} {e : Env} {M M1 : Mem} {n : Nat} (h : f e M = .ok (.d (.int (n : Nat))) M1) (hn : n ≤ 2 ^ 20) : repE (datE (dispE (consA (cst (.d (.int 0))) nilA))) f e M = .ok (List.replicate n (.int 0)) M1 := by
  have h1 : datE (dispE (consA (cst (.d (.int 0))) nilA)) e M = .ok (.d (.list [.int 0])) M := by simp only [defM, startE, seqS_a, setS_a, bindS_ok, bindS_er, then_nx, then_rt, then_er, ifS_a, ifK_t, ifK_f, retS_a, dropS_a, asgS_a, asK_a, goG_ok, subT_a, nopS_a, getV_0, getV_s, cst_a, op2_a, o2a_ok, o2b_ok, opT_a, oTa_ok, oTb_ok, consA_a, cAa_ok, cAb_ok, nilA_a, callF_a, cFa_ok, callE_a, cEa_ok, newE_a, nwa_ok, datE_a, dta_ok, dispE_a, tupE_a, tpa_ok, asDs_a, datas, bind_ok, pur_ok, bool_b, leave_d, leave_nx, leave_er, ifE_a, ifa_t, ifa_f, notT_a, nta_ok, andT_a, ana_t, ana_f, orT_a, ora_t, ora_f, tstE_a, tsa_b, andE_a, aEa_t, aEa_f, orE_a, oEa_t, oEa_f, notE_a, nEa_ok, add_ii, sub_ii, gt_ii, lt_ii, ge_ii, le_ii, setT_a, consT_a, cTa_ok, nilT_a, tupT_a, seqT_t, seqT_l, forS_a, List.map_cons, List.map_nil, List.length_cons, List.length_nil, Nat.reduceAdd, Nat.reduceSub, Nat.zero_add, Nat.add_zero, List.replicate, List.cons_append, List.nil_append, List.append_nil, List.getElem?_cons_zero, List.getElem?_cons_succ, List.set_cons_zero, List.set_cons_succ, List.getElem?_nil, Option.map_some, Option.map_none, Option.bind_some, if_true, if_false, ite_true, ite_false, eq_self_iff_true, and_self, and_true, true_and, decide_true, decide_false, Bool.false_eq_true, Bool.not_true, Bool.not_false, sizeLine, Nat.reducePow, Nat.reduceLeDiff, Nat.zero_le, pow_7, pow_18, pow_40]
  unfold repE
  rw [h1, bind_ok, h, bind_ok]
  have hs : sizeLine = 2 ^ 24 := rfl
  refine (if_pos ⟨by omega, by omega, by rw [hs]; simp; omega⟩).trans ?_
  simp
/-- ls tells where each of ss is -/
structure Inv2 (ss ls : List Nat) : Prop where
  len : ls.length = ss.length
  at_ : ∀ (k x : Nat), ss[k]? = some x → ls[x]? = some k
/-- places: each below the number, no two alike -/
structure PN (ss : List Nat) : Prop where
  lt : ∀ (k x : Nat), ss[k]? = some x → x < ss.length
  inj : ∀ (j k x : Nat), ss[j]? = some x → ss[k]? = some x → j = k
theorem PN.of_perm {ss : List Nat} {n : Nat} (h : ss.Perm (List.range n)) : PN ss := by
  have hl : ss.length = n := by rw [h.length_eq, List.length_range]
  refine ⟨fun k x e => ?_, fun j k x e1 e2 => ?_⟩
  · have := List.mem_range.mp (h.mem_iff.mp (List.mem_of_getElem? e))
    omega
  · have nd : ss.Nodup := h.nodup_iff.mpr List.nodup_range
    have h1 := lt_of_getL e1
    have h2 := lt_of_getL e2
    exact (List.getElem?_inj h1 nd).mp (e1.trans e2.symm)
theorem Inv2.pn {ss ls : List Nat} (hs : ∀ x : Nat, x < ss.length → ∃ k : Nat, ss[k]? = some x) (h : Inv2 ss ls) : PN ls := by
  have key : ∀ (x k : Nat), ls[x]? = some k → ss[k]? = some x := fun x k e => by
    have hx := lt_of_getL e
    rw [h.len] at hx
    obtain ⟨j, hj⟩ := hs x hx
    have := h.at_ j x hj
    rw [e] at this
    cases this
    exact hj
  refine ⟨fun k x e => ?_, fun j k x e1 e2 => ?_⟩
  · rw [h.len]; exact lt_of_getL (key _ _ e)
  · have a := key _ _ e1
    have b := key _ _ e2
    rw [a] at b
    exact Option.some.inj b
theorem onto_of_perm {ss : List Nat} {n : Nat} (h : ss.Perm (List.range n))  : ∀ x : Nat, x < ss.length → ∃ k : Nat, ss[k]? = some x := fun x hx => by
  have hl : ss.length = n := by rw [h.length_eq, List.length_range]
  exact List.getElem?_of_mem (h.mem_iff.mpr (List.mem_range.mpr (by omega)))
theorem Inv2.unique {ss l1 l2 : List Nat} (hs : ∀ x : Nat, x < ss.length → ∃ k : Nat, ss[k]? = some x) (h1 : Inv2 ss l1) (h2 : Inv2 ss l2) : l1 = l2 := by
  apply List.ext_getElem?
  intro x
  by_cases hx : x < ss.length
  · obtain ⟨k, hk⟩ := hs x hx
    rw [h1.at_ k x hk, h2.at_ k x hk]
  · rw [List.getElem?_eq_none (by rw [h1.len]; omega), List.getElem?_eq_none (by rw [h2.len]; omega)]
theorem Inv2.back {ss ls : List Nat} (hs : ∀ x : Nat, x < ss.length → ∃ k : Nat, ss[k]? = some x) (h : Inv2 ss ls) : Inv2 ls ss := by
  refine ⟨h.len.symm, fun x k e => ?_⟩
  have hx := lt_of_getL e
  rw [h.len] at hx
  obtain ⟨j, hj⟩ := hs x hx
  have := h.at_ j x hj
  rw [e] at this
  cases this
  exact hj
theorem Inv2.onto {ss ls : List Nat} (hp : PN ss) (h : Inv2 ss ls) : ∀ x : Nat, x < ls.length → ∃ k : Nat, ls[k]? = some x := fun x hx => by
  rw [h.len] at hx
  exact ⟨ss[x], h.at_ x _ (List.getElem?_eq_getElem hx)⟩
/-- the list while it is being written -/
structure Part (ss ls : List Nat) (j : Nat) : Prop where
  len : ls.length = ss.length
  at_ : ∀ (k x : Nat), k < j → ss[k]? = some x → ls[x]? = some k
theorem Part.zero (ss : List Nat) : Part ss (List.replicate ss.length 0) 0 := ⟨by simp, fun k x h _ => by omega⟩
theorem Part.step {ss ls : List Nat} {j x : Nat} (hp : PN ss) (h : Part ss ls j) (hx : ss[j]? = some x) : Part ss (ls.set x j) (j + 1) := by
  refine ⟨by rw [List.length_set]; exact h.len, fun k y hk hy => ?_⟩
  by_cases hkj : k = j
  · subst hkj
    rw [hx] at hy
    cases hy
    have : x < ls.length := by rw [h.len]; exact hp.lt _ _ hx
    simp [this]
  · have hne : x ≠ y := fun e => hkj (hp.inj k j y hy (e ▸ hx))
    rw [List.getElem?_set_ne hne]
    exact h.at_ k y (by omega) hy
theorem Part.done {ss ls : List Nat} (h : Part ss ls ss.length) : Inv2 ss ls := ⟨h.len, fun k x e => h.at_ k x (lt_of_getL e) e⟩
theorem set_nD {ls : List Nat} {x j : Nat} : (ls.map nD).set x (nD j) = (ls.set x j).map nD := (List.map_set ..).symm
theorem sum_len {B : Nat} : ∀ ts : List Str, (∀ t ∈ ts, t.length ≤ B) → (ts.map (·.length)).sum ≤ B * ts.length
  | [], _ => by simp
  | t :: ts, h => by
    have h1 := h t List.mem_cons_self
    have h2 := sum_len ts fun u hu => h u (List.mem_cons_of_mem _ hu)
    rw [List.map_cons, List.sum_cons, List.length_cons, Nat.mul_succ]
    omega
theorem shownAll_map : ∀ xs : List PyData, PyData.shownAll xs = xs.map PyData.shown
  | [] => rfl
  | x :: xs => by rw [PyData.shownAll, shownAll_map xs]; rfl
theorem shown_tup {xs : List PyData} {B : Nat} (h : ∀ x ∈ xs, x.shown.length ≤ B) : (PyData.tuple xs).shown.length ≤ (B + 2) * xs.length + 3 := by
  rw [PyData.shown, shownAll_map]
  have h1 := tupleText_len_le (xs.map PyData.shown)
  have h2 := sum_len (B := B) (xs.map PyData.shown) (fun t ht => by
    obtain ⟨x, hx, rfl⟩ := List.mem_map.mp ht
    exact h x hx)
  rw [List.length_map] at h1 h2
  rw [Nat.add_mul]
  omega
theorem shown_int {i : Int} (h : i.natAbs < 10 ^ 70) : (PyData.int i).shown.length ≤ 71 := by
  have e := int_text_length_le10 (k := 70) (by decide) h
  rw [PyData.shown]
  exact Nat.le_trans (Nat.le_of_eq (PySem.ofString_length _)) e
theorem depth_leaves : ∀ xs : List PyData, (∀ x ∈ xs, x.depth = 0) → PyData.depthAll xs = 0
  | [], _ => rfl
  | x :: xs, h => by
    rw [PyData.depthAll, h x List.mem_cons_self, depth_leaves xs fun y hy => h y (List.mem_cons_of_mem _ hy)]
    rfl
theorem showableAll_of : ∀ xs : List PyData, (∀ x ∈ xs, x.showable = true) → PyData.showableAll xs = true
  | [], _ => rfl
  | x :: xs, h => by
    rw [PyData.showableAll, h x List.mem_cons_self, showableAll_of xs fun y hy => h y (List.mem_cons_of_mem _ hy)]
    rfl
theorem int_showable {i : Int} (h : i.natAbs < 10 ^ 70) : (PyData.int i).showable = true := by
  rw [PyData.showable, decide_eq_true_eq]
  by_cases h0 : i.natAbs = 0
  · rw [h0]; decide
  · refine Nat.lt_trans ((Nat.log2_lt h0).mpr (Nat.lt_trans h (show 10 ^ 70 < 2 ^ 250 by decide))) (by decide)
/-- the text of a state is short -/
theorem shown_st {ss : List Nat} {ps : List Int} (h1 : ss.length ≤ 1000) (h2 : ps.length ≤ 1000) (h3 : ∀ s ∈ ss, s < 1000) (h4 : ∀ p ∈ ps, p.natAbs < 10 ^ 70) :
    (stD ss ps).showable = true ∧ (stD ss ps).shown.length ≤ sizeLine ∧ (stD ss ps).depth ≤ 60 := by
  have hs : ∀ x ∈ ss.map nD, ∃ i : Int, x = .int i ∧ i.natAbs < 10 ^ 70 := fun x hx => by
    obtain ⟨s, h, rfl⟩ := List.mem_map.mp hx
    have := h3 s h
    exact ⟨s, rfl, by omega⟩
  have hp : ∀ x ∈ ps.map PyData.int, ∃ i : Int, x = .int i ∧ i.natAbs < 10 ^ 70 := fun x hx => by
    obtain ⟨s, h, rfl⟩ := List.mem_map.mp hx
    exact ⟨s, rfl, h4 s h⟩
  have k1 : ∀ xs : List PyData, (∀ x ∈ xs, ∃ i : Int, x = .int i ∧ i.natAbs < 10 ^ 70) → xs.length ≤ 1000 → (PyData.tuple xs).showable = true ∧ (PyData.tuple xs).shown.length ≤ 73003 ∧ (PyData.tuple xs).depth = 1 := fun xs h hl => by
    refine ⟨?_, ?_, ?_⟩
    · rw [PyData.showable]
      exact showableAll_of xs fun x hx => by obtain ⟨i, rfl, hi⟩ := h x hx; exact int_showable hi
    · have := shown_tup (B := 71) (xs := xs) fun x hx => by obtain ⟨i, rfl, hi⟩ := h x hx; exact shown_int hi
      have e : (71 + 2) * xs.length ≤ (71 + 2) * 1000 := Nat.mul_le_mul_left _ hl
      omega
    · rw [PyData.depth, depth_leaves xs fun x hx => by obtain ⟨i, rfl, hi⟩ := h x hx; rfl]
  obtain ⟨a1, a2, a3⟩ := k1 _ hs (by rw [List.length_map]; exact h1)
  obtain ⟨b1, b2, b3⟩ := k1 _ hp (by rw [List.length_map]; exact h2)
  refine ⟨?_, ?_, ?_⟩
  · rw [stD, PyData.showable]
    exact showableAll_of _ fun x hx => by
      rcases List.mem_cons.mp hx with rfl | hx
      · exact a1
      · rcases List.mem_cons.mp hx with rfl | hx
        · exact b1
        · cases hx
  · have := shown_tup (B := 73003) (xs := [PyData.tuple (ss.map nD), .tuple (ps.map PyData.int)]) fun x hx => by
      rcases List.mem_cons.mp hx with rfl | hx
      · exact a2
      · rcases List.mem_cons.mp hx with rfl | hx
        · exact b2
        · cases hx
    have e : sizeLine = 2 ^ 24 := rfl
    simp only [List.length_cons, List.length_nil] at this
    show (PyData.tuple [PyData.tuple (ss.map nD), .tuple (ps.map PyData.int)]).shown.length ≤ sizeLine
    omega
  · rw [stD, PyData.depth, PyData.depthAll, PyData.depthAll, PyData.depthAll, a3, b3]
    decide
end DL

namespace DL
open PySem PySem.Spec L2
section
variable {X : Cx} {W : WX} {a b c : Expr} {f1 f2 f3 : Ev} {pos : Pos}
/-! ### a op b op c -/
theorem chain_imp {K : Frag} {g g' : Vl → Vl → Mem → Res Vl} (σ : L2.St) (H : Hp) (Q : VK) (h : tE K W (chE g g' f1 f2 f3) σ H Q) :
    tChain (fun x y H Q => ∃ (w : Wd) (M : Mem) (a b : Vl), Rel K w M H ∧ RV K w a x ∧ RV K w b y ∧ Post K (fun _ _ _ => False) (RV K) w (g a b M) Q) (fun x y H Q => ∃ (w : Wd) (M : Mem) (a b : Vl), Rel K w M H ∧ RV K w a x ∧ RV K w b y ∧ Post K (fun _ _ _ => False) (RV K) w (g' a b M) Q) (tE K W f1) (tE K W f2) (tE K W f3) σ H Q := by
  obtain ⟨w, e, M, r, re, p⟩ := h
  exact ⟨w, e, M, r, re, p.bind fun x M1 w1 v H1 l1 r1 rv p1 =>
    ⟨w1, e, M1, r1, re.up l1, p1.bind fun y M2 w2 u H2 l2 r2 ru p2 =>
      ⟨w2, M2, x, y, r2, rv.up l2, ru, (Post.bind (RR := RV K) p2 fun z M3 w3 t H3 l3 r3 rt p3 => by
        unfold boolOf at p3
        split at p3
        · rename_i M4 k
          cases rt
          refine ⟨k, rfl, ?_⟩
          cases k with
          | false => rw [if_neg Bool.false_ne_true]; exact p3.at r3 (.bl _)
          | true =>
            rw [if_pos rfl]
            have p3 : Post K (WE W σ) (RV K) w3 ((f3 e M3).bind fun u M5 => (g' y u M5).pur) Q := p3
            exact ⟨w3, e, M3, r3, ((re.up l1).up l2).up l3, p3.bind fun u' M5 w5 vv H5 l5 r5 ru5 p5 => ⟨w5, M5, y, u', r5, (ru.up l3).up l5, ru5, p5.pur⟩⟩
        · exact p3.elim).pur⟩⟩⟩
theorem de_chn {op op' : CmpOp} {g g' : Vl → Vl → Mem → Res Vl} (ho : OpD X (compareOp op) g) (ho' : OpD X (compareOp op') g') (ha : DE X W a f1) (hb : DE X W b f2) (hc : DE X W c f3)
    (hm : lastMarks [op, op'] [b, c] = false := by with_unfolding_all rfl) : DE X W (.Compare a [op, op'] [b, c] pos) (chE g g' f1 f2 f3) :=
  PEweak (pe_chain ho ho' ha hb hc hm) fun σ H Q h => chain_imp σ H Q h
def chT (g g' : Vl → Vl → Mem → Res Vl) (f1 f2 f3 : Ev) : Env → Mem → Res Bool := fun e M => (chE g g' f1 f2 f3 e M).bind boolOf
theorem dt_chn {op op' : CmpOp} {g g' : Vl → Vl → Mem → Res Vl} (ho : OpD X (compareOp op) g) (ho' : OpD X (compareOp op') g') (ha : DE X W a f1) (hb : DE X W b f2) (hc : DE X W c f3)
    (hm : lastMarks [op, op'] [b, c] = false := by with_unfolding_all rfl) : DT X W (.Compare a [op, op'] [b, c] pos) (chT g g' f1 f2 f3) :=
  PTweak (pt_chain ho ho' ha hb hc hm) fun σ H Q ⟨w, e, M, r, re, p⟩ => chain_imp σ H _ ⟨w, e, M, r, re, p.bind fun z M1 w1 v H1 l1 r1 rv p1 => boolOf_at r1 rv p1⟩
/-! ### sorted -/
def sortI (ns : List Int) : List Int := ns.mergeSort (fun a b => decide (a ≤ b))
theorem sortI_perm (ns : List Int) : (sortI ns).Perm ns := List.mergeSort_perm ..
theorem sortI_asc (ns : List Int) : (sortI ns).Pairwise (· ≤ ·) := by
  have := List.pairwise_mergeSort (le := fun a b : Int => decide (a ≤ b)) (fun a b c h1 h2 => by simp at *; omega) (fun a b => by simp; omega) ns
  exact this.imp fun h => by simpa using h
theorem asc_unique : ∀ {l1 l2 : List Int}, l1.Perm l2 → l1.Pairwise (· ≤ ·) → l2.Pairwise (· ≤ ·) → l1 = l2
  | [], l2, p, _, _ => (List.nil_perm.mp p).symm
  | x :: l1, [], p, _, _ => absurd p.symm.nil_eq (by simp)
  | x :: l1, y :: l2, p, h1, h2 => by
    have hx := List.pairwise_cons.mp h1
    have hy := List.pairwise_cons.mp h2
    have e : x = y := by
      have m1 : x ∈ y :: l2 := p.mem_iff.mp List.mem_cons_self
      have m2 : y ∈ x :: l1 := p.mem_iff.mpr List.mem_cons_self
      rcases List.mem_cons.mp m1 with e | m1
      · exact e
      · rcases List.mem_cons.mp m2 with e | m2
        · exact e.symm
        · have a1 := hy.1 x m1
          have a2 := hx.1 y m2
          omega
    subst e
    rw [asc_unique ((List.perm_cons x).mp p) hx.2 hy.2]
end
section
open PyProof.Rows
variable {prog : Program} {w : World} {A : Around} {E : Value → Shared → Prop} {s : Shared}
theorem gather_tup {l : Addr} {vs : List Value} {Q : List Value → Shared → Prop} (hl : IsTup s.heap l vs.toArray) (hsz : vs.length ≤ sizeLine)
    (h : Q vs { s with heap := (s.heap.push (seqObj "list" #[] 0)).update s.heap.objs.size (Obj.mapSeq (· ++ vs.toArray)) }) : wpAny (model prog w) A (collect (.ref l)) Q E s := by
  obtain ⟨ob, hob, hcl, m, hda⟩ := hl
  have hob' : (s.heap.push (seqObj "list" #[] 0)).get? l = some ob := Heap.get?_push_of_some _ hob
  have made : (s.heap.push (seqObj "list" #[] 0)).get? s.heap.objs.size = some (seqObj "list" #[] 0) := Heap.get?_push_size _ rfl
  unfold collect
  refine wpAny_bind (wpAny_runValue (codeAny_builtin entry_proto_collect' (wpAny_bind (wpAny_newList (wpAny_pure ⟨Code.quiet_builtin _ (by decide +kernel), codeAny_builtin entry_list_iadd' ?_⟩)))))
  show wpAny _ _ (Builtin.List.listExtendWith (.ref s.heap.objs.size) (.ref l) (.ref s.heap.objs.size)) _ _ { s with heap := s.heap.push (seqObj "list" #[] 0) }
  unfold Builtin.List.listExtendWith
  refine wpAny_bind (wpAny_typeOf (T := "tuple") ⟨ob, hob', hcl⟩ ?_)
  rw [if_pos (by simp)]
  refine wpAny_bind (listItems_at hob' hda (wpAny_bind (listItems_at (xs := #[]) (n := 0) made rfl ?_)))
  rw [if_neg (by simp)]
  refine wpAny_bind (listUpdate_at (xs := #[]) (n := 0) made rfl (wpAny_pure ?_) (Nat.zero_le _) ?_)
  · show wpAny (model prog w) A (load s.heap.objs.size >>= _) Q E { s with heap := (s.heap.push (seqObj "list" #[] 0)).update s.heap.objs.size (Obj.mapSeq (· ++ vs.toArray)) }
    refine wpAny_bind (wpAny_load (get?_update_seq made _) (wpAny_pure ?_))
    simpa using h
  · simp only [Array.size_append, List.size_toArray, List.size_toArray, List.length_nil, Nat.zero_add]
    omega
open SrtO Srt in
theorem sorted_tup {l : Addr} {vs : List Value} {ns : List Int} {Q : Value → Shared → Prop} (hl : IsTup s.heap l vs.toArray) (hz : vs.length ≤ sizeLine) (hi : IntsAre vs ns)
    (h : ∀ out : List Value, Srtd ltIv out → Stb ltIv out vs → Q (.ref (s.heap.objs.size + 1)) { s with heap := sortedAll s.heap vs out.toArray }) :
    wpAny (model prog w) A (call (.builtin "sorted") [.ref l]) Q E s := by
  have h1 : ((s.heap.push (seqObj "list" #[] 0)).update s.heap.objs.size (Obj.mapSeq (· ++ vs.toArray))).objs.size = s.heap.objs.size + 1 := by rw [Heap.size_update, size_push']
  have h2 : (((s.heap.push (seqObj "list" #[] 0)).update s.heap.objs.size (Obj.mapSeq (· ++ vs.toArray))).push (seqObj "list" vs.toArray 0)).get? (s.heap.objs.size + 1) = some (seqObj "list" vs.toArray 0) := by rw [← h1]; exact Heap.get?_push_size _ rfl
  refine Calls.call_function_entry kind_sorted plain_sorted entry_sorted (args_sorted1 _) ?_
  unfold Builtin.«sorted»
  refine wpAny_bind (m := checkCount "sorted" 1 1 _) (wpAny_pure (wpAny_bind (gather_tup hl hz (wpAny_bind (wpAny_newList ?_ hz)))))
  show wpAny _ _ _ _ _ { s with heap := ((s.heap.push (seqObj "list" #[] 0)).update s.heap.objs.size (Obj.mapSeq (· ++ vs.toArray))).push (seqObj "list" vs.toArray 0) }
  rw [h1]
  exact wpAny_bind (wpAny_holding (wpAny_call_entry slot_list_sort ⟨_, h2, rfl⟩ entry_list_sort (list_sort_ord swo_int h2 hz (fun k2 => ints_sortable hi k2) fun out hs hb => ⟨_, rfl, wpAny_pure ⟨_, rfl, h out hs hb⟩⟩) (args_list_sort _)))
end
section
variable {X : Cx} {W : WX}
/-- sorted(list or tuple of whole numbers) -/
def rSrt (K : Frag) : List V → Hp → VK → Prop := fun vs H Q => ∃ (a : Addr) (ns : List Int), vs = [V.ref a] ∧ (SqL K H a (ns.map V.int) ∨ SqT K H a (ns.map V.int)) ∧ ∀ p : Addr, H p = none → Q (.ref p) (upd H p (.lst ((sortI ns).map V.int)))
theorem cr_srt : CallR X (.builtin "sorted") (rSrt X.K) := by
  intro pins s σ H vs us Q I r ⟨a, ns, e, hs, q⟩
  rcases hs with hs | hs
  · exact cr_sortedI pins s σ H vs us Q I r ⟨a, ns, e, hs, fun ns' p h1 h2 h3 => by rw [asc_unique (h1.trans (sortI_perm ns).symm) h2 (sortI_asc ns)]; exact q p h3⟩
  · subst e
    obtain ⟨its, rv, hl, hz⟩ := I.tuple hs
    rw [Vals.ref1 r]
    have hi := rv.ints
    refine sorted_tup hl (by rw [← rv.length]; exact hz) hi fun out h1 h2 => ?_
    obtain ⟨k1, k2, k3⟩ := SrtO.ints_out hi h1 h2
    obtain ⟨ep, he'⟩ := PyProof.Rows.sortedAll_at s.heap its out.toArray
    have e2 : out.map SrtO.iv = sortI ns := asc_unique (k2.trans (sortI_perm ns).symm) k3 (sortI_asc ns)
    rw [e2] at k1 k2
    have hlen : ((sortI ns).map V.int).length ≤ sizeLine := by
      rw [List.length_map, (sortI_perm ns).length_eq, ← List.length_map (f := V.int)]
      exact hz
    exact ⟨.ref _, upd H (s.heap.objs.size + 1) (.lst ((sortI ns).map V.int)), I.laid (t' := s.toks) (fun _ _ => PyProof.Rows.sortedAll_old) (Nat.le_succ _) ⟨hlen, out, ep, vals_of_ints k1, he'⟩, rfl, q _ (I.hok.fresh (Nat.le_succ _))⟩
def sortE (f : Ev) : Env → Mem → Res (List PyData) := fun e M => (f e M).bind fun x M1 => match (seqOf M1 x).bind intsOf with
  | some ns => .ok ((sortI ns).map PyData.int) M1
  | none => .st
theorem df_sorted {e : Expr} {f : Ev} {p pos : Pos} (hg : Gl X "sorted") (hm : X.mg "sorted" = none) (ha : DE X W e f) (he : starEach [e] X.env = (false, eval e X.env) :: starEach [] X.env := by rfl)
    (hpl : (backTo pos (starEach [] X.env)).any (·.1) = false := by rfl) (hv : bootBuiltins "sorted" = some (.builtin "sorted") := by decide +kernel) : DF X W (.Call (.Name "sorted" p) [e] [] pos) (sortE f) :=
  PEweak (pe_callB cr_srt hg hm hv (pa_cons ha pa_nil he) (by decide) (by decide) he hpl) fun σ H Q ⟨w, e, M, r, re, p⟩ =>
    ⟨w, e, M, r, re, p.bind fun x M1 w1 v H1 l1 r1 rv p1 => by
      split at p1
      · rename_i ns hq
        obtain ⟨xs, hx, hn⟩ := Option.bind_eq_some_iff.mp hq
        obtain ⟨q, ws, rfl, hs, d⟩ := seq_at r1 rv hx
        rw [ints_at d hn] at hs
        exact ⟨q, ns, rfl, hs, p1.at r1 (DpAll.ints _)⟩
      · exact p1.elim⟩
end
end DL

namespace DL
open PySem PySem.Spec L2
/-! ### a tuple so many times -/
def mulTV : Vl → Vl → Mem → Res Vl
  | .d (.tuple xs), .d (.int k), M => if xs ≠ [] ∧ 2 ≤ k ∧ k ≤ 1000 ∧ xs.length ≤ 1000 then .ok (.d (.tuple (List.replicate k.toNat xs).flatten)) M else .st
  | _, _, _ => .st
section
variable {X : Cx} {W : WX}
theorem opd_mulT : OpD X (binaryOp .Mult) mulTV := by
  rintro pins s σ H x y v u Q I rx ry ⟨w, M, a, b, r, ra, rb, p⟩
  unfold mulTV at p
  split at p
  · split at p
    · rename_i hz
      cases rb
      obtain ⟨p1, vs, rfl, s1, d1⟩ := tup_at r ra (show tupOf _ = some _ from rfl)
      refine op_repT pins s σ H _ _ v u Q I rx ry ⟨p1, _, vs, rfl, rfl, s1, fun z => hz.1 ?_, hz.2.1, hz.2.2.1, by rw [d1.len]; exact hz.2.2.2, fun q hq => ?_⟩
      · subst z
        have l1 := d1.len
        exact List.eq_nil_of_length_eq_zero (by simpa using l1.symm)
      · exact p _ _ _ (Wd.le_fz (r.new hq).2) (r.alloc hq _) (Dp.tup (.inl (.inl upd_same)) (DpAll.up (Wd.le_fz (w := w) (r.new hq).2).2 _ _ (DpAll.rep d1 _)))
    · exact p.elim
  · exact p.elim
end
/-! ### a tuple turned round -/
section
open PyProof.Rows HT
variable {prog : Program} {w : World} {A : Around} {E : Value → Shared → Prop} {s : Shared}
theorem applied_back {sl : Addr} {vl vu vs : Value} {n : Nat} {Q : Int × Int × Nat → Shared → Prop} (hs : s.heap.IsSliceOf sl vl vu vs) (pl : IsPart vl none) (pu : IsPart vu none) (ps : IsPart vs (some (-1))) (h : Q ((n : Int) - 1, -1, n) s) :
    wpAny (model prog w) A (Builtin.Slice.sliceApplied (.ref sl) (pure (n : Int))) Q E s := by
  obtain ⟨os, hos, hcs, hds⟩ := id hs
  unfold Builtin.Slice.sliceApplied Builtin.Slice.sliceFields
  refine wpAny_bind (wpAny_bind (wpAny_field hos hds (x := vl) rfl (wpAny_bind (wpAny_field hos hds (x := vu) rfl (wpAny_bind (wpAny_field hos hds (x := vs) rfl (wpAny_pure ?_)))))))
  refine wpAny_bind (slicePart_ ps ?_)
  show wpAny _ _ (if ((-1 : Int) == 0) = true then _ else _) _ _ s
  rw [if_neg (by decide)]
  refine wpAny_bind (slicePart_ pl (wpAny_bind (slicePart_ pu (wpAny_bind (wpAny_pure ?_)))))
  have e : Builtin.Slice.sliceAdjust none none (-1) (n : Int) = ((n : Int) - 1, -1) := rfl
  have e2 : Builtin.Slice.slicePlaces ((n : Int) - 1) (-1) (-1) = n := by
    unfold Builtin.Slice.slicePlaces
    rw [if_neg (by decide), show (-(-1 : Int)) = 1 from rfl, Int.ediv_one]
    split <;> omega
  show wpAny _ _ (match Builtin.Slice.sliceAdjust none none (-1) (n : Int) with | (lo, hi) => pure (lo, (-1 : Int), Builtin.Slice.slicePlaces lo hi (-1))) _ _ s
  rw [e]
  show wpAny _ _ (pure ((n : Int) - 1, (-1 : Int), Builtin.Slice.slicePlaces ((n : Int) - 1) (-1) (-1))) _ _ s
  rw [e2]
  exact wpAny_pure h
theorem back_pick (xs : List Value) : (List.range xs.length).filterMap (fun (m : Nat) => xs.toArray[(((xs.length : Int) - 1) + (m : Int) * (-1)).toNat]?) = xs.reverse := by
  have e : ∀ m ∈ List.range xs.length, (fun (m : Nat) => xs.toArray[(((xs.length : Int) - 1) + (m : Int) * (-1)).toNat]?) m = some (xs.reverse.getD m .none) := fun m hm => by
    have hm := List.mem_range.mp hm
    have h1 : (((xs.length : Int) - 1) + (m : Int) * (-1)).toNat = xs.length - 1 - m := by omega
    show xs.toArray[(((xs.length : Int) - 1) + (m : Int) * (-1)).toNat]? = _
    rw [h1, List.getElem?_toArray, List.getElem?_eq_getElem (by omega), List.getD_eq_getElem?_getD, List.getElem?_reverse hm, List.getElem?_eq_getElem (by omega)]
    rfl
  have : ∀ (l : List Nat) (G : Nat → Option Value) (F : Nat → Value), (∀ m ∈ l, G m = some (F m)) → l.filterMap G = l.map F := fun l G F h => by induction l with
    | nil => rfl
    | cons a l ih => rw [List.filterMap_cons_some (h a List.mem_cons_self), ih fun m hm => h m (List.mem_cons_of_mem _ hm)]; rfl
  rw [this _ _ (fun m => xs.reverse.getD m .none) e]
  apply List.ext_getElem
  · simp
  · intro i h1 h2
    simp at h1
    rw [List.getElem_map, List.getElem_range, List.getD_eq_getElem?_getD, List.getElem?_eq_getElem h2]
    rfl
theorem getItem_back {t sl : Addr} {xs : List Value} {vl vu vs : Value} {Q : Value → Shared → Prop} (ht : IsTup s.heap t xs.toArray) (hs : s.heap.IsSliceOf sl vl vu vs) (pl : IsPart vl none) (pu : IsPart vu none) (ps : IsPart vs (some (-1))) (h0 : xs ≠ [])
    (h : Q (.ref s.heap.objs.size) { s with heap := s.heap.push { cls := .type "tuple", data := .seq xs.reverse.toArray } }) (hsz : xs.length ≤ sizeLine) : wpAny (model prog w) A (getItem (.ref t) (.ref sl)) Q E s := by
  have htake : sizeOk (.seq xs.reverse.toArray) := by
    show xs.reverse.toArray.size ≤ sizeLine
    rw [List.size_toArray, List.length_reverse]
    exact hsz
  obtain ⟨os, hos, hcs, hds⟩ := id hs
  have hTs : s.TypeIs (.ref sl) "slice" := ⟨os, hos, hcs⟩
  unfold getItem
  try with_reducible refine wpAny_holding ?_
  first | refine wpAny_bind (wpAny_pure ?_) | skip
  refine wpAny_bind (wpAny_sequenceKey ht.typeIs (by decide) (wpAny_bind (wpAny_callSpecial?_slot (name := Str.ofString "__getitem__") ht.typeIs PyProof.Rows.slot_tuple_getitem (wpAny_call_entry PyProof.Rows.slot_tuple_getitem ht.typeIs entry_tuple_getitem ?_ (args_tuple_getitem _ _)))))
  show wpAny _ _ (Builtin.Tuple.tupleItemsOf (.ref t) >>= _) _ _ s
  refine wpAny_bind (tupleItemsOf_ ht (wpAny_bind (wpAny_typeOf hTs ?_)))
  rw [if_pos (by decide)]
  refine wpAny_bind (applied_back hs pl pu ps ?_)
  show wpAny _ _ (if ((((xs.toArray.size : Nat) : Int) - 1) == 0 && (-1 : Int) == 1 && xs.toArray.size == xs.toArray.size) = true then _ else _) _ _ s
  rw [if_neg (by simp), List.size_toArray, back_pick]
  first
    | exact wpAny_bind (m := Builtin.Tuple.tupleExact _) (wpAny_newObj_type (wpAny_pure ⟨_, rfl, wpAny_pure h⟩) htake)
    | exact wpAny_bind (m := Builtin.Tuple.tupleExact _) (wpAny_newObj_type (wpAny_bind (wpAny_pure (wpAny_pure ⟨_, rfl, wpAny_pure h⟩))) htake)
    | exact wpAny_bind (wpAny_bind (m := Builtin.Tuple.tupleExact _) (wpAny_newObj_type (wpAny_pure (wpAny_pure ⟨_, rfl, wpAny_pure h⟩)) htake))
    | exact wpAny_bind (wpAny_bind (m := Builtin.Tuple.tupleExact _) (wpAny_newObj_type (wpAny_pure ⟨_, rfl, wpAny_pure h⟩) htake))
end
section
variable {X : Cx} {W : WX} {f : Ev}
/-- x[::-1], x a list or a tuple -/
def revV (x : Vl) (M : Mem) : Res Vl := match tupOf x with
  | some xs => if xs ≠ [] then .ok (.d (.tuple xs.reverse)) M else .st
  | none => match rdOf M x with
    | some xs => .ok (.d (.list xs.reverse)) M
    | none => .st
def revE (f : Ev) : Ev := fun e M => (f e M).bind fun x M1 => revV x M1
theorem de_rev {e : Expr} {k : Nat} {p1 p2 p3 pos : Pos} (he : DE X W e f) : DE X W (.Subscript e (.Slice none none (some (.UnaryOp .USub (.Constant (.int 1) k p1) p2)) p3) pos) (revE f) := by
  constructor
  intro pins s σ H Q I ⟨w, ev, M, r, re, p⟩
  refine PyProof.Rows.Subscript_ (thn (he.run pins s σ H (fun x H1 => ∃ (w1 : Wd) (M1 : Mem) (y : Vl), Rel X.K w1 M1 H1 ∧ RV X.K w1 y x ∧ Post X.K (WE W σ) (RV X.K) w1 (revV y M1) Q) I ⟨w, ev, M, r, re, p.bind fun x M1 w1 v H1 l1 r1 rv p1 => ⟨w1, M1, x, r1, rv, p1⟩⟩) fun v s1 ⟨x, H1, I1, rx, w1, M1, y, r1, rv, pp⟩ => ?_)
  have hst : PO X (some (.UnaryOp .USub (.Constant (.int 1) k p1) p2)) (tPart (tUn (rU fun i => .int (-i)) (tC (.int 1)))) := po_some (pe_un un_neg pe_int)
  refine wpAny_Slice (thn (po_none.run pins s1 σ H1 (fun o H2 => o = none ∧ H2 = H1) I1 ⟨rfl, rfl⟩) fun vl s2 ⟨l, H2, I2, pl, el, e2⟩ => ?_)
  subst el e2
  refine thn (po_none.run pins s2 σ H2 (fun o H3 => o = none ∧ H3 = H2) I2 ⟨rfl, rfl⟩) fun vu s3 ⟨u, H3, I3, pu, eu, e3⟩ => ?_
  subst eu e3
  refine thn (hst.run pins s3 σ H3 (fun o H4 => o = some (-1) ∧ H4 = H3) I3 ⟨1, rfl, -1, rfl, rfl, rfl⟩) fun vs s4 ⟨o, H4, I4, ps, eo, e4⟩ => ?_
  subst eo e4
  have I5 : Inv X pins σ H4 { s4 with heap := s4.heap.push { cls := .type "slice", data := .fields #[vl, vu, vs] } } := I4.kept (t' := s4.toks) fun b ob q => Heap.get?_push_of_some _ q
  unfold revV at pp
  split at pp
  · rename_i xs hx
    split at pp
    · rename_i h0
      obtain ⟨a, us, rfl, hs, d⟩ := tup_at r1 rv hx
      cases rx
      obtain ⟨its, rr, ht, hz⟩ := I5.tuple hs
      have hl := d.len
      have hl2 := rr.length
      show wpAny (model X.prog X.w) X.A (PyProof.Rows.subscriptTail e (.Slice none none (some (.UnaryOp .USub (.Constant (.int 1) k p1) p2)) p3) (.ref a) (.ref s4.heap.objs.size)) (EP X pins σ Q) X.xe { s4 with heap := s4.heap.push { cls := .type "slice", data := .fields #[vl, vu, vs] } }
      have h0' : its ≠ [] := fun z => h0 (List.eq_nil_of_length_eq_zero (by rw [z] at hl2; simp at hl2; rw [hl2] at hl; simpa using hl.symm))
      refine PyProof.Rows.tail_any (ops := [.ref a, .ref s4.heap.objs.size]) ht.typeIs (PyProof.Rows.slot_tuple_getitem.lookup) ?_ (by with_unfolding_all rfl)
      refine getItem_back ht (Heap.IsSliceOf.new _ vl vu vs) pl pu ps h0' ?_ (by omega)
      have hn := I5.hok.fresh (Nat.le_refl (s4.heap.push { cls := .type "slice", data := .fields #[vl, vu, vs] }).objs.size)
      refine ⟨.ref _, _, I5.laid (t' := s4.toks) (o := .tup us.reverse) (fun b ob q => Heap.get?_push_of_some _ q) (Nat.le_refl _) ?_, rfl, pp _ _ _ (Wd.le_fz (r1.new hn).2) (r1.alloc hn _) (Dp.tup (.inl (.inl upd_same)) (DpAll.up (Wd.le_fz (w := w1) (o := .tup us.reverse) (r1.new hn).2).2 _ _ d.rev))⟩
      exact ⟨by rw [List.length_reverse]; exact hz, its.reverse, rr.reverse, ⟨_, Heap.get?_push_size _ rfl, rfl, 0, rfl⟩⟩
    · exact pp.elim
  · split at pp
    · rename_i xs hx
      obtain ⟨a, us, rfl, hs, d⟩ := rd_at r1 rv hx
      cases rx
      obtain ⟨its, rr, ht, hz⟩ := I5.list hs
      have hlen := rr.length
      show wpAny (model X.prog X.w) X.A (PyProof.Rows.subscriptTail e (.Slice none none (some (.UnaryOp .USub (.Constant (.int 1) k p1) p2)) p3) (.ref a) (.ref s4.heap.objs.size)) (EP X pins σ Q) X.xe { s4 with heap := s4.heap.push { cls := .type "slice", data := .fields #[vl, vu, vs] } }
      refine PyProof.Rows.tail_any (ops := [.ref a, .ref s4.heap.objs.size]) ht.isList.typeIs (PySem.slot_list_getitem.lookup) ?_ (by with_unfolding_all rfl)
      refine wpAny_getItem_list_slice ht.isList (Heap.IsSliceOf.new _ vl vu vs) pl pu ps (by decide) ?_ (by rw [List.size_toArray]; omega)
      rw [PySem.W.krv_pick]
      have hn := I5.hok.fresh (Nat.le_refl (s4.heap.push { cls := .type "slice", data := .fields #[vl, vu, vs] }).objs.size)
      refine ⟨.ref _, _, I5.laid (t' := s4.toks) (o := .lst us.reverse) (fun b ob q => Heap.get?_push_of_some _ q) (Nat.le_refl _) ?_, rfl, pp _ _ _ (Wd.le_fz (r1.new hn).2) (r1.alloc hn _) (Dp.lst upd_same (DpAll.up (Wd.le_fz (w := w1) (o := .lst us.reverse) (r1.new hn).2).2 _ _ d.rev))⟩
      exact ⟨by rw [List.length_reverse]; exact hz, _, 0, rr.reverse, Heap.get?_push_size _ rfl⟩
    · exact pp.elim
end
/-- tuple(range(..)), its worth -/
abbrev tupRgE (f : Ev) : Ev := fun e M => (rgE1 f e M).bind fun xs M1 => .ok (.d (.tuple xs)) M1
end DL

namespace DL
open PySem PySem.Spec L2
/-! ### trees of bounded numbers -/
/-- no deeper than so, numbers up to B -/
def gd (B : Nat) : Nat → PyData → Bool
  | _, .int i => decide (i.natAbs ≤ B)
  | _, .bool _ => true
  | _, .none => true
  | _, .str s => PySem.PyData.strOk s
  | 0, .list _ => false
  | 0, .tuple _ => false
  | k + 1, .list xs => xs.all (gd B k)
  | k + 1, .tuple xs => xs.all (gd B k)
  | _, .dict _ => false
theorem gd_list {B k : Nat} {xs : List PyData} (h : gd B k (.list xs) = true) : ∃ j, k = j + 1 ∧ ∀ x ∈ xs, gd B j x = true := by
  cases k with
  | zero => simp [gd] at h
  | succ j => exact ⟨j, rfl, by simpa [gd] using h⟩
theorem gd_tuple {B k : Nat} {xs : List PyData} (h : gd B k (.tuple xs) = true) : ∃ j, k = j + 1 ∧ ∀ x ∈ xs, gd B j x = true := by
  cases k with
  | zero => simp [gd] at h
  | succ j => exact ⟨j, rfl, by simpa [gd] using h⟩
theorem gd_mkl {B k : Nat} {xs : List PyData} (h : ∀ x ∈ xs, gd B k x = true) : gd B (k + 1) (.list xs) = true := by
  simpa [gd] using h
theorem gd_mkt {B k : Nat} {xs : List PyData} (h : ∀ x ∈ xs, gd B k x = true) : gd B (k + 1) (.tuple xs) = true := by
  simpa [gd] using h
theorem gd_dic {B k : Nat} {x : PyData} (h : gd B k x = true) : isDic x = false := by
  cases x with
  | dict _ => cases k <;> simp [gd] at h
  | _ => rfl
theorem gd_mono {B C : Nat} (hB : B ≤ C) : ∀ {k l : Nat} {x : PyData}, k ≤ l → gd B k x = true → gd C l x = true := by
  intro k
  induction k with
  | zero =>
    intro l x _ h
    cases x with
    | int i => simp [gd] at h ⊢; omega
    | bool b => simp [gd]
    | none => simp [gd]
    | str s => simpa [gd] using h
    | list xs => simp [gd] at h
    | tuple xs => simp [gd] at h
    | dict _ => simp [gd] at h
  | succ k ih =>
    intro l x hl h
    cases x with
    | int i => simp [gd] at h ⊢; omega
    | bool b => simp [gd]
    | none => simp [gd]
    | str s => simpa [gd] using h
    | list xs =>
      obtain ⟨j, rfl⟩ : ∃ j, l = j + 1 := ⟨l - 1, by omega⟩
      obtain ⟨_, e, h⟩ := gd_list h
      cases e
      exact gd_mkl fun x hx => ih (by omega) (h x hx)
    | tuple xs =>
      obtain ⟨j, rfl⟩ : ∃ j, l = j + 1 := ⟨l - 1, by omega⟩
      obtain ⟨_, e, h⟩ := gd_tuple h
      cases e
      exact gd_mkt fun x hx => ih (by omega) (h x hx)
    | dict _ => simp [gd] at h
theorem depthAll_le {n : Nat} : ∀ xs : List PyData, (∀ x ∈ xs, x.depth ≤ n) → PyData.depthAll xs ≤ n
  | [], _ => Nat.zero_le _
  | x :: xs, h => by
    rw [PyData.depthAll]
    exact Nat.max_le.mpr ⟨h x List.mem_cons_self, depthAll_le xs fun y hy => h y (List.mem_cons_of_mem _ hy)⟩
theorem shortAll_of {B : Nat} : ∀ xs : List PyData, (∀ x ∈ xs, x.leavesShort B = true) → PyData.leavesShortAll B xs = true
  | [], _ => rfl
  | x :: xs, h => by
    rw [PyData.leavesShortAll, h x List.mem_cons_self, shortAll_of xs fun y hy => h y (List.mem_cons_of_mem _ hy)]
    rfl
/-- what such a tree is good for -/
theorem gd_all {B : Nat} (hB : B < 10 ^ 70) : ∀ {k : Nat} {x : PyData}, gd B k x = true → x.canLay0 = true ∧ x.leavesShort 80 = true ∧ x.showable = true ∧ x.depth ≤ k := by
  have leaf : ∀ {k : Nat} {x : PyData}, gd B k x = true → isSq x = false → x.canLay0 = true ∧ x.leavesShort 80 = true ∧ x.showable = true ∧ x.depth ≤ k := by
    intro k x h hs
    cases x with
    | int i =>
      have hi : i.natAbs ≤ B := by simpa [gd] using h
      exact ⟨rfl, by rw [PyData.leavesShort, decide_eq_true_eq]; exact Nat.le_trans (shown_int (by omega)) (by decide), int_showable (by omega), Nat.zero_le _⟩
    | bool b => exact ⟨rfl, rfl, rfl, Nat.zero_le _⟩
    | none => exact ⟨rfl, rfl, rfl, Nat.zero_le _⟩
    | str s =>
      have hk : PySem.PyData.strOk s = true := by simpa [gd] using h
      refine ⟨by rw [PyData.canLay0]; exact hk, ?_, rfl, Nat.zero_le _⟩
      rw [PyData.leavesShort, List.all_eq_true]
      intro c hc
      have : s.cps.all (· < 0x110000) = true := hk
      rw [← Array.all_toList, List.all_eq_true] at this
      have := this c hc
      simp at this ⊢
      omega
    | list _ => cases hs
    | tuple _ => cases hs
    | dict _ => exact absurd (gd_dic h) (by simp [isDic])
  intro k
  induction k with
  | zero =>
    intro x h
    cases x with
    | list xs => simp [gd] at h
    | tuple xs => simp [gd] at h
    | dict _ => exact absurd (gd_dic h) (by simp [isDic])
    | _ => exact leaf h rfl
  | succ k ih =>
    intro x h
    cases x with
    | list xs =>
      obtain ⟨_, e, h⟩ := gd_list h
      cases e
      refine ⟨?_, ?_, ?_, ?_⟩
      · rw [PyData.canLay0]; exact (canLayAll_iff _).mpr fun y hy => (ih (h y hy)).1
      · rw [PyData.leavesShort]; exact shortAll_of _ fun y hy => (ih (h y hy)).2.1
      · rw [PyData.showable]; exact showableAll_of _ fun y hy => (ih (h y hy)).2.2.1
      · rw [PyData.depth]; exact Nat.succ_le_succ (depthAll_le _ fun y hy => (ih (h y hy)).2.2.2)
    | tuple xs =>
      obtain ⟨_, e, h⟩ := gd_tuple h
      cases e
      refine ⟨?_, ?_, ?_, ?_⟩
      · rw [PyData.canLay0]; exact (canLayAll_iff _).mpr fun y hy => (ih (h y hy)).1
      · rw [PyData.leavesShort]; exact shortAll_of _ fun y hy => (ih (h y hy)).2.1
      · rw [PyData.showable]; exact showableAll_of _ fun y hy => (ih (h y hy)).2.2.1
      · rw [PyData.depth]; exact Nat.succ_le_succ (depthAll_le _ fun y hy => (ih (h y hy)).2.2.2)
    | dict _ => exact absurd (gd_dic h) (by simp [isDic])
    | _ => exact leaf h rfl
/-- how it is shown -/
theorem repr_gd {B k : Nat} {x : PyData} {M : Mem} (hB : B < 10 ^ 70) (hk : k ≤ 60) (h : gd B k x = true) (hb : x.bulk ≤ 2 * 10 ^ 5) : reprV [.d x] M = .ok (.d (.str x.shown)) M := by
  obtain ⟨h1, h2, h3, h4⟩ := gd_all hB h
  have hl : x.shown.length ≤ sizeLine := by
    have := PyData.shown_le_bulk 80 (by decide) x h2
    have e : sizeLine = 2 ^ 24 := rfl
    have m : (80 + 2) * x.bulk ≤ 82 * (2 * 10 ^ 5) := Nat.mul_le_mul_left _ hb
    omega
  cases x with
  | list xs => exact if_pos ⟨h3, hl, by omega⟩
  | tuple xs => exact if_pos ⟨h3, hl, by omega⟩
  | int i => exact if_pos (by rw [PyData.showable, decide_eq_true_eq] at h3; exact h3)
  | bool b => rfl
  | none => rfl
  | str s => exact if_pos hl
  | dict _ => exact absurd (gd_dic h) (by simp [isDic])
theorem bulkAll_app : ∀ xs ys : List PyData, PyData.bulkAll (xs ++ ys) = PyData.bulkAll xs + PyData.bulkAll ys
  | [], ys => by simp [PyData.bulkAll]
  | x :: xs, ys => by rw [List.cons_append, PyData.bulkAll, PyData.bulkAll, bulkAll_app xs ys]; omega
theorem len_bulk : ∀ xs : List PyData, xs.length ≤ PyData.bulkAll xs
  | [] => by simp
  | x :: xs => by rw [List.length_cons, PyData.bulkAll]; have := len_bulk xs; omega
theorem bulk_mem : ∀ {xs : List PyData} {x : PyData}, x ∈ xs → x.bulk + 1 ≤ PyData.bulkAll xs
  | y :: xs, x, h => by
    rw [PyData.bulkAll]
    rcases List.mem_cons.mp h with e | h
    · subst e; omega
    · have := bulk_mem h; omega
theorem bulk_take (xs : List PyData) (k : Nat) : PyData.bulkAll (xs.take k) + PyData.bulkAll (xs.drop k) = PyData.bulkAll xs := by
  rw [← bulkAll_app, List.take_append_drop]
theorem bulk_set : ∀ (xs : List PyData) (k : Nat) (y : PyData) (h : k < xs.length), PyData.bulkAll (xs.set k y) + xs[k].bulk = PyData.bulkAll xs + y.bulk
  | x :: xs, 0, y, _ => by
    rw [List.set_cons_zero, PyData.bulkAll, PyData.bulkAll]
    show y.bulk + 1 + _ + x.bulk = _
    omega
  | x :: xs, k + 1, y, h => by
    have := bulk_set xs k y (by simpa using h)
    rw [List.set_cons_succ, PyData.bulkAll, PyData.bulkAll, List.getElem_cons_succ]
    omega
end DL

namespace DL
open PySem PySem.Spec L2
/-! ### states as data: their text, their soft form, sameness -/
theorem repr_st {ss : List Nat} {ps : List Int} {M : Mem} (h1 : ss.length ≤ 1000) (h2 : ps.length ≤ 1000) (h3 : ∀ s ∈ ss, s < 1000) (h4 : ∀ p ∈ ps, p.natAbs < 10 ^ 70) :
    reprV [.d (stD ss ps)] M = .ok (.d (.str (stD ss ps).shown)) M := by
  have h := shown_st h1 h2 h3 h4
  exact if_pos h
/-- the state as lists -/
abbrev softD (ss : List Nat) (ps : List Int) : PyData := .list [.list (ss.map nD), .list (ps.map PyData.int)]
theorem int_leaves {α : Type} (f : α → Int) (l : List α) : ∀ x ∈ l.map (fun a => PyData.int (f a)), x.canLay0 = true ∧ x.depth = 0 ∧ leafB x = true := fun x hx => by
  obtain ⟨a, _, rfl⟩ := List.mem_map.mp hx
  exact ⟨rfl, rfl, rfl⟩
theorem soft_lay (ss : List Nat) (ps : List Int) : (softD ss ps).canLay0 = true ∧ (softD ss ps).depth ≤ 64 := by
  refine ⟨?_, ?_⟩
  · show PyData.canLayAll0 _ = true
    refine (canLayAll_iff _).mpr fun x hx => ?_
    rcases List.mem_cons.mp hx with rfl | hx
    · exact (canLayAll_iff _).mpr fun y hy => (int_leaves (fun n : Nat => (n : Int)) ss y hy).1
    · rcases List.mem_cons.mp hx with rfl | hx
      · exact (canLayAll_iff _).mpr fun y hy => (int_leaves (fun a : Int => a) ps y hy).1
      · cases hx
  · rw [softD, PyData.depth, PyData.depthAll, PyData.depthAll, PyData.depthAll, PyData.depth, PyData.depth, depth_leaves _ fun y hy => (int_leaves (fun n : Nat => (n : Int)) ss y hy).2.1, depth_leaves _ fun y hy => (int_leaves (fun a : Int => a) ps y hy).2.1]
    decide
theorem Tr.int {k : Nat} {i : Int} : Tr k (.int i) (.int i) := by
  cases k with
  | zero => exact ⟨i, rfl, rfl⟩
  | succ k => exact .inl ⟨i, rfl, rfl⟩
/-- the soft form of a tree -/
def softF : PyData → PyData
  | .tuple xs => .list xs
  | x => x
theorem tr_ints {k : Nat} {xs : List PyData} (hl : xs.length ≤ 2 ^ 20) (h : ∀ x ∈ xs, ∃ i, x = .int i) : Tr (k + 1) (.tuple xs) (.list xs) :=
  .inr ⟨xs, id, .inr rfl, by rw [List.map_id], hl, fun z hz => by obtain ⟨i, rfl⟩ := h z hz; exact Tr.int⟩
theorem soft_tr {k : Nat} {ss : List Nat} {ps : List Int} (h1 : ss.length ≤ 1000) (h2 : ps.length ≤ 1000) : Tr (k + 2) (stD ss ps) (softD ss ps) := by
  refine .inr ⟨_, softF, .inr rfl, rfl, by simp, fun z hz => ?_⟩
  rcases List.mem_cons.mp hz with rfl | hz
  · exact tr_ints (by simp; omega) fun x hx => by obtain ⟨a, _, rfl⟩ := List.mem_map.mp hx; exact ⟨_, rfl⟩
  · rcases List.mem_cons.mp hz with rfl | hz
    · exact tr_ints (by simp; omega) fun x hx => by obtain ⟨a, _, rfl⟩ := List.mem_map.mp hx; exact ⟨_, rfl⟩
    · cases hz
theorem it_seq {k : Nat} {x : PyData} {xs : List PyData} (hx : x = .list xs ∨ x = .tuple xs) (hl : xs.length ≤ 2 ^ 20) (h : ∀ y ∈ xs, It k y) : It (k + 1) x := .inr ⟨xs, hx, hl, h⟩
theorem it_st {k : Nat} {ss : List Nat} {ps : List Int} (h1 : ss.length ≤ 1000) (h2 : ps.length ≤ 1000) : It (k + 2) (stD ss ps) := by
  refine it_seq (.inr rfl) (by simp) fun y hy => ?_
  rcases List.mem_cons.mp hy with rfl | hy
  · exact it_seq (.inr rfl) (by simp; omega) fun z hz => It.leaf (int_leaves (fun n : Nat => (n : Int)) ss z hz).2.2 _
  · rcases List.mem_cons.mp hy with rfl | hy
    · exact it_seq (.inr rfl) (by simp; omega) fun z hz => It.leaf (int_leaves (fun a : Int => a) ps z hz).2.2 _
    · cases hy
theorem all_true' {ys : List PyData} {M : Mem} (h : ∀ y ∈ ys, y = .bool true) : allV [.d (.list ys)] M = .ok (.d (.bool true)) M := by
  have : ys = ys.map fun _ => PyData.bool true := by
    have e : ys.map (fun _ => PyData.bool true) = ys.map id := List.map_congr_left fun y hy => (h y hy).symm
    rw [e, List.map_id]
  rw [this]
  exact all_true
end DL

namespace DL
open PySem PySem.Spec L2
section
variable {X : Cx} {W : WX} {pos : Pos}
/-! ### o[i] op= e, o a list of ours -/
def opOf : Operator → Option (Int → Int → Int)
  | .Add => some fun i j => i + j
  | .Sub => some fun i j => i - j
  | _ => none
def augSubS (op : Int → Int → Int) (fo fi fe : Ev) : Sv := fun e M => match fo e M with
  | .ok (.h p) M1 => match fi e M1 with
    | .ok (.d (.int k)) M2 => match M2[p]? with
      | some (.lst xs) => match atI xs k with
        | some (.int a) => if 0 ≤ k then match fe e M2 with
          | .ok (.d (.int b)) M3 => match M3[p]? with
            | some (.lst ys) => match ixN ys.length k with
              | some n => .go .nx e (M3.set p (.lst (ys.set n (.int (op a b)))))
              | none => .st
            | _ => .st
          | _ => .st
          else .st
        | _ => .st
      | _ => .st
    | _ => .st
  | _ => .st
def rGetL : V → V → Hp → VK → Prop := fun o i H Q => ∃ p xs k v, o = .ref p ∧ i = .int k ∧ H p = some (.lst xs) ∧ 0 ≤ k ∧ atI xs k = some v ∧ Q v H
theorem get_listO : PGet X rGetL := by
  intro pins s σ H o i ov iv Q I ro ri ⟨p, xs, k, v, e1, e2, hp, h0, hk, q⟩
  subst e1 e2
  cases ro
  obtain ⟨t, rfl⟩ := ri
  obtain ⟨its, r, pl, hz⟩ := I.list (show SqL X.K H p xs from SqL.of hp)
  obtain ⟨j, h1, h2, h3, h4, h5⟩ := atI_get hk
  obtain ⟨u, eu, ru⟩ := r.get h2
  have hn := line63
  have hj : k.toNat = j := by
    rw [seqIndex_of h0 h5] at h1
    exact Option.some.inj h1
  exact wpAny_getItem_list pl.isList h0 (by omega) (by rw [hj]; simpa using eu) ⟨v, H, I, ru, q⟩
theorem ip_of {op : Operator} {f : Int → Int → Int} (h : opOf op = some f) : PIp X op (ipI f) := by
  cases op with
  | Add => cases h; exact ip_add
  | Sub => cases h; exact ip_sub
  | _ => cases h
theorem ds_augSub {o i e : Expr} {fo fi fe : Ev} {op : Operator} {f : Int → Int → Int} {tpos : Pos} (ho : DE X W o fo) (hi : DE X W i fi) (he : DE X W e fe) (hop : opOf op = some f)
    (ha : ∀ ov iv new, augStore i ov iv new = (do holding [new, ov, iv] (setItem ov iv new); release [new, ov, iv] []; pure .next) := by intros; rfl) : DS X W (.AugAssign (.Subscript o i tpos) op e pos) (augSubS f fo fi fe) :=
  PSweak (ps_augS ho hi get_listO he (ip_of hop) set_list ha) fun D σ H ⟨w, e, M, r, re, p⟩ => by
    unfold augSubS at p
    cases q1 : fo e M with
    | er C fs M1 => rw [q1] at p; exact p.elim
    | st => rw [q1] at p; exact p.elim
    | ok x M1 =>
      rw [q1] at p
      cases x with
      | h j =>
        refine ⟨w, e, M, r, re, ?_⟩
        rw [q1]
        intro w1 v1 H1 l1 r1 rv1
        try dsimp only at p
        cases q2 : fi e M1 with
        | er C fs M2 => rw [q2] at p; exact p.elim
        | st => rw [q2] at p; exact p.elim
        | ok y M2 =>
          rw [q2] at p
          refine ⟨w1, e, M1, r1, re.up l1, ?_⟩
          rw [q2]
          intro w2 v2 H2 l2 r2 rv2
          try dsimp only at p
          split at p
          · rename_i k M2' hkk
            cases hkk
            split at p
            · rename_i xs hm
              split at p
              · rename_i a hat
                split at p
                · rename_i h0
                  obtain ⟨pa, ea, rfl⟩ := rv1.up l2
                  cases rv2
                  obtain ⟨hF, vs, eH, d⟩ := r2.at ea hm
                  obtain ⟨va, hva, dva⟩ := atI_map d hat
                  cases dva
                  refine ⟨pa, vs, k, .int a, rfl, rfl, eH, h0, hva, ?_⟩
                  refine ⟨w2, e, M2, r2, (re.up l1).up l2, ?_⟩
                  cases q3 : fe e M2 with
                  | er C fs M3 => rw [q3] at p; exact p.elim
                  | st => rw [q3] at p; exact p.elim
                  | ok z M3 =>
                    rw [q3] at p
                    intro w3 v3 H3 l3 r3 rv3
                    try dsimp only at p
                    split at p
                    · rename_i b M3' hbb
                      cases hbb
                      cases rv3
                      split at p
                      · rename_i ys hm3
                        split at p
                        · rename_i nn hnn
                          have ea3 : w3.as[j]? = some pa := by
                            obtain ⟨t, et⟩ := l3.1
                            rw [← et, List.getElem?_append_left (lt_of_getL ea)]
                            exact ea
                          obtain ⟨hF3, us, eH3, d3⟩ := r3.at ea3 hm3
                          refine ⟨a, b, rfl, rfl, pa, us, k, nn, rfl, rfl, eH3, by rw [d3.len]; exact hnn, ?_⟩
                          have p : PostS X.K W w (.go .nx e (M3.set j (.lst (ys.set nn (.int (f a b)))))) D := p
                          exact (PostS.up ((l1.trans l2).trans l3) p).nx (r3.write ea3 hF3 (d3.set (.int _) nn)) ((((re.up l1).up l2).up l3))
                        · exact p.elim
                      · exact p.elim
                    · exact p.elim
                · exact p.elim
              · exact p.elim
            · exact p.elim
          · exact p.elim
      | d _ => exact p.elim
      | a _ => exact p.elim
      | t _ => exact p.elim
      | s _ => exact p.elim
/-! ### in, not in, of a list -/
def memB (x : PyData) (ys : List PyData) : Bool := ys.any fun z => PyData.eqv z x
def memOk (x : PyData) (ys : List PyData) : Bool := SeqAt.shaped x && SeqAt.shaped (.list ys)
def inV : Vl → Vl → Mem → Res Vl := fun a b M => match datOf M a, datOf M b with
  | some x, some (.list ys) => if memOk x ys = true then .ok (.d (.bool (memB x ys))) M else .st
  | _, _ => .st
def ninV : Vl → Vl → Mem → Res Vl := fun a b M => match datOf M a, datOf M b with
  | some x, some (.list ys) => if memOk x ys = true then .ok (.d (.bool (!memB x ys))) M else .st
  | _, _ => .st
theorem opd_in (hu : X.A.units + 65 < cLine) : OpD X (compareOp .In) inV := by
  rintro pins s σ H x y v u Q I rx ry ⟨w, M, a, b, r, ra, rb, p⟩
  unfold inV at p
  split at p
  · rename_i d1 d2 h1 h2
    split at p
    · rename_i hz
      unfold memOk at hz
      rw [Bool.and_eq_true] at hz
      exact op_inD hu pins s σ H x y v u Q I rx ry ⟨d1, d2, dat_at r ra h1, dat_at r rb h2, hz.1, hz.2, p.at r (.bl _)⟩
    · exact p.elim
  · exact p.elim
theorem opd_nin (hu : X.A.units + 65 < cLine) : OpD X (compareOp .NotIn) ninV := by
  rintro pins s σ H x y v u Q I rx ry ⟨w, M, a, b, r, ra, rb, p⟩
  unfold ninV at p
  split at p
  · rename_i d1 d2 h1 h2
    split at p
    · rename_i hz
      unfold memOk at hz
      rw [Bool.and_eq_true] at hz
      exact op_notInD hu pins s σ H x y v u Q I rx ry ⟨d1, d2, dat_at r ra h1, dat_at r rb h2, hz.1, hz.2, p.at r (.bl _)⟩
    · exact p.elim
  · exact p.elim
end
end DL

namespace DL
open PySem PySem.Spec L2
/-! ### x.index(n), x a list or a tuple of whole numbers -/
theorem flat_ints (ns : List Int) : (ns.map V.int).all flatV = true := by
  rw [List.all_map]
  exact List.all_eq_true.mpr fun _ _ => rfl
/-- the first place -/
def firstAt (ns : List Int) (z : Int) : Option Nat := ns.findIdx? (· == z)
theorem firstAt_spec {ns : List Int} {z : Int} {j : Nat} (h : firstAt ns z = some j) : ns[j]? = some z ∧ ∀ m y, m < j → ns[m]? = some y → (y == z) = false := by
  unfold firstAt at h
  obtain ⟨hj, h1, h2⟩ := List.findIdx?_eq_some_iff_getElem.mp h
  refine ⟨by rw [List.getElem?_eq_getElem hj]; simpa using h1, fun m y hm hy => ?_⟩
  have hml : m < ns.length := by omega
  rw [List.getElem?_eq_getElem hml] at hy
  cases hy
  simpa using h2 m hm
section
variable {X : Cx} {W : WX}
open PyProof.Rows in
theorem mt_tupI : MtR X "tuple.index" (fun x xs H Q => ∃ p, ∃ ns : List Int, ∃ z j, x = .ref p ∧ xs = [.int z] ∧ SqT X.K H p (ns.map V.int) ∧ firstAt ns z = some j ∧ Q (.int (j : Nat)) H) := by
  intro pins s σ H x xs v us Q I rx rs ⟨p, ns, z, j, e1, e2, hq, hf, q⟩
  subst e1 e2
  obtain ⟨hj0, hno⟩ := firstAt_spec hf
  cases rx
  obtain ⟨u, rfl, t, rfl⟩ := vals1 rs
  obtain ⟨its, r, pl, hz⟩ := I.tuple hq
  obtain ⟨⟨cls, dd, dt, sl⟩, ho, hc, n, hd⟩ := pl
  simp only at hc hd
  subst hc hd
  have hl : its.toArray.size = ns.length := by rw [List.size_toArray, ← r.length, List.length_map]
  have hj : j < its.toArray.size := by rw [hl]; exact lt_of_getL hj0
  have here : ∀ (m : Nat) (hm : m < its.toArray.size), ∃ y t', ns[m]? = some y ∧ its.toArray[m] = Value.int y t' := fun m hm => by
    have hm' : m < ns.length := by rw [← hl]; exact hm
    obtain ⟨w, hw, t', hw'⟩ := r.get (i := m) (x := .int ns[m]) (by simp [hm'])
    have e := (List.getElem?_eq_some_iff.mp hw).2
    exact ⟨ns[m], t', List.getElem?_eq_getElem hm', by rw [← hw', ← e]; simp⟩
  refine call_meets PySem.F.slot_tuple_index ⟨_, ho, rfl⟩ PySem.F.entry_tuple_index (PySem.F.args_tuple_index_2 _ _) (TI.tuple_indexAt p its.toArray n dd sl (.int z t) (eqU (.int z)) j hj ?_ ?_)
    ⟨ho, fun w hw => mem_eqAt (x := .int z) ⟨t, rfl⟩ rfl r (flat_ints ns) w (by simpa using hw), ⟨.int (j : Nat), H, I.tok _, ⟨_, rfl⟩, q⟩⟩
  · obtain ⟨y, t', h1, h2⟩ := here j hj
    rw [hj0] at h1
    cases h1
    rw [h2]
    show (z == z) = true
    exact beq_self_eq_true z
  · intro m hm hmj
    obtain ⟨y, t', h1, h2⟩ := here m hm
    rw [h2]
    exact hno m y hmj h1
theorem mt_lstI : MtR X "list.index" (fun x xs H Q => ∃ p, ∃ ns : List Int, ∃ z j, x = .ref p ∧ xs = [.int z] ∧ SqL X.K H p (ns.map V.int) ∧ firstAt ns z = some j ∧ Q (.int (j : Nat)) H) := by
  intro pins s σ H x xs v us Q I rx rs ⟨p, ns, z, j, e1, e2, hq, hf, q⟩
  obtain ⟨hj0, hno⟩ := firstAt_spec hf
  refine mt_index pins s σ H x xs v us Q I rx rs ⟨p, ns.map V.int, .int z, j, .int z, e1, e2, hq, rfl, flat_ints ns, by rw [List.getElem?_map, hj0]; rfl, ?_, fun m z' hm hz' => ?_, q⟩
  · show (z == z) = true
    exact beq_self_eq_true z
  · rw [List.getElem?_map] at hz'
    obtain ⟨y, hy, rfl⟩ := Option.map_eq_some_iff.mp hz'
    exact hno m y hm hy
/-- what it is worth -/
def idxV (x y : Vl) (xs : Option (List PyData)) (M : Mem) : Res Vl := match xs.bind intsOf, y with
  | some ns, .d (.int z) => match firstAt ns z with
    | some j => .ok (.d (.int (j : Nat))) M
    | none => .st
  | _, _ => .st
def idxTE (f g : Ev) : Ev := fun e M => (f e M).bind fun x M1 => match tupOf x with
  | some xs => (g e M1).bind fun y M2 => idxV x y (some xs) M2
  | none => .st
def idxLE (f g : Ev) : Ev := fun e M => (f e M).bind fun x M1 => match lstOf M1 x with
  | some _ => (g e M1).bind fun y M2 => idxV x y (lstOf M2 x) M2
  | none => .st
variable {o a : Expr} {f g : Ev} {apos cpos : Pos}
theorem idx_args {K : Frag} {w : Wd} {M : Mem} {H : Hp} {y : Vl} {u : V} {Q : VK} {x : Vl} {xo : Option (List PyData)} {E : XK} (r : Rel K w M H) (ry : RV K w y u) (p : Post K E (RV K) w (idxV x y xo M) Q) : ∃ xs ns z j, xo = some xs ∧ intsOf xs = some ns ∧ u = .int z ∧ firstAt ns z = some j ∧ Q (.int (j : Nat)) H := by
  unfold idxV at p
  split at p
  · rename_i ns z h1
    split at p
    · rename_i j hj
      obtain ⟨xs, e, h2⟩ := Option.bind_eq_some_iff.mp h1
      cases ry
      exact ⟨xs, ns, _, j, e, h2, rfl, hj, p.at r (.int _)⟩
    · exact p.elim
  · exact p.elim
theorem de_idxL (ho : DE X W o f) (ha : DE X W a g)
    (hbase : attributeBase o "index" X.env (eval o X.env) = eval o X.env := by rfl)
    (hfew : ((backTo cpos (starEach [a] X.env)).all (fun x => !x.1) && (backToKw cpos (keywordEach [] X.env)).all (fun x => x.1.isSome)
      && decide ([a].length + ([] : List Keyword).length + (if ([] : List Keyword).isEmpty then 0 else 1) < 30)) = true := by rfl)
    (hline : (apos.endLine == cpos.line) = true := by rfl) (hs : starEach [a] X.env = (false, eval a X.env) :: starEach [] X.env := by rfl) (hplain : (backTo cpos (starEach [] X.env)).any (·.1) = false := by rfl) :
    DE X W (.Call (.Attribute o "index" apos) [a] [] cpos) (idxLE f g) :=
  PEweak (pe_bm PySem.F.plainAttrs_list PySem.F.slot_list_index PySem.F.type_list_index mt_lstI ho (pa_cons ha pa_nil hs) hbase hfew hline hs hplain) fun σ H Q ⟨w, e, M, r, re, p⟩ =>
    ⟨w, e, M, r, re, p.bind fun x M1 w1 v H1 l1 r1 rv p1 => by
      split at p1
      · rename_i xs hx
        obtain ⟨q, vs, rfl, hq, d⟩ := lst_at r1 rv hx
        refine ⟨.inl ⟨rfl, vs, .of hq⟩, w1, e, M1, r1, re.up l1, p1.bind fun y M2 w2 u H2 l2 r2 ru p2 => ?_⟩
        obtain ⟨xs', ns, z, j, e1, hn, rfl, hj, q2⟩ := idx_args r2 ru p2
        have rv2 := rv.up l2
        obtain ⟨q', vs', e', hq', d'⟩ := lst_at r2 rv2 e1
        cases e'
        rw [ints_at d' hn] at hq'
        exact ⟨q, ns, z, j, rfl, rfl, .of hq', hj, q2⟩
      · exact p1.elim⟩
end
end DL

namespace DL
open PySem PySem.Spec L2
section
variable {X : Cx} {W : WX}
/-- a statement of which nothing is promised -/
theorem ds_no {st : Stmt} : DS X W st (fun _ _ => .st) := ⟨fun pins s σ H D I ⟨w, e, M, r, re, p⟩ => p.elim⟩
end
end DL

namespace DL
open PySem PySem.Spec L2
/-! ### states, exchanges, lots: plain -/
structure Stt (n : Nat) (ss : List Nat) (ps : List Int) : Prop where
  perm : ss.Perm (List.range n)
  len : ps.length = n
  nn : ∀ p ∈ ps, 0 ≤ p
theorem Stt.slen {n : Nat} {ss : List Nat} {ps : List Int} (h : Stt n ss ps) : ss.length = n := by rw [h.perm.length_eq, List.length_range]
theorem StOk.stt {n : Nat} {top : Int} {ss : List Nat} {ps : List Int} (h : StOk n top ss ps) : Stt n ss ps := ⟨h.perm, h.len, fun p hp => (h.top p hp).1⟩
theorem Stt.lt {n : Nat} {ss : List Nat} {ps : List Int} (h : Stt n ss ps) {j c : Nat} (e : ss[j]? = some c) : c < n := List.mem_range.mp (h.perm.mem_iff.mp (List.mem_of_getElem? e))
theorem Stt.inj {n : Nat} {ss : List Nat} {ps : List Int} (h : Stt n ss ps) {j k c : Nat} (e : ss[j]? = some c) (e2 : ss[k]? = some c) : j = k := (PN.of_perm h.perm).inj j k c e e2
theorem Stt.onto {n : Nat} {ss : List Nat} {ps : List Int} (h : Stt n ss ps) {c : Nat} (hc : c < n) : ∃ j : Nat, ss[j]? = some c := onto_of_perm h.perm c (by rw [h.slen]; exact hc)
theorem Stt.purse {n : Nat} {ss : List Nat} {ps : List Int} (h : Stt n ss ps) {j c : Nat} (e : ss[j]? = some c) : ∃ p, ps[j]? = some p ∧ 0 ≤ p := by
  have hj := lt_of_getL e
  rw [h.slen, ← h.len] at hj
  exact ⟨ps[j], List.getElem?_eq_getElem hj, h.nn _ (List.getElem_mem hj)⟩
theorem sum_set : ∀ (l : List Int) (i : Nat) (v x : Int), l[i]? = some x → (l.set i v).sum = l.sum - x + v
  | [], i, v, x, h => by simp at h
  | a :: l, 0, v, x, h => by
    simp at h
    subst h
    rw [List.set_cons_zero, List.sum_cons, List.sum_cons]
    omega
  | a :: l, i + 1, v, x, h => by
    rw [List.set_cons_succ, List.sum_cons, List.sum_cons, sum_set l i v x (by simpa using h)]
    omega
theorem sum_nn : ∀ (l : List Int), (∀ p ∈ l, 0 ≤ p) → 0 ≤ l.sum ∧ ∀ p ∈ l, p ≤ l.sum
  | [], _ => ⟨by simp, fun p hp => by cases hp⟩
  | a :: l, h => by
    obtain ⟨h1, h2⟩ := sum_nn l fun p hp => h p (List.mem_cons_of_mem _ hp)
    have ha := h a List.mem_cons_self
    rw [List.sum_cons]
    refine ⟨by omega, fun p hp => ?_⟩
    rcases List.mem_cons.mp hp with rfl | hp
    · omega
    · have := h2 p hp; omega
/-- everybody's residue -/
def resI (ss : List Nat) (ps : List Int) : List Int := List.zipWith (fun (s : Nat) (p : Int) => ((s : Int) + p) % (ss.length : Nat)) ss ps
theorem resI_get {ss : List Nat} {ps : List Int} {k s : Nat} {p : Int} (h1 : ss[k]? = some s) (h2 : ps[k]? = some p) : (resI ss ps)[k]? = some (((s : Int) + p) % (ss.length : Nat)) := by
  unfold resI
  rw [List.getElem?_zipWith, h1, h2]
theorem resI_len {ss : List Nat} {ps : List Int} : (resI ss ps).length = min ss.length ps.length := by unfold resI; simp
/-- one lot: alike residues, alike totals -/
structure Lot (ss : List Nat) (ps : List Int) (ss' : List Nat) (ps' : List Int) : Prop where
  res : resI ss ps = resI ss' ps'
  sum : ps.sum = ps'.sum
theorem Lot.rfl' {ss : List Nat} {ps : List Int} : Lot ss ps ss ps := ⟨rfl, rfl⟩
theorem Lot.trans {a c e : List Nat} {b d f : List Int} (h : Lot a b c d) (k : Lot c d e f) : Lot a b e f := ⟨h.res.trans k.res, h.sum.trans k.sum⟩
theorem Lot.symm {a c : List Nat} {b d : List Int} (h : Lot a b c d) : Lot c d a b := ⟨h.res.symm, h.sum.symm⟩
/-- an exchange at seat c -/
structure Ex (n : Nat) (ss : List Nat) (ps : List Int) (c : Nat) (ss' : List Nat) (ps' : List Int) : Prop where
  ex : ∃ (j k : Nat) (p q : Int), ss[j]? = some c ∧ ss[k]? = some ((c + 1) % n) ∧ ps[j]? = some p ∧ 0 < p ∧ ps[k]? = some q ∧
    ss' = (ss.set j ((c + 1) % n)).set k c ∧ ps' = (ps.set j (p - 1)).set k (q + 1)
theorem next_ne {n c : Nat} (h2 : 2 ≤ n) (hc : c < n) : (c + 1) % n ≠ c ∧ (c + 1) % n < n := by
  refine ⟨fun e => ?_, Nat.mod_lt _ (by omega)⟩
  by_cases h : c + 1 < n
  · rw [Nat.mod_eq_of_lt h] at e; omega
  · have : c + 1 = n := by omega
    rw [this, Nat.mod_self] at e
    omega
theorem ext_of {α : Type} {l l' : List α} (h : ∀ k : Nat, l[k]? = l'[k]?) : l = l' := List.ext_getElem? h
theorem Ex.ok {n c : Nat} {ss ss' : List Nat} {ps ps' : List Int} (h : Stt n ss ps) (h2 : 2 ≤ n) (x : Ex n ss ps c ss' ps') : Stt n ss' ps' ∧ Lot ss ps ss' ps' := by
  obtain ⟨j, k, p, q, hj, hk, hp, hp0, hq, rfl, rfl⟩ := x.ex
  have hc := h.lt hj
  obtain ⟨hne, hlt⟩ := next_ne h2 hc
  have hjk : j ≠ k := fun e => hne (by rw [e, hk] at hj; exact Option.some.inj hj)
  have lj := lt_of_getL hj
  have lk := lt_of_getL hk
  have lpj := lt_of_getL hp
  have lpk := lt_of_getL hq
  have ej : ss[j] = c := by rw [List.getElem?_eq_getElem lj] at hj; exact Option.some.inj hj
  have ek : ss[k] = (c + 1) % n := by rw [List.getElem?_eq_getElem lk] at hk; exact Option.some.inj hk
  have hperm : ((ss.set j ((c + 1) % n)).set k c).Perm ss := by
    have := List.set_set_perm (as := ss) lj lk
    rw [ej, ek] at this
    exact this
  have hl : ss.length = n := h.slen
  have hq0 : 0 ≤ q := h.nn q (List.mem_of_getElem? hq)
  refine ⟨⟨hperm.trans h.perm, by simp [h.len], fun y hy => ?_⟩, ?_, ?_⟩
  · rcases List.mem_or_eq_of_mem_set hy with hy | rfl
    · rcases List.mem_or_eq_of_mem_set hy with hy | rfl
      · exact h.nn y hy
      · omega
    · omega
  · apply ext_of
    intro m
    have hmod : (((c + 1) % n : Nat) : Int) = ((c : Int) + 1) % (n : Nat) := by simp
    by_cases hmj : m = j
    · subst hmj
      have e1 : ((ss.set m ((c + 1) % n)).set k c)[m]? = some ((c + 1) % n) := by
        rw [List.getElem?_set_ne (Ne.symm hjk), List.getElem?_set_self lj]
      have e2 : ((ps.set m (p - 1)).set k (q + 1))[m]? = some (p - 1) := by
        rw [List.getElem?_set_ne (Ne.symm hjk), List.getElem?_set_self lpj]
      rw [resI_get hj hp, resI_get e1 e2]
      simp only [List.length_set, hl]
      rw [hmod, Int.emod_add_emod]
      congr 2
      omega
    · by_cases hmk : m = k
      · subst hmk
        have e1 : ((ss.set j ((c + 1) % n)).set m c)[m]? = some c := by rw [List.getElem?_set_self (by simpa using lk)]
        have e2 : ((ps.set j (p - 1)).set m (q + 1))[m]? = some (q + 1) := by rw [List.getElem?_set_self (by simpa using lpk)]
        rw [resI_get hk hq, resI_get e1 e2]
        simp only [List.length_set, hl]
        rw [hmod, Int.emod_add_emod]
        congr 2
        omega
      · unfold resI
        rw [List.getElem?_zipWith, List.getElem?_zipWith]
        simp only [List.length_set]
        rw [List.getElem?_set_ne (Ne.symm hmk), List.getElem?_set_ne (Ne.symm hmj), List.getElem?_set_ne (Ne.symm hmk), List.getElem?_set_ne (Ne.symm hmj)]
  · have e2 : (ps.set j (p - 1))[k]? = some q := by rw [List.getElem?_set_ne hjk]; exact hq
    rw [sum_set _ k _ q e2, sum_set _ j _ p hp]
    omega
/-- a row of exchanges -/
inductive Run (n : Nat) (ss : List Nat) (ps : List Int) : List Nat → List Nat → List Int → Prop
  | nil : Run n ss ps [] ss ps
  | snoc {cs : List Nat} {c : Nat} {s1 s2 : List Nat} {p1 p2 : List Int} : Run n ss ps cs s1 p1 → Ex n s1 p1 c s2 p2 → Run n ss ps (cs ++ [c]) s2 p2
theorem Run.ok {n : Nat} {cs ss ss' : List Nat} {ps ps' : List Int} (h : Stt n ss ps) (h2 : 2 ≤ n) (x : Run n ss ps cs ss' ps') : Stt n ss' ps' ∧ Lot ss ps ss' ps' := by
  induction x with
  | nil => exact ⟨h, .rfl'⟩
  | snoc _ e ih => exact ⟨(e.ok ih.1 h2).1, ih.2.trans (e.ok ih.1 h2).2⟩
/-! ### loops that may end early; comprehensions that choose -/
theorem forL_or {γ : Tg} {g : Sv} (I : Nat → Env → Mem → Prop) (R : Vl → Env → Mem → Prop) (xs : List PyData) : ∀ (j : Nat) (e : Env) (M : Mem), j ≤ xs.length →
    (∀ (k : Nat) (x : PyData) (e : Env) (M : Mem), j ≤ k → xs[k]? = some x → I k e M → (∃ e1 M1 e2 M2, γ (.d x) e M = .ok e1 M1 ∧ g e1 M1 = .go .nx e2 M2 ∧ I (k + 1) e2 M2) ∨ ∃ e1 M1 v e2 M2, γ (.d x) e M = .ok e1 M1 ∧ g e1 M1 = .go (.rt v) e2 M2 ∧ R v e2 M2) → I j e M →
    (∃ e' M', forL γ g (xs.drop j) e M = .go .nx e' M' ∧ I xs.length e' M') ∨ ∃ v e' M', forL γ g (xs.drop j) e M = .go (.rt v) e' M' ∧ R v e' M' := by
  intro j
  induction hn : xs.length - j generalizing j with
  | zero =>
    intro e M hj _ hI
    have : j = xs.length := by omega
    subst this
    rw [List.drop_length]
    exact .inl ⟨e, M, rfl, hI⟩
  | succ n ih =>
    intro e M hj hs hI
    have hlt : j < xs.length := by omega
    rw [List.drop_eq_getElem_cons hlt]
    rcases hs j xs[j] e M (Nat.le_refl _) (List.getElem?_eq_getElem hlt) hI with ⟨e1, M1, e2, M2, h1, h2, h3⟩ | ⟨e1, M1, v, e2, M2, h1, h2, h3⟩
    · rw [forL_cons h1 h2]
      exact ih (j + 1) (by omega) e2 M2 (by omega) (fun k x e M hk => hs k x e M (by omega)) h3
    · refine .inr ⟨v, e2, M2, ?_, h3⟩
      show (match γ (.d xs[j]) e M with
        | .ok e1 M1 => _
        | _ => _) = _
      rw [h1]
      simp only [h2]
theorem lcL_filter {γ : Tg} {t : Env → Mem → Res Bool} {h : Ev} {ew : Env} {M : Mem} (B : PyData → Bool) (F : PyData → PyData) : ∀ (xs acc : List PyData), acc.length + xs.length ≤ sizeLine → (∀ x ∈ xs, ∃ e1, γ (.d x) ew M = .ok e1 M ∧ t e1 M = .ok (B x) M ∧ (B x = true → h e1 M = .ok (.d (F x)) M)) →
    lcL γ t h ew xs acc M = .ok (acc ++ (xs.filter B).map F) M
  | [], acc, _, _ => by rw [List.filter_nil, List.map_nil, List.append_nil]; rfl
  | x :: xs, acc, hl, hs => by
    obtain ⟨e1, h1, h2, h3⟩ := hs x List.mem_cons_self
    rw [List.length_cons] at hl
    unfold lcL
    rw [h1]
    simp only [h2]
    cases hb : B x with
    | true =>
      simp only [h3 hb]
      rw [if_pos (by omega), lcL_filter B F xs (acc ++ [F x]) (by rw [List.length_append, List.length_singleton]; omega) fun y hy => hs y (List.mem_cons_of_mem _ hy), List.append_assoc, List.filter_cons_of_pos hb]
      rfl
    | false =>
      simp only []
      rw [lcL_filter B F xs acc (by omega) fun y hy => hs y (List.mem_cons_of_mem _ hy), List.filter_cons_of_neg (by simp [hb])]
/-! ### memory: the box's place, and what is younger -/
theorem ga_get {M : Mem} {i : Nat} {o : MO} {J : Mem} (hi : i < M.length) : (M.set i o ++ J)[i]? = some o := by
  rw [List.getElem?_append_left (by simpa using hi), List.getElem?_set_self hi]
theorem ga_set {M : Mem} {i : Nat} {o o' : MO} {J : Mem} (hi : i < M.length) : (M.set i o ++ J).set i o' = M.set i o' ++ J := by
  rw [List.set_append_left _ _ (by simpa using hi), List.set_set]
theorem ga_take {M : Mem} {i : Nat} {o : MO} {J : Mem} : (M.set i o ++ J).take M.length = M.set i o := by
  rw [List.take_append_of_le_length (by simp), take_all (by simp)]
theorem firstAt_of {ss : List Nat} {c j : Nat} (h : ss[j]? = some c) (hinj : ∀ k, ss[k]? = some c → k = j) : firstAt (ss.map fun s : Nat => (s : Int)) (c : Int) = some j := by
  unfold firstAt
  rw [List.findIdx?_eq_some_iff_getElem]
  have hj := lt_of_getL h
  refine ⟨by simpa using hj, ?_, fun m hm => ?_⟩
  · rw [List.getElem?_eq_getElem hj] at h
    simp [Option.some.inj h]
  · have hml : m < ss.length := by omega
    simp only [List.getElem_map, beq_iff_eq, Bool.not_eq_true]
    intro e
    have e2 : ((ss[m] : Nat) : Int) = (c : Int) := by simpa using e
    have := hinj m (by rw [List.getElem?_eq_getElem hml, Int.ofNat.inj e2])
    omega
end DL

namespace DL
open PySem PySem.Spec L2
/-! ### worths that several laws share (printed by gen.py) -/
namespace C
def g_total : Sv := (seqS (asgS (getV 0) (seqT 2 (consT (setT 1) (consT (setT 2) nilT)))) (retS (callE sumTV (consA (getV 2) nilA))))
def m_total : Fn := defM 3 0 g_total
def g_residues : Sv := (seqS (asgS (getV 0) (seqT 2 (consT (setT 1) (consT (setT 2) nilT)))) (seqS (setS 3 (callE lenV (consA (getV 1) nilA))) (retS (callE tupleV (consA (datE (lcE [4, 5] (zipI (getV 1) (getV 2)) (tupT 2 (consT (setT 4) (consT (setT 5) nilT))) (fun _ M => .ok true M) (op2 modV (op2 addV (getV 4) (getV 5)) (getV 3)))) nilA)))))
def m_residues : Fn := defM 6 0 g_residues
def g_kept : Sv := (retS (tupE (consA (callF 1 C.m_residues (consA (getV 0) nilA)) (consA (callF 1 C.m_total (consA (getV 0) nilA)) nilA))))
def m_kept : Fn := defM 1 0 g_kept
def g_check_people : Sv := (seqS (setS 2 (callE lenV (consA (op2 ixV (getV 1) (cst (.d (.int 0)))) nilA))) (ifS (opT neV (callE lenV (consA (op2 ixV (getV 0) (cst (.d (.int 0)))) nilA)) (getV 2)) (fun _ _ => .st) nopS))
def m_check_people : Fn := defM 3 0 g_check_people
def g_bar : Sv := (seqS (dropS (callF 2 C.m_check_people (consA (getV 0) (consA (getV 1) nilA)))) (seqS (asgS (callF 1 C.m_kept (consA (getV 0) nilA)) (seqT 2 (consT (setT 2) (consT (setT 3) nilT)))) (seqS (asgS (callF 1 C.m_kept (consA (getV 1) nilA)) (seqT 2 (consT (setT 4) (consT (setT 5) nilT)))) (seqS (ifS (opT neV (getV 3) (getV 5)) (retS (cst (.d (.str "total")))) nopS) (seqS (forS (enumI (getV 2)) (tupT 2 (consT (setT 6) (consT (setT 7) nilT))) (ifS (opT neV (getV 7) (op2 ixV (getV 4) (getV 6))) (retS (getV 6)) nopS)) (retS (cst (.d .none))))))))
def m_bar : Fn := defM 8 0 g_bar
def g_leads : Sv := (retS (op2 isV (callF 2 C.m_bar (consA (getV 0) (consA (getV 1) nilA))) (cst (.d .none))))
def m_leads : Fn := defM 2 0 g_leads
def g_moved : Sv := (seqS (par3S 2 3 4 (consA (newE (listE (op2 ixV (getV 0) (cst (.d (.int 0)))))) (consA (newE (listE (op2 ixV (getV 0) (cst (.d (.int 1)))))) (consA (callE lenV (consA (op2 ixV (getV 0) (cst (.d (.int 0)))) nilA)) nilA)))) (seqS (parS 5 6 (consA (idxLE (getV 2) (getV 1)) (consA (idxLE (getV 2) (op2 modV (op2 addV (getV 1) (cst (.d (.int 1)))) (getV 4))) nilA))) (seqS (ifS (opT eqV (op2 ixV (getV 3) (getV 5)) (cst (.d (.int 0)))) (retS (cst (.d .none))) nopS) (seqS (asgS (tupE (consA (op2 ixV (getV 2) (getV 6)) (consA (op2 ixV (getV 2) (getV 5)) nilA))) (seqT 2 (consT (subT (getV 2) (getV 5)) (consT (subT (getV 2) (getV 6)) nilT)))) (seqS (freeze 2) (seqS (asgS (tupE (consA (op2 subV (op2 ixV (getV 3) (getV 5)) (cst (.d (.int 1)))) (consA (op2 addV (op2 ixV (getV 3) (getV 6)) (cst (.d (.int 1)))) nilA))) (seqT 2 (consT (subT (getV 3) (getV 5)) (consT (subT (getV 3) (getV 6)) nilT)))) (seqS (freeze 3) (retS (tupE (consA (callE tupleV (consA (getV 2) nilA)) (consA (callE tupleV (consA (getV 3) nilA)) nilA)))))))))))
def m_moved : Fn := defM 7 0 g_moved
def g_l_kept : Sv := (retS (callE tupleV (consA (datE (lcE [1, 2] (zipI (op2 ixV (getV 0) (cst (.d (.int 0)))) (op2 ixV (getV 0) (cst (.d (.int 1))))) (tupT 2 (consT (setT 1) (consT (setT 2) nilT))) (fun _ M => .ok true M) (op2 modV (op2 addV (getV 1) (getV 2)) (callE lenV (consA (op2 ixV (getV 0) (cst (.d (.int 0)))) nilA))))) nilA)))
def m_l_kept : Fn := defM 3 0 g_l_kept
def g_random_row : Sv := (seqS (setS 3 (newE (dispE nilA))) (seqS (forS (rngI1 (callF 2 (C.m_take 10) (consA (getV 0) (consA (op2 addV (getV 2) (cst (.d (.int 1)))) nilA)))) (setT 4) (seqS (setS 5 (datE (lcE [6] (rngI1 (callE lenV (consA (op2 ixV (getV 1) (cst (.d (.int 0)))) nilA))) (setT 6) (opT isntV (callF 2 C.m_moved (consA (getV 1) (consA (getV 6) nilA))) (cst (.d .none))) (getV 6)))) (ifS (opT neV (getV 5) (datE (dispE nilA))) (seqS (dropS (methE appM (getV 3) (consA (callF 2 C.m_of (consA (getV 0) (consA (getV 5) nilA))) nilA))) (setS 1 (callF 2 C.m_moved (consA (getV 1) (consA (op2 ixV (getV 3) (negE (cst (.d (.int 1))))) nilA))))) nopS))) (seqS (freeze 3) (retS (tupE (consA (getV 3) (consA (getV 1) nilA)))))))
def m_random_row : Fn := defM 7 0 g_random_row
def g_like : Sv := (seqS (setS 2 (callE lenV (consA (op2 ixV (getV 1) (cst (.d (.int 0)))) nilA))) (seqS (setS 3 (callF 1 C.m_l_kept (consA (getV 1) nilA))) (seqS (forS (rngI1 (cst (.d (.int 8)))) (setT 4) (seqS (setS 5 (callE tupleV (consA (callF 2 C.m_strewn (consA (getV 0) (consA (datE (rgE1 (getV 2))) nilA))) nilA))) (seqS (setS 6 (newE (lcE [10, 11] (zipI (getV 3) (getV 5)) (tupT 2 (consT (setT 10) (consT (setT 11) nilT))) (fun _ M => .ok true M) (op2 modV (op2 subV (getV 10) (getV 11)) (getV 2))))) (seqS (setS 7 (op2 fdivV (op2 subV (callE sumTV (consA (op2 ixV (getV 1) (cst (.d (.int 1)))) nilA)) (callE sumTV (consA (getV 6) nilA))) (getV 2))) (ifS (opT geV (getV 7) (cst (.d (.int 0)))) (seqS (forS (rngI1 (op2 subV (getV 2) (cst (.d (.int 1))))) (setT 8) (seqS (setS 9 (ifE (opT eqV (callF 2 (C.m_take 10) (consA (getV 0) (consA (cst (.d (.int 2))) nilA))) (cst (.d (.int 0)))) (callF 2 (C.m_take 10) (consA (getV 0) (consA (op2 addV (getV 7) (cst (.d (.int 1)))) nilA))) (cst (.d (.int 0))))) (seqS (asgS (op2 addV (op2 ixV (getV 6) (getV 8)) (op2 mulV (getV 2) (getV 9))) (subT (getV 6) (getV 8))) (setS 7 (op2 subV (getV 7) (getV 9)))))) (seqS (asgS (op2 addV (op2 ixV (getV 6) (negE (cst (.d (.int 1))))) (op2 mulV (getV 2) (getV 7))) (subT (getV 6) (negE (cst (.d (.int 1)))))) (seqS (freeze 6) (retS (tupE (consA (getV 5) (consA (callE tupleV (consA (getV 6) nilA)) nilA))))))) nopS))))) (retS (getV 1)))))
def m_like : Fn := defM 12 0 g_like
def g_check_leads : Sv := (seqS (setS 2 (callF 2 C.m_bar (consA (getV 0) (consA (getV 1) nilA)))) (ifS (opT isntV (getV 2) (cst (.d .none))) (fun _ _ => .st) nopS))
def m_check_leads : Fn := defM 3 0 g_check_leads
def g_shifts : Sv := (seqS (dropS (callF 2 C.m_check_leads (consA (getV 0) (consA (getV 1) nilA)))) (retS (callE tupleV (consA (datE (lcE [2, 3] (zipI (op2 ixV (getV 0) (cst (.d (.int 1)))) (op2 ixV (getV 1) (cst (.d (.int 1))))) (tupT 2 (consT (setT 2) (consT (setT 3) nilT))) (fun _ M => .ok true M) (op2 subV (getV 2) (getV 3)))) nilA))))
def m_shifts : Fn := defM 4 0 g_shifts
def g_crossings : Sv := (seqS (setS 2 (callF 2 C.m_shifts (consA (getV 0) (consA (getV 1) nilA)))) (seqS (asgS (getV 0) (seqT 2 (consT (setT 3) (consT (setT 4) nilT)))) (seqS (setS 5 (callE lenV (consA (getV 3) nilA))) (seqS (setS 6 (datE (lcE [11, 12] (zipI (getV 3) (getV 2)) (tupT 2 (consT (setT 11) (consT (setT 12) nilT))) (fun _ M => .ok true M) (op2 addV (getV 11) (getV 12))))) (seqS (setS 7 (newE (dispE nilA))) (seqS (forS (rngI1 (getV 5)) (setT 8) (forS (rngI2 (op2 addV (getV 8) (cst (.d (.int 1)))) (getV 5)) (setT 9) (seqS (setS 10 (callE DL.absV (consA (op2 subV (op2 fdivV (op2 subV (op2 ixV (getV 6) (getV 9)) (op2 ixV (getV 6) (getV 8))) (getV 5)) (op2 fdivV (op2 subV (op2 ixV (getV 3) (getV 9)) (op2 ixV (getV 3) (getV 8))) (getV 5))) nilA))) (ifS (opT gtV (getV 10) (cst (.d (.int 0)))) (dropS (methE appM (getV 7) (consA (tupE (consA (getV 8) (consA (getV 9) (consA (getV 10) nilA)))) nilA))) nopS)))) (seqS (freeze 7) (retS (getV 7)))))))))
def m_crossings : Fn := defM 13 0 g_crossings
def g_distance : Sv := (retS (callE sumTV (consA (datE (lcE [2] (seqI (callF 2 C.m_crossings (consA (getV 0) (consA (getV 1) nilA)))) (setT 2) (fun _ M => .ok true M) (op2 ixV (getV 2) (cst (.d (.int 2)))))) nilA)))
def m_distance : Fn := defM 3 0 g_distance
def g_inverse : Sv := (seqS (setS 1 (newE (repE (datE (dispE (consA (cst (.d (.int 0))) nilA))) (callE lenV (consA (getV 0) nilA))))) (seqS (forS (enumI (getV 0)) (tupT 2 (consT (setT 2) (consT (setT 3) nilT))) (asgS (getV 2) (subT (getV 1) (getV 3)))) (seqS (freeze 1) (retS (callE tupleV (consA (getV 1) nilA))))))
def m_inverse : Fn := defM 4 0 g_inverse
def g_sitting : Sv := (seqS (asgS (getV 0) (seqT 2 (consT (setT 1) (consT (setT 2) nilT)))) (retS (callF 1 C.m_inverse (consA (getV 1) nilA))))
def m_sitting : Fn := defM 3 0 g_sitting
def g_exchanges : Sv := (seqS (asgS (getV 0) (seqT 2 (consT (setT 1) (consT (setT 2) nilT)))) (retS (datE (lcE [3, 4] (enumI (callF 1 C.m_sitting (consA (getV 0) nilA))) (tupT 2 (consT (setT 3) (consT (setT 4) nilT))) (opT gtV (op2 ixV (getV 2) (getV 4)) (cst (.d (.int 0)))) (getV 3)))))
def m_exchanges : Fn := defM 5 0 g_exchanges
def g_after_toll : Sv := (seqS (parS 3 4 (consA (newE (listE (op2 ixV (getV 0) (cst (.d (.int 0)))))) (consA (newE (listE (op2 ixV (getV 0) (cst (.d (.int 1)))))) nilA))) (seqS (asgS (tupE (consA (op2 ixV (getV 3) (getV 2)) (consA (op2 ixV (getV 3) (getV 1)) nilA))) (seqT 2 (consT (subT (getV 3) (getV 1)) (consT (subT (getV 3) (getV 2)) nilT)))) (seqS (freeze 3) (seqS (augSubS (fun i j => i - j) (getV 4) (getV 1) (cst (.d (.int 1)))) (seqS (augSubS (fun i j => i + j) (getV 4) (getV 2) (cst (.d (.int 1)))) (seqS (freeze 4) (retS (tupE (consA (callE tupleV (consA (getV 3) nilA)) (consA (callE tupleV (consA (getV 4) nilA)) nilA))))))))))
def m_after_toll : Fn := defM 5 0 g_after_toll
def g_exchanged : Sv := (seqS (setS 2 (callF 1 C.m_sitting (consA (getV 0) nilA))) (seqS (ifS (orT (opT ltV (getV 1) (cst (.d (.int 0)))) (opT geV (getV 1) (callE lenV (consA (getV 2) nilA)))) (fun _ _ => .st) nopS) (seqS (setS 3 (op2 ixV (getV 2) (getV 1))) (seqS (asgS (getV 0) (seqT 2 (consT (setT 4) (consT (setT 5) nilT)))) (seqS (ifS (opT eqV (op2 ixV (getV 5) (getV 3)) (cst (.d (.int 0)))) (fun _ _ => .st) nopS) (retS (callF 3 C.m_after_toll (consA (getV 0) (consA (getV 3) (consA (op2 ixV (getV 2) (op2 modV (op2 addV (getV 1) (cst (.d (.int 1)))) (callE lenV (consA (getV 2) nilA)))) nilA))))))))))
def m_exchanged : Fn := defM 6 0 g_exchanged
end C
end DL

namespace DL
open PySem PySem.Spec L2
/-! ### what a state is worth to the program: total, residues, kept -/
/-- the same with lists: seats and purses may be lists, and the pair too -/
def SeqV (x : Vl) (xs : List PyData) : Prop := x = .d (.list xs) ∨ x = .d (.tuple xs)
theorem SeqV.walk {x : Vl} {xs : List PyData} (h : SeqV x xs) : walkOf x = some xs := by rcases h with rfl | rfl <;> rfl
theorem SeqV.len {x : Vl} {xs : List PyData} {M : Mem} (h : SeqV x xs) : lenV [x] M = .ok (.d (.int (xs.length : Nat))) M := by rcases h with rfl | rfl <;> exact len_at rfl
/-- a state as it is given: all tuples, or all lists -/
def StV (x : Vl) (ss : List Nat) (ps : List Int) : Prop := x = .d (stD ss ps) ∨ x = .d (softD ss ps)
theorem StV.ix {x : Vl} {ss : List Nat} {ps : List Int} (h : StV x ss ps) : ∃ a b : Vl, (∀ N : Mem, ixV x (.d (.int 0)) N = .ok a N) ∧ (∀ N : Mem, ixV x (.d (.int 1)) N = .ok b N) ∧ SeqV a (ss.map nD) ∧ SeqV b (ps.map PyData.int) ∧ zipOf a b = some (ss.map nD, ps.map PyData.int) := by
  rcases h with rfl | rfl
  · exact ⟨.d (.tuple (ss.map nD)), .d (.tuple (ps.map PyData.int)), fun N => ixV_t rfl, fun N => ixV_t rfl, .inr rfl, .inr rfl, rfl⟩
  · exact ⟨.d (.list (ss.map nD)), .d (.list (ps.map PyData.int)), fun N => ixV_l rfl, fun N => ixV_l rfl, .inl rfl, .inl rfl, rfl⟩
theorem StV.two {x : Vl} {ss : List Nat} {ps : List Int} (h : StV x ss ps) : ∃ a b : PyData, (∀ (δ : Tgs) (e : Env) (N : Mem), seqT 2 δ x e N = δ [a, b] e N) ∧ SeqV (.d a) (ss.map nD) ∧ SeqV (.d b) (ps.map PyData.int) ∧ zipOf (.d a) (.d b) = some (ss.map nD, ps.map PyData.int) := by
  rcases h with rfl | rfl
  · exact ⟨.tuple (ss.map nD), .tuple (ps.map PyData.int), fun δ e N => seqT_t rfl, .inr rfl, .inr rfl, rfl⟩
  · exact ⟨.list (ss.map nD), .list (ps.map PyData.int), fun δ e N => seqT_l rfl, .inl rfl, .inl rfl, rfl⟩
abbrev intsD (xs : List Int) : List PyData := xs.map PyData.int
theorem zip_in {ss : List Nat} {ps : List Int} {x : PyData} (h : x ∈ zipD (ss.map nD) (ps.map PyData.int)) : ∃ (a : Nat) (b : Int), x = .tuple [.int (a : Nat), .int b] ∧ 0 < ss.length := by
  unfold zipD at h
  obtain ⟨p, hp, rfl⟩ := List.mem_map.mp h
  have h1 := (List.of_mem_zip (show (p.1, p.2) ∈ _ from hp)).1
  have h2 := (List.of_mem_zip (show (p.1, p.2) ∈ _ from hp)).2
  obtain ⟨a, ha, e1⟩ := List.mem_map.mp h1
  obtain ⟨b, _, e2⟩ := List.mem_map.mp h2
  exact ⟨a, b, by rw [← e1, ← e2], List.length_pos_of_mem ha⟩
/-- what a pair comes to -/
def onPair (f : Int → Int → Int) : PyData → PyData
  | .tuple [.int a, .int b] => .int (f a b)
  | _ => .none
theorem zip_map (f : Int → Int → Int) : ∀ (xs ys : List Int), (zipD (intsD xs) (intsD ys)).map (onPair f) = intsD (List.zipWith f xs ys)
  | [], _ => rfl
  | _ :: _, [] => rfl
  | x :: xs, y :: ys => by
    have := zip_map f xs ys
    unfold zipD at this ⊢
    simp only [List.map_cons, List.zip_cons_cons, List.zipWith_cons_cons]
    exact congrArg (List.cons _) this
theorem nats_ints (ss : List Nat) : ss.map nD = intsD (ss.map fun s : Nat => (s : Int)) := by simp
theorem resI_map {ss : List Nat} {ps : List Int} : (zipD (ss.map nD) (ps.map PyData.int)).map (onPair fun a b => (a + b) % (ss.length : Nat)) = intsD (resI ss ps) := by
  rw [nats_ints, zip_map]
  unfold resI
  rw [List.zipWith_map_left]
namespace C
theorem total_ok {x : Vl} {ss : List Nat} {ps : List Int} {M : Mem} (hx : StV x ss ps) : m_total [x] M = .ok (.d (.int ps.sum)) M := by
  rcases hx with rfl | rfl
  · unfold m_total g_total
    simp only [defM, startE, seqS_a, setS_a, bindS_ok, bindS_er, then_nx, then_rt, then_er, ifS_a, ifK_t, ifK_f, retS_a, dropS_a, asgS_a, asK_a, goG_ok, subT_a, nopS_a, getV_0, getV_s, cst_a, op2_a, o2a_ok, o2b_ok, opT_a, oTa_ok, oTb_ok, consA_a, cAa_ok, cAb_ok, nilA_a, callF_a, cFa_ok, callE_a, cEa_ok, newE_a, nwa_ok, datE_a, dta_ok, dispE_a, tupE_a, tpa_ok, asDs_a, datas, bind_ok, pur_ok, bool_b, leave_d, leave_nx, leave_er, ifE_a, ifa_t, ifa_f, notT_a, nta_ok, andT_a, ana_t, ana_f, orT_a, ora_t, ora_f, tstE_a, tsa_b, andE_a, aEa_t, aEa_f, orE_a, oEa_t, oEa_f, notE_a, nEa_ok, add_ii, sub_ii, gt_ii, lt_ii, ge_ii, le_ii, setT_a, consT_a, cTa_ok, nilT_a, tupT_a, seqT_t, seqT_l, forS_a, List.map_cons, List.map_nil, List.length_cons, List.length_nil, Nat.reduceAdd, Nat.reduceSub, Nat.zero_add, Nat.add_zero, List.replicate, List.cons_append, List.nil_append, List.append_nil, List.getElem?_cons_zero, List.getElem?_cons_succ, List.set_cons_zero, List.set_cons_succ, List.getElem?_nil, Option.map_some, Option.map_none, Option.bind_some, if_true, if_false, ite_true, ite_false, eq_self_iff_true, and_self, and_true, true_and, decide_true, decide_false, Bool.false_eq_true, Bool.not_true, Bool.not_false, sizeLine, Nat.reducePow, Nat.reduceLeDiff, Nat.zero_le, pow_7, pow_18, pow_40, stD, sum_t]
    rw [take_all (by simp)]
  · unfold m_total g_total
    simp only [defM, startE, seqS_a, setS_a, bindS_ok, bindS_er, then_nx, then_rt, then_er, ifS_a, ifK_t, ifK_f, retS_a, dropS_a, asgS_a, asK_a, goG_ok, subT_a, nopS_a, getV_0, getV_s, cst_a, op2_a, o2a_ok, o2b_ok, opT_a, oTa_ok, oTb_ok, consA_a, cAa_ok, cAb_ok, nilA_a, callF_a, cFa_ok, callE_a, cEa_ok, newE_a, nwa_ok, datE_a, dta_ok, dispE_a, tupE_a, tpa_ok, asDs_a, datas, bind_ok, pur_ok, bool_b, leave_d, leave_nx, leave_er, ifE_a, ifa_t, ifa_f, notT_a, nta_ok, andT_a, ana_t, ana_f, orT_a, ora_t, ora_f, tstE_a, tsa_b, andE_a, aEa_t, aEa_f, orE_a, oEa_t, oEa_f, notE_a, nEa_ok, add_ii, sub_ii, gt_ii, lt_ii, ge_ii, le_ii, setT_a, consT_a, cTa_ok, nilT_a, tupT_a, seqT_t, seqT_l, forS_a, List.map_cons, List.map_nil, List.length_cons, List.length_nil, Nat.reduceAdd, Nat.reduceSub, Nat.zero_add, Nat.add_zero, List.replicate, List.cons_append, List.nil_append, List.append_nil, List.getElem?_cons_zero, List.getElem?_cons_succ, List.set_cons_zero, List.set_cons_succ, List.getElem?_nil, Option.map_some, Option.map_none, Option.bind_some, if_true, if_false, ite_true, ite_false, eq_self_iff_true, and_self, and_true, true_and, decide_true, decide_false, Bool.false_eq_true, Bool.not_true, Bool.not_false, sizeLine, Nat.reducePow, Nat.reduceLeDiff, Nat.zero_le, pow_7, pow_18, pow_40, softD, sum_l]
    rw [take_all (by simp)]
theorem residues_ok {x : Vl} {ss : List Nat} {ps : List Int} {M : Mem} (hx : StV x ss ps) (hl : ss.length ≤ 1000) : m_residues [x] M = .ok (.d (.tuple (intsD (resI ss ps)))) M := by
  have hsz : sizeLine = 2 ^ 24 := rfl
  obtain ⟨a, b, h0, h1, h2, h3⟩ := hx.two
  have core : ∀ (v1 v4 v5 : Option Vl) , lcE [4, 5] (zipI (getV 1) (getV 2)) (tupT 2 (consT (setT 4) (consT (setT 5) nilT))) (fun _ M => .ok true M) (op2 modV (op2 addV (getV 4) (getV 5)) (getV 3)) [v1, some (.d a), some (.d b), some (.d (.int (ss.length : Nat))), v4, v5] M = .ok (intsD (resI ss ps)) M := by
    intro v1 v4 v5
    rw [lcE_at (zipI_a (x := .d a) (y := .d b) (M1 := M) (M2 := M) (by simp only [defM, startE, seqS_a, setS_a, bindS_ok, bindS_er, then_nx, then_rt, then_er, ifS_a, ifK_t, ifK_f, retS_a, dropS_a, asgS_a, asK_a, goG_ok, subT_a, nopS_a, getV_0, getV_s, cst_a, op2_a, o2a_ok, o2b_ok, opT_a, oTa_ok, oTb_ok, consA_a, cAa_ok, cAb_ok, nilA_a, callF_a, cFa_ok, callE_a, cEa_ok, newE_a, nwa_ok, datE_a, dta_ok, dispE_a, tupE_a, tpa_ok, asDs_a, datas, bind_ok, pur_ok, bool_b, leave_d, leave_nx, leave_er, ifE_a, ifa_t, ifa_f, notT_a, nta_ok, andT_a, ana_t, ana_f, orT_a, ora_t, ora_f, tstE_a, tsa_b, andE_a, aEa_t, aEa_f, orE_a, oEa_t, oEa_f, notE_a, nEa_ok, add_ii, sub_ii, gt_ii, lt_ii, ge_ii, le_ii, setT_a, consT_a, cTa_ok, nilT_a, tupT_a, seqT_t, seqT_l, forS_a, List.map_cons, List.map_nil, List.length_cons, List.length_nil, Nat.reduceAdd, Nat.reduceSub, Nat.zero_add, Nat.add_zero, List.replicate, List.cons_append, List.nil_append, List.append_nil, List.getElem?_cons_zero, List.getElem?_cons_succ, List.set_cons_zero, List.set_cons_succ, List.getElem?_nil, Option.map_some, Option.map_none, Option.bind_some, if_true, if_false, ite_true, ite_false, eq_self_iff_true, and_self, and_true, true_and, decide_true, decide_false, Bool.false_eq_true, Bool.not_true, Bool.not_false, sizeLine, Nat.reducePow, Nat.reduceLeDiff, Nat.zero_le, pow_7, pow_18, pow_40]) (by simp only [defM, startE, seqS_a, setS_a, bindS_ok, bindS_er, then_nx, then_rt, then_er, ifS_a, ifK_t, ifK_f, retS_a, dropS_a, asgS_a, asK_a, goG_ok, subT_a, nopS_a, getV_0, getV_s, cst_a, op2_a, o2a_ok, o2b_ok, opT_a, oTa_ok, oTb_ok, consA_a, cAa_ok, cAb_ok, nilA_a, callF_a, cFa_ok, callE_a, cEa_ok, newE_a, nwa_ok, datE_a, dta_ok, dispE_a, tupE_a, tpa_ok, asDs_a, datas, bind_ok, pur_ok, bool_b, leave_d, leave_nx, leave_er, ifE_a, ifa_t, ifa_f, notT_a, nta_ok, andT_a, ana_t, ana_f, orT_a, ora_t, ora_f, tstE_a, tsa_b, andE_a, aEa_t, aEa_f, orE_a, oEa_t, oEa_f, notE_a, nEa_ok, add_ii, sub_ii, gt_ii, lt_ii, ge_ii, le_ii, setT_a, consT_a, cTa_ok, nilT_a, tupT_a, seqT_t, seqT_l, forS_a, List.map_cons, List.map_nil, List.length_cons, List.length_nil, Nat.reduceAdd, Nat.reduceSub, Nat.zero_add, Nat.add_zero, List.replicate, List.cons_append, List.nil_append, List.append_nil, List.getElem?_cons_zero, List.getElem?_cons_succ, List.set_cons_zero, List.set_cons_succ, List.getElem?_nil, Option.map_some, Option.map_none, Option.bind_some, if_true, if_false, ite_true, ite_false, eq_self_iff_true, and_self, and_true, true_and, decide_true, decide_false, Bool.false_eq_true, Bool.not_true, Bool.not_false, sizeLine, Nat.reducePow, Nat.reduceLeDiff, Nat.zero_le, pow_7, pow_18, pow_40]) h3)]
    rw [← resI_map]
    refine lcL_map _ _ [] (by rw [hsz, zipD_len]; simp; omega) fun z hz => ?_
    obtain ⟨p, q, rfl, hp⟩ := zip_in hz
    refine ⟨[v1, some (.d a), some (.d b), some (.d (.int (ss.length : Nat))), some (.d (.int p)), some (.d (.int q))], ?_, rfl, ?_⟩
    · show tupT 2 _ _ [v1, some (.d a), some (.d b), some (.d (.int (ss.length : Nat))), none, none] M = _
      simp only [defM, startE, seqS_a, setS_a, bindS_ok, bindS_er, then_nx, then_rt, then_er, ifS_a, ifK_t, ifK_f, retS_a, dropS_a, asgS_a, asK_a, goG_ok, subT_a, nopS_a, getV_0, getV_s, cst_a, op2_a, o2a_ok, o2b_ok, opT_a, oTa_ok, oTb_ok, consA_a, cAa_ok, cAb_ok, nilA_a, callF_a, cFa_ok, callE_a, cEa_ok, newE_a, nwa_ok, datE_a, dta_ok, dispE_a, tupE_a, tpa_ok, asDs_a, datas, bind_ok, pur_ok, bool_b, leave_d, leave_nx, leave_er, ifE_a, ifa_t, ifa_f, notT_a, nta_ok, andT_a, ana_t, ana_f, orT_a, ora_t, ora_f, tstE_a, tsa_b, andE_a, aEa_t, aEa_f, orE_a, oEa_t, oEa_f, notE_a, nEa_ok, add_ii, sub_ii, gt_ii, lt_ii, ge_ii, le_ii, setT_a, consT_a, cTa_ok, nilT_a, tupT_a, seqT_t, seqT_l, forS_a, List.map_cons, List.map_nil, List.length_cons, List.length_nil, Nat.reduceAdd, Nat.reduceSub, Nat.zero_add, Nat.add_zero, List.replicate, List.cons_append, List.nil_append, List.append_nil, List.getElem?_cons_zero, List.getElem?_cons_succ, List.set_cons_zero, List.set_cons_succ, List.getElem?_nil, Option.map_some, Option.map_none, Option.bind_some, if_true, if_false, ite_true, ite_false, eq_self_iff_true, and_self, and_true, true_and, decide_true, decide_false, Bool.false_eq_true, Bool.not_true, Bool.not_false, sizeLine, Nat.reducePow, Nat.reduceLeDiff, Nat.zero_le, pow_7, pow_18, pow_40]
    · simp only [defM, startE, seqS_a, setS_a, bindS_ok, bindS_er, then_nx, then_rt, then_er, ifS_a, ifK_t, ifK_f, retS_a, dropS_a, asgS_a, asK_a, goG_ok, subT_a, nopS_a, getV_0, getV_s, cst_a, op2_a, o2a_ok, o2b_ok, opT_a, oTa_ok, oTb_ok, consA_a, cAa_ok, cAb_ok, nilA_a, callF_a, cFa_ok, callE_a, cEa_ok, newE_a, nwa_ok, datE_a, dta_ok, dispE_a, tupE_a, tpa_ok, asDs_a, datas, bind_ok, pur_ok, bool_b, leave_d, leave_nx, leave_er, ifE_a, ifa_t, ifa_f, notT_a, nta_ok, andT_a, ana_t, ana_f, orT_a, ora_t, ora_f, tstE_a, tsa_b, andE_a, aEa_t, aEa_f, orE_a, oEa_t, oEa_f, notE_a, nEa_ok, add_ii, sub_ii, gt_ii, lt_ii, ge_ii, le_ii, setT_a, consT_a, cTa_ok, nilT_a, tupT_a, seqT_t, seqT_l, forS_a, List.map_cons, List.map_nil, List.length_cons, List.length_nil, Nat.reduceAdd, Nat.reduceSub, Nat.zero_add, Nat.add_zero, List.replicate, List.cons_append, List.nil_append, List.append_nil, List.getElem?_cons_zero, List.getElem?_cons_succ, List.set_cons_zero, List.set_cons_succ, List.getElem?_nil, Option.map_some, Option.map_none, Option.bind_some, if_true, if_false, ite_true, ite_false, eq_self_iff_true, and_self, and_true, true_and, decide_true, decide_false, Bool.false_eq_true, Bool.not_true, Bool.not_false, sizeLine, Nat.reducePow, Nat.reduceLeDiff, Nat.zero_le, pow_7, pow_18, pow_40, mod_ii (show (0 : Int) < ((ss.length : Nat) : Int) by omega), onPair]
  unfold m_residues g_residues
  have hlen : lenV [.d a] M = _ := h1.len
  rw [List.length_map] at hlen
  simp only [defM, startE, seqS_a, setS_a, bindS_ok, bindS_er, then_nx, then_rt, then_er, ifS_a, ifK_t, ifK_f, retS_a, dropS_a, asgS_a, asK_a, goG_ok, subT_a, nopS_a, getV_0, getV_s, cst_a, op2_a, o2a_ok, o2b_ok, opT_a, oTa_ok, oTb_ok, consA_a, cAa_ok, cAb_ok, nilA_a, callF_a, cFa_ok, callE_a, cEa_ok, newE_a, nwa_ok, datE_a, dta_ok, dispE_a, tupE_a, tpa_ok, asDs_a, datas, bind_ok, pur_ok, bool_b, leave_d, leave_nx, leave_er, ifE_a, ifa_t, ifa_f, notT_a, nta_ok, andT_a, ana_t, ana_f, orT_a, ora_t, ora_f, tstE_a, tsa_b, andE_a, aEa_t, aEa_f, orE_a, oEa_t, oEa_f, notE_a, nEa_ok, add_ii, sub_ii, gt_ii, lt_ii, ge_ii, le_ii, setT_a, consT_a, cTa_ok, nilT_a, tupT_a, seqT_t, seqT_l, forS_a, List.map_cons, List.map_nil, List.length_cons, List.length_nil, Nat.reduceAdd, Nat.reduceSub, Nat.zero_add, Nat.add_zero, List.replicate, List.cons_append, List.nil_append, List.append_nil, List.getElem?_cons_zero, List.getElem?_cons_succ, List.set_cons_zero, List.set_cons_succ, List.getElem?_nil, Option.map_some, Option.map_none, Option.bind_some, if_true, if_false, ite_true, ite_false, eq_self_iff_true, and_self, and_true, true_and, decide_true, decide_false, Bool.false_eq_true, Bool.not_true, Bool.not_false, sizeLine, Nat.reducePow, Nat.reduceLeDiff, Nat.zero_le, pow_7, pow_18, pow_40, h0, hlen, core, tup_l]
  rw [take_all (by simp)]
theorem l_kept_ok {ss : List Nat} {ps : List Int} {M : Mem} (hl : ss.length ≤ 1000) : m_l_kept [.d (stD ss ps)] M = .ok (.d (.tuple (intsD (resI ss ps)))) M := by
  have hsz : sizeLine = 2 ^ 24 := rfl
  have i0 : ∀ N : Mem, ixV (.d (stD ss ps)) (.d (.int 0)) N = .ok (.d (.tuple (ss.map nD))) N := fun N => ixV_t rfl
  have i1 : ∀ N : Mem, ixV (.d (stD ss ps)) (.d (.int 1)) N = .ok (.d (.tuple (ps.map PyData.int))) N := fun N => ixV_t rfl
  have core : lcE [1, 2] (zipI (op2 ixV (getV 0) (cst (.d (.int 0)))) (op2 ixV (getV 0) (cst (.d (.int 1))))) (tupT 2 (consT (setT 1) (consT (setT 2) nilT))) (fun _ M => .ok true M) (op2 modV (op2 addV (getV 1) (getV 2)) (callE lenV (consA (op2 ixV (getV 0) (cst (.d (.int 0)))) nilA))) [some (.d (stD ss ps)), none, none] M = .ok (intsD (resI ss ps)) M := by
    rw [lcE_at (zipI_a (x := .d (.tuple (ss.map nD))) (y := .d (.tuple (ps.map PyData.int))) (p := (ss.map nD, ps.map PyData.int)) (M1 := M) (M2 := M) (by simp only [defM, startE, seqS_a, setS_a, bindS_ok, bindS_er, then_nx, then_rt, then_er, ifS_a, ifK_t, ifK_f, retS_a, dropS_a, asgS_a, asK_a, goG_ok, subT_a, nopS_a, getV_0, getV_s, cst_a, op2_a, o2a_ok, o2b_ok, opT_a, oTa_ok, oTb_ok, consA_a, cAa_ok, cAb_ok, nilA_a, callF_a, cFa_ok, callE_a, cEa_ok, newE_a, nwa_ok, datE_a, dta_ok, dispE_a, tupE_a, tpa_ok, asDs_a, datas, bind_ok, pur_ok, bool_b, leave_d, leave_nx, leave_er, ifE_a, ifa_t, ifa_f, notT_a, nta_ok, andT_a, ana_t, ana_f, orT_a, ora_t, ora_f, tstE_a, tsa_b, andE_a, aEa_t, aEa_f, orE_a, oEa_t, oEa_f, notE_a, nEa_ok, add_ii, sub_ii, gt_ii, lt_ii, ge_ii, le_ii, setT_a, consT_a, cTa_ok, nilT_a, tupT_a, seqT_t, seqT_l, forS_a, List.map_cons, List.map_nil, List.length_cons, List.length_nil, Nat.reduceAdd, Nat.reduceSub, Nat.zero_add, Nat.add_zero, List.replicate, List.cons_append, List.nil_append, List.append_nil, List.getElem?_cons_zero, List.getElem?_cons_succ, List.set_cons_zero, List.set_cons_succ, List.getElem?_nil, Option.map_some, Option.map_none, Option.bind_some, if_true, if_false, ite_true, ite_false, eq_self_iff_true, and_self, and_true, true_and, decide_true, decide_false, Bool.false_eq_true, Bool.not_true, Bool.not_false, sizeLine, Nat.reducePow, Nat.reduceLeDiff, Nat.zero_le, pow_7, pow_18, pow_40, i0]) (by simp only [defM, startE, seqS_a, setS_a, bindS_ok, bindS_er, then_nx, then_rt, then_er, ifS_a, ifK_t, ifK_f, retS_a, dropS_a, asgS_a, asK_a, goG_ok, subT_a, nopS_a, getV_0, getV_s, cst_a, op2_a, o2a_ok, o2b_ok, opT_a, oTa_ok, oTb_ok, consA_a, cAa_ok, cAb_ok, nilA_a, callF_a, cFa_ok, callE_a, cEa_ok, newE_a, nwa_ok, datE_a, dta_ok, dispE_a, tupE_a, tpa_ok, asDs_a, datas, bind_ok, pur_ok, bool_b, leave_d, leave_nx, leave_er, ifE_a, ifa_t, ifa_f, notT_a, nta_ok, andT_a, ana_t, ana_f, orT_a, ora_t, ora_f, tstE_a, tsa_b, andE_a, aEa_t, aEa_f, orE_a, oEa_t, oEa_f, notE_a, nEa_ok, add_ii, sub_ii, gt_ii, lt_ii, ge_ii, le_ii, setT_a, consT_a, cTa_ok, nilT_a, tupT_a, seqT_t, seqT_l, forS_a, List.map_cons, List.map_nil, List.length_cons, List.length_nil, Nat.reduceAdd, Nat.reduceSub, Nat.zero_add, Nat.add_zero, List.replicate, List.cons_append, List.nil_append, List.append_nil, List.getElem?_cons_zero, List.getElem?_cons_succ, List.set_cons_zero, List.set_cons_succ, List.getElem?_nil, Option.map_some, Option.map_none, Option.bind_some, if_true, if_false, ite_true, ite_false, eq_self_iff_true, and_self, and_true, true_and, decide_true, decide_false, Bool.false_eq_true, Bool.not_true, Bool.not_false, sizeLine, Nat.reducePow, Nat.reduceLeDiff, Nat.zero_le, pow_7, pow_18, pow_40, i1]) rfl)]
    rw [← resI_map]
    refine lcL_map _ _ [] (by rw [hsz, zipD_len]; simp; omega) fun z hz => ?_
    obtain ⟨a, b, rfl, h0⟩ := zip_in hz
    refine ⟨[some (.d (stD ss ps)), some (.d (.int a)), some (.d (.int b))], ?_, rfl, ?_⟩
    · show tupT 2 _ _ [some (.d (stD ss ps)), none, none] M = _
      simp only [defM, startE, seqS_a, setS_a, bindS_ok, bindS_er, then_nx, then_rt, then_er, ifS_a, ifK_t, ifK_f, retS_a, dropS_a, asgS_a, asK_a, goG_ok, subT_a, nopS_a, getV_0, getV_s, cst_a, op2_a, o2a_ok, o2b_ok, opT_a, oTa_ok, oTb_ok, consA_a, cAa_ok, cAb_ok, nilA_a, callF_a, cFa_ok, callE_a, cEa_ok, newE_a, nwa_ok, datE_a, dta_ok, dispE_a, tupE_a, tpa_ok, asDs_a, datas, bind_ok, pur_ok, bool_b, leave_d, leave_nx, leave_er, ifE_a, ifa_t, ifa_f, notT_a, nta_ok, andT_a, ana_t, ana_f, orT_a, ora_t, ora_f, tstE_a, tsa_b, andE_a, aEa_t, aEa_f, orE_a, oEa_t, oEa_f, notE_a, nEa_ok, add_ii, sub_ii, gt_ii, lt_ii, ge_ii, le_ii, setT_a, consT_a, cTa_ok, nilT_a, tupT_a, seqT_t, seqT_l, forS_a, List.map_cons, List.map_nil, List.length_cons, List.length_nil, Nat.reduceAdd, Nat.reduceSub, Nat.zero_add, Nat.add_zero, List.replicate, List.cons_append, List.nil_append, List.append_nil, List.getElem?_cons_zero, List.getElem?_cons_succ, List.set_cons_zero, List.set_cons_succ, List.getElem?_nil, Option.map_some, Option.map_none, Option.bind_some, if_true, if_false, ite_true, ite_false, eq_self_iff_true, and_self, and_true, true_and, decide_true, decide_false, Bool.false_eq_true, Bool.not_true, Bool.not_false, sizeLine, Nat.reducePow, Nat.reduceLeDiff, Nat.zero_le, pow_7, pow_18, pow_40]
    · simp only [defM, startE, seqS_a, setS_a, bindS_ok, bindS_er, then_nx, then_rt, then_er, ifS_a, ifK_t, ifK_f, retS_a, dropS_a, asgS_a, asK_a, goG_ok, subT_a, nopS_a, getV_0, getV_s, cst_a, op2_a, o2a_ok, o2b_ok, opT_a, oTa_ok, oTb_ok, consA_a, cAa_ok, cAb_ok, nilA_a, callF_a, cFa_ok, callE_a, cEa_ok, newE_a, nwa_ok, datE_a, dta_ok, dispE_a, tupE_a, tpa_ok, asDs_a, datas, bind_ok, pur_ok, bool_b, leave_d, leave_nx, leave_er, ifE_a, ifa_t, ifa_f, notT_a, nta_ok, andT_a, ana_t, ana_f, orT_a, ora_t, ora_f, tstE_a, tsa_b, andE_a, aEa_t, aEa_f, orE_a, oEa_t, oEa_f, notE_a, nEa_ok, add_ii, sub_ii, gt_ii, lt_ii, ge_ii, le_ii, setT_a, consT_a, cTa_ok, nilT_a, tupT_a, seqT_t, seqT_l, forS_a, List.map_cons, List.map_nil, List.length_cons, List.length_nil, Nat.reduceAdd, Nat.reduceSub, Nat.zero_add, Nat.add_zero, List.replicate, List.cons_append, List.nil_append, List.append_nil, List.getElem?_cons_zero, List.getElem?_cons_succ, List.set_cons_zero, List.set_cons_succ, List.getElem?_nil, Option.map_some, Option.map_none, Option.bind_some, if_true, if_false, ite_true, ite_false, eq_self_iff_true, and_self, and_true, true_and, decide_true, decide_false, Bool.false_eq_true, Bool.not_true, Bool.not_false, sizeLine, Nat.reducePow, Nat.reduceLeDiff, Nat.zero_le, pow_7, pow_18, pow_40, i0, len_t, List.length_map, mod_ii (show (0 : Int) < ((ss.length : Nat) : Int) by omega), onPair]
  unfold m_l_kept g_l_kept
  simp only [defM, startE, seqS_a, setS_a, bindS_ok, bindS_er, then_nx, then_rt, then_er, ifS_a, ifK_t, ifK_f, retS_a, dropS_a, asgS_a, asK_a, goG_ok, subT_a, nopS_a, getV_0, getV_s, cst_a, op2_a, o2a_ok, o2b_ok, opT_a, oTa_ok, oTb_ok, consA_a, cAa_ok, cAb_ok, nilA_a, callF_a, cFa_ok, callE_a, cEa_ok, newE_a, nwa_ok, datE_a, dta_ok, dispE_a, tupE_a, tpa_ok, asDs_a, datas, bind_ok, pur_ok, bool_b, leave_d, leave_nx, leave_er, ifE_a, ifa_t, ifa_f, notT_a, nta_ok, andT_a, ana_t, ana_f, orT_a, ora_t, ora_f, tstE_a, tsa_b, andE_a, aEa_t, aEa_f, orE_a, oEa_t, oEa_f, notE_a, nEa_ok, add_ii, sub_ii, gt_ii, lt_ii, ge_ii, le_ii, setT_a, consT_a, cTa_ok, nilT_a, tupT_a, seqT_t, seqT_l, forS_a, List.map_cons, List.map_nil, List.length_cons, List.length_nil, Nat.reduceAdd, Nat.reduceSub, Nat.zero_add, Nat.add_zero, List.replicate, List.cons_append, List.nil_append, List.append_nil, List.getElem?_cons_zero, List.getElem?_cons_succ, List.set_cons_zero, List.set_cons_succ, List.getElem?_nil, Option.map_some, Option.map_none, Option.bind_some, if_true, if_false, ite_true, ite_false, eq_self_iff_true, and_self, and_true, true_and, decide_true, decide_false, Bool.false_eq_true, Bool.not_true, Bool.not_false, sizeLine, Nat.reducePow, Nat.reduceLeDiff, Nat.zero_le, pow_7, pow_18, pow_40, core, tup_l]
  rw [take_all (by simp)]
theorem kept_ok {x : Vl} {ss : List Nat} {ps : List Int} {M : Mem} (hx : StV x ss ps) (hl : ss.length ≤ 1000) : m_kept [x] M = .ok (.d (.tuple [.tuple (intsD (resI ss ps)), .int ps.sum])) M := by
  unfold m_kept g_kept
  simp only [defM, startE, seqS_a, setS_a, bindS_ok, bindS_er, then_nx, then_rt, then_er, ifS_a, ifK_t, ifK_f, retS_a, dropS_a, asgS_a, asK_a, goG_ok, subT_a, nopS_a, getV_0, getV_s, cst_a, op2_a, o2a_ok, o2b_ok, opT_a, oTa_ok, oTb_ok, consA_a, cAa_ok, cAb_ok, nilA_a, callF_a, cFa_ok, callE_a, cEa_ok, newE_a, nwa_ok, datE_a, dta_ok, dispE_a, tupE_a, tpa_ok, asDs_a, datas, bind_ok, pur_ok, bool_b, leave_d, leave_nx, leave_er, ifE_a, ifa_t, ifa_f, notT_a, nta_ok, andT_a, ana_t, ana_f, orT_a, ora_t, ora_f, tstE_a, tsa_b, andE_a, aEa_t, aEa_f, orE_a, oEa_t, oEa_f, notE_a, nEa_ok, add_ii, sub_ii, gt_ii, lt_ii, ge_ii, le_ii, setT_a, consT_a, cTa_ok, nilT_a, tupT_a, seqT_t, seqT_l, forS_a, List.map_cons, List.map_nil, List.length_cons, List.length_nil, Nat.reduceAdd, Nat.reduceSub, Nat.zero_add, Nat.add_zero, List.replicate, List.cons_append, List.nil_append, List.append_nil, List.getElem?_cons_zero, List.getElem?_cons_succ, List.set_cons_zero, List.set_cons_succ, List.getElem?_nil, Option.map_some, Option.map_none, Option.bind_some, if_true, if_false, ite_true, ite_false, eq_self_iff_true, and_self, and_true, true_and, decide_true, decide_false, Bool.false_eq_true, Bool.not_true, Bool.not_false, sizeLine, Nat.reducePow, Nat.reduceLeDiff, Nat.zero_le, pow_7, pow_18, pow_40, residues_ok (M := M) hx hl, total_ok (M := M) hx]
  rw [take_all (by simp)]
theorem check_people_ok {x y : Vl} {ss tt : List Nat} {ps qs : List Int} {M : Mem} (hx : StV x ss ps) (hy : StV y tt qs) (hl : ss.length = tt.length) : m_check_people [x, y] M = .ok (.d .none) M := by
  obtain ⟨a, b, h0, h1, h2, h3, h4⟩ := hx.ix
  obtain ⟨c, d, k0, k1, k2, k3, k4⟩ := hy.ix
  unfold m_check_people g_check_people
  simp only [defM, startE, seqS_a, setS_a, bindS_ok, bindS_er, then_nx, then_rt, then_er, ifS_a, ifK_t, ifK_f, retS_a, dropS_a, asgS_a, asK_a, goG_ok, subT_a, nopS_a, getV_0, getV_s, cst_a, op2_a, o2a_ok, o2b_ok, opT_a, oTa_ok, oTb_ok, consA_a, cAa_ok, cAb_ok, nilA_a, callF_a, cFa_ok, callE_a, cEa_ok, newE_a, nwa_ok, datE_a, dta_ok, dispE_a, tupE_a, tpa_ok, asDs_a, datas, bind_ok, pur_ok, bool_b, leave_d, leave_nx, leave_er, ifE_a, ifa_t, ifa_f, notT_a, nta_ok, andT_a, ana_t, ana_f, orT_a, ora_t, ora_f, tstE_a, tsa_b, andE_a, aEa_t, aEa_f, orE_a, oEa_t, oEa_f, notE_a, nEa_ok, add_ii, sub_ii, gt_ii, lt_ii, ge_ii, le_ii, setT_a, consT_a, cTa_ok, nilT_a, tupT_a, seqT_t, seqT_l, forS_a, List.map_cons, List.map_nil, List.length_cons, List.length_nil, Nat.reduceAdd, Nat.reduceSub, Nat.zero_add, Nat.add_zero, List.replicate, List.cons_append, List.nil_append, List.append_nil, List.getElem?_cons_zero, List.getElem?_cons_succ, List.set_cons_zero, List.set_cons_succ, List.getElem?_nil, Option.map_some, Option.map_none, Option.bind_some, if_true, if_false, ite_true, ite_false, eq_self_iff_true, and_self, and_true, true_and, decide_true, decide_false, Bool.false_eq_true, Bool.not_true, Bool.not_false, sizeLine, Nat.reducePow, Nat.reduceLeDiff, Nat.zero_le, pow_7, pow_18, pow_40, h0, k0, h2.len (M := M), k2.len (M := M), List.length_map, ne_ii, hl, beq_self_eq_true]
  rw [take_all (by simp)]
/-- what bars -/
def barD (ss : List Nat) (ps : List Int) (tt : List Nat) (qs : List Int) : PyData :=
  if ps.sum ≠ qs.sum then .str "total" else match (List.range ss.length).find? (fun k => (resI ss ps)[k]? != (resI tt qs)[k]?) with
  | some k => .int (k : Nat)
  | none => .none
theorem bar_ok {x y : Vl} {ss tt : List Nat} {ps qs : List Int} {M : Mem} (hx : StV x ss ps) (hy : StV y tt qs) (hl : ss.length = tt.length) (hn : ss.length ≤ 1000) (hp : ps.length = ss.length) (hq : qs.length = ss.length) : m_bar [x, y] M = .ok (.d (barD ss ps tt qs)) M := by
  have hrl : (resI ss ps).length = ss.length := by rw [resI_len]; omega
  have hrl2 : (resI tt qs).length = ss.length := by rw [resI_len]; omega
  unfold m_bar g_bar barD
  simp only [defM, startE, seqS_a, setS_a, bindS_ok, bindS_er, then_nx, then_rt, then_er, ifS_a, ifK_t, ifK_f, retS_a, dropS_a, asgS_a, asK_a, goG_ok, subT_a, nopS_a, getV_0, getV_s, cst_a, op2_a, o2a_ok, o2b_ok, opT_a, oTa_ok, oTb_ok, consA_a, cAa_ok, cAb_ok, nilA_a, callF_a, cFa_ok, callE_a, cEa_ok, newE_a, nwa_ok, datE_a, dta_ok, dispE_a, tupE_a, tpa_ok, asDs_a, datas, bind_ok, pur_ok, bool_b, leave_d, leave_nx, leave_er, ifE_a, ifa_t, ifa_f, notT_a, nta_ok, andT_a, ana_t, ana_f, orT_a, ora_t, ora_f, tstE_a, tsa_b, andE_a, aEa_t, aEa_f, orE_a, oEa_t, oEa_f, notE_a, nEa_ok, add_ii, sub_ii, gt_ii, lt_ii, ge_ii, le_ii, setT_a, consT_a, cTa_ok, nilT_a, tupT_a, seqT_t, seqT_l, forS_a, List.map_cons, List.map_nil, List.length_cons, List.length_nil, Nat.reduceAdd, Nat.reduceSub, Nat.zero_add, Nat.add_zero, List.replicate, List.cons_append, List.nil_append, List.append_nil, List.getElem?_cons_zero, List.getElem?_cons_succ, List.set_cons_zero, List.set_cons_succ, List.getElem?_nil, Option.map_some, Option.map_none, Option.bind_some, if_true, if_false, ite_true, ite_false, eq_self_iff_true, and_self, and_true, true_and, decide_true, decide_false, Bool.false_eq_true, Bool.not_true, Bool.not_false, sizeLine, Nat.reducePow, Nat.reduceLeDiff, Nat.zero_le, pow_7, pow_18, pow_40, check_people_ok (M := M) hx hy hl, kept_ok (M := M) hx hn, kept_ok (M := M) hy (by omega), ne_ii]
  by_cases hs : ps.sum = qs.sum
  · have hb : (ps.sum == qs.sum) = true := by simp [hs]
    simp only [defM, startE, seqS_a, setS_a, bindS_ok, bindS_er, then_nx, then_rt, then_er, ifS_a, ifK_t, ifK_f, retS_a, dropS_a, asgS_a, asK_a, goG_ok, subT_a, nopS_a, getV_0, getV_s, cst_a, op2_a, o2a_ok, o2b_ok, opT_a, oTa_ok, oTb_ok, consA_a, cAa_ok, cAb_ok, nilA_a, callF_a, cFa_ok, callE_a, cEa_ok, newE_a, nwa_ok, datE_a, dta_ok, dispE_a, tupE_a, tpa_ok, asDs_a, datas, bind_ok, pur_ok, bool_b, leave_d, leave_nx, leave_er, ifE_a, ifa_t, ifa_f, notT_a, nta_ok, andT_a, ana_t, ana_f, orT_a, ora_t, ora_f, tstE_a, tsa_b, andE_a, aEa_t, aEa_f, orE_a, oEa_t, oEa_f, notE_a, nEa_ok, add_ii, sub_ii, gt_ii, lt_ii, ge_ii, le_ii, setT_a, consT_a, cTa_ok, nilT_a, tupT_a, seqT_t, seqT_l, forS_a, List.map_cons, List.map_nil, List.length_cons, List.length_nil, Nat.reduceAdd, Nat.reduceSub, Nat.zero_add, Nat.add_zero, List.replicate, List.cons_append, List.nil_append, List.append_nil, List.getElem?_cons_zero, List.getElem?_cons_succ, List.set_cons_zero, List.set_cons_succ, List.getElem?_nil, Option.map_some, Option.map_none, Option.bind_some, if_true, if_false, ite_true, ite_false, eq_self_iff_true, and_self, and_true, true_and, decide_true, decide_false, Bool.false_eq_true, Bool.not_true, Bool.not_false, sizeLine, Nat.reducePow, Nat.reduceLeDiff, Nat.zero_le, pow_7, pow_18, pow_40, hb]
    rw [if_neg (by simp [hs])]
    have hen : enumI (getV 2) [some x, some y, some (.d (.tuple (intsD (resI ss ps)))), some (.d (.int ps.sum)), some (.d (.tuple (intsD (resI tt qs)))), some (.d (.int qs.sum)), none, none] M = .ok (numD (intsD (resI ss ps))) M := C.enumI_a (x := .d (.tuple (intsD (resI ss ps)))) (by simp only [defM, startE, seqS_a, setS_a, bindS_ok, bindS_er, then_nx, then_rt, then_er, ifS_a, ifK_t, ifK_f, retS_a, dropS_a, asgS_a, asK_a, goG_ok, subT_a, nopS_a, getV_0, getV_s, cst_a, op2_a, o2a_ok, o2b_ok, opT_a, oTa_ok, oTb_ok, consA_a, cAa_ok, cAb_ok, nilA_a, callF_a, cFa_ok, callE_a, cEa_ok, newE_a, nwa_ok, datE_a, dta_ok, dispE_a, tupE_a, tpa_ok, asDs_a, datas, bind_ok, pur_ok, bool_b, leave_d, leave_nx, leave_er, ifE_a, ifa_t, ifa_f, notT_a, nta_ok, andT_a, ana_t, ana_f, orT_a, ora_t, ora_f, tstE_a, tsa_b, andE_a, aEa_t, aEa_f, orE_a, oEa_t, oEa_f, notE_a, nEa_ok, add_ii, sub_ii, gt_ii, lt_ii, ge_ii, le_ii, setT_a, consT_a, cTa_ok, nilT_a, tupT_a, seqT_t, seqT_l, forS_a, List.map_cons, List.map_nil, List.length_cons, List.length_nil, Nat.reduceAdd, Nat.reduceSub, Nat.zero_add, Nat.add_zero, List.replicate, List.cons_append, List.nil_append, List.append_nil, List.getElem?_cons_zero, List.getElem?_cons_succ, List.set_cons_zero, List.set_cons_succ, List.getElem?_nil, Option.map_some, Option.map_none, Option.bind_some, if_true, if_false, ite_true, ite_false, eq_self_iff_true, and_self, and_true, true_and, decide_true, decide_false, Bool.false_eq_true, Bool.not_true, Bool.not_false, sizeLine, Nat.reducePow, Nat.reduceLeDiff, Nat.zero_le, pow_7, pow_18, pow_40]) rfl (by simp [hrl]; omega)
    have key := forL_or (γ := tupT 2 (consT (setT 6) (consT (setT 7) nilT))) (g := ifS (opT neV (getV 7) (op2 ixV (getV 4) (getV 6))) (retS (getV 6)) nopS)
      (fun k e N => N = M ∧ (∀ j, j < k → ((resI ss ps)[j]? != (resI tt qs)[j]?) = false) ∧ ∃ v6 v7, e = [some x, some y, some (.d (.tuple (intsD (resI ss ps)))), some (.d (.int ps.sum)), some (.d (.tuple (intsD (resI tt qs)))), some (.d (.int qs.sum)), v6, v7])
      (fun v e N => N = M ∧ ∃ k : Nat, v = .d (.int (k : Nat)) ∧ k < ss.length ∧ ((resI ss ps)[k]? != (resI tt qs)[k]?) = true ∧ (∀ j, j < k → ((resI ss ps)[j]? != (resI tt qs)[j]?) = false))
      (numD (intsD (resI ss ps))) 0 [some x, some y, some (.d (.tuple (intsD (resI ss ps)))), some (.d (.int ps.sum)), some (.d (.tuple (intsD (resI tt qs)))), some (.d (.int qs.sum)), none, none] M (Nat.zero_le _)
      (by
        rintro k z e N _ hz ⟨rfl, hj, v6, v7, rfl⟩
        obtain ⟨d, hd, rfl⟩ := C.numD_get hz
        rw [List.getElem?_map] at hd
        obtain ⟨r, hr, rfl⟩ := Option.map_eq_some_iff.mp hd
        have hk : k < ss.length := by rw [← hrl]; exact lt_of_getL hr
        have hk2 : k < (resI tt qs).length := by omega
        have hq : (resI tt qs)[k]? = some (resI tt qs)[k] := List.getElem?_eq_getElem hk2
        generalize hr2 : (resI tt qs)[k] = r2 at hq
        have hix : ∀ N' : Mem, ixV (.d (.tuple (intsD (resI tt qs)))) (.d (.int (k : Nat))) N' = .ok (.d (.int r2)) N' := fun N' => ixV_t (by rw [atI_nat (by simpa using hk2)]; simp [hr2])
        by_cases h : r = r2
        · refine .inl ⟨[some x, some y, some (.d (.tuple (intsD (resI ss ps)))), some (.d (.int ps.sum)), some (.d (.tuple (intsD (resI tt qs)))), some (.d (.int qs.sum)), some (.d (.int (k : Nat))), some (.d (.int r))], N, [some x, some y, some (.d (.tuple (intsD (resI ss ps)))), some (.d (.int ps.sum)), some (.d (.tuple (intsD (resI tt qs)))), some (.d (.int qs.sum)), some (.d (.int (k : Nat))), some (.d (.int r))], N, ?_, ?_, rfl, fun j hj' => ?_, _, _, rfl⟩
          · simp only [defM, startE, seqS_a, setS_a, bindS_ok, bindS_er, then_nx, then_rt, then_er, ifS_a, ifK_t, ifK_f, retS_a, dropS_a, asgS_a, asK_a, goG_ok, subT_a, nopS_a, getV_0, getV_s, cst_a, op2_a, o2a_ok, o2b_ok, opT_a, oTa_ok, oTb_ok, consA_a, cAa_ok, cAb_ok, nilA_a, callF_a, cFa_ok, callE_a, cEa_ok, newE_a, nwa_ok, datE_a, dta_ok, dispE_a, tupE_a, tpa_ok, asDs_a, datas, bind_ok, pur_ok, bool_b, leave_d, leave_nx, leave_er, ifE_a, ifa_t, ifa_f, notT_a, nta_ok, andT_a, ana_t, ana_f, orT_a, ora_t, ora_f, tstE_a, tsa_b, andE_a, aEa_t, aEa_f, orE_a, oEa_t, oEa_f, notE_a, nEa_ok, add_ii, sub_ii, gt_ii, lt_ii, ge_ii, le_ii, setT_a, consT_a, cTa_ok, nilT_a, tupT_a, seqT_t, seqT_l, forS_a, List.map_cons, List.map_nil, List.length_cons, List.length_nil, Nat.reduceAdd, Nat.reduceSub, Nat.zero_add, Nat.add_zero, List.replicate, List.cons_append, List.nil_append, List.append_nil, List.getElem?_cons_zero, List.getElem?_cons_succ, List.set_cons_zero, List.set_cons_succ, List.getElem?_nil, Option.map_some, Option.map_none, Option.bind_some, if_true, if_false, ite_true, ite_false, eq_self_iff_true, and_self, and_true, true_and, decide_true, decide_false, Bool.false_eq_true, Bool.not_true, Bool.not_false, sizeLine, Nat.reducePow, Nat.reduceLeDiff, Nat.zero_le, pow_7, pow_18, pow_40]
          · simp only [defM, startE, seqS_a, setS_a, bindS_ok, bindS_er, then_nx, then_rt, then_er, ifS_a, ifK_t, ifK_f, retS_a, dropS_a, asgS_a, asK_a, goG_ok, subT_a, nopS_a, getV_0, getV_s, cst_a, op2_a, o2a_ok, o2b_ok, opT_a, oTa_ok, oTb_ok, consA_a, cAa_ok, cAb_ok, nilA_a, callF_a, cFa_ok, callE_a, cEa_ok, newE_a, nwa_ok, datE_a, dta_ok, dispE_a, tupE_a, tpa_ok, asDs_a, datas, bind_ok, pur_ok, bool_b, leave_d, leave_nx, leave_er, ifE_a, ifa_t, ifa_f, notT_a, nta_ok, andT_a, ana_t, ana_f, orT_a, ora_t, ora_f, tstE_a, tsa_b, andE_a, aEa_t, aEa_f, orE_a, oEa_t, oEa_f, notE_a, nEa_ok, add_ii, sub_ii, gt_ii, lt_ii, ge_ii, le_ii, setT_a, consT_a, cTa_ok, nilT_a, tupT_a, seqT_t, seqT_l, forS_a, List.map_cons, List.map_nil, List.length_cons, List.length_nil, Nat.reduceAdd, Nat.reduceSub, Nat.zero_add, Nat.add_zero, List.replicate, List.cons_append, List.nil_append, List.append_nil, List.getElem?_cons_zero, List.getElem?_cons_succ, List.set_cons_zero, List.set_cons_succ, List.getElem?_nil, Option.map_some, Option.map_none, Option.bind_some, if_true, if_false, ite_true, ite_false, eq_self_iff_true, and_self, and_true, true_and, decide_true, decide_false, Bool.false_eq_true, Bool.not_true, Bool.not_false, sizeLine, Nat.reducePow, Nat.reduceLeDiff, Nat.zero_le, pow_7, pow_18, pow_40, hix, ne_ii, h, beq_self_eq_true]
          · by_cases hjk : j = k
            · subst hjk; rw [hr, hq, h]; simp
            · exact hj j (by omega)
        · refine .inr ⟨[some x, some y, some (.d (.tuple (intsD (resI ss ps)))), some (.d (.int ps.sum)), some (.d (.tuple (intsD (resI tt qs)))), some (.d (.int qs.sum)), some (.d (.int (k : Nat))), some (.d (.int r))], N, .d (.int (k : Nat)), [some x, some y, some (.d (.tuple (intsD (resI ss ps)))), some (.d (.int ps.sum)), some (.d (.tuple (intsD (resI tt qs)))), some (.d (.int qs.sum)), some (.d (.int (k : Nat))), some (.d (.int r))], N, ?_, ?_, rfl, k, rfl, hk, ?_, hj⟩
          · simp only [defM, startE, seqS_a, setS_a, bindS_ok, bindS_er, then_nx, then_rt, then_er, ifS_a, ifK_t, ifK_f, retS_a, dropS_a, asgS_a, asK_a, goG_ok, subT_a, nopS_a, getV_0, getV_s, cst_a, op2_a, o2a_ok, o2b_ok, opT_a, oTa_ok, oTb_ok, consA_a, cAa_ok, cAb_ok, nilA_a, callF_a, cFa_ok, callE_a, cEa_ok, newE_a, nwa_ok, datE_a, dta_ok, dispE_a, tupE_a, tpa_ok, asDs_a, datas, bind_ok, pur_ok, bool_b, leave_d, leave_nx, leave_er, ifE_a, ifa_t, ifa_f, notT_a, nta_ok, andT_a, ana_t, ana_f, orT_a, ora_t, ora_f, tstE_a, tsa_b, andE_a, aEa_t, aEa_f, orE_a, oEa_t, oEa_f, notE_a, nEa_ok, add_ii, sub_ii, gt_ii, lt_ii, ge_ii, le_ii, setT_a, consT_a, cTa_ok, nilT_a, tupT_a, seqT_t, seqT_l, forS_a, List.map_cons, List.map_nil, List.length_cons, List.length_nil, Nat.reduceAdd, Nat.reduceSub, Nat.zero_add, Nat.add_zero, List.replicate, List.cons_append, List.nil_append, List.append_nil, List.getElem?_cons_zero, List.getElem?_cons_succ, List.set_cons_zero, List.set_cons_succ, List.getElem?_nil, Option.map_some, Option.map_none, Option.bind_some, if_true, if_false, ite_true, ite_false, eq_self_iff_true, and_self, and_true, true_and, decide_true, decide_false, Bool.false_eq_true, Bool.not_true, Bool.not_false, sizeLine, Nat.reducePow, Nat.reduceLeDiff, Nat.zero_le, pow_7, pow_18, pow_40]
          · have : (r == r2) = false := by simp [h]
            simp only [defM, startE, seqS_a, setS_a, bindS_ok, bindS_er, then_nx, then_rt, then_er, ifS_a, ifK_t, ifK_f, retS_a, dropS_a, asgS_a, asK_a, goG_ok, subT_a, nopS_a, getV_0, getV_s, cst_a, op2_a, o2a_ok, o2b_ok, opT_a, oTa_ok, oTb_ok, consA_a, cAa_ok, cAb_ok, nilA_a, callF_a, cFa_ok, callE_a, cEa_ok, newE_a, nwa_ok, datE_a, dta_ok, dispE_a, tupE_a, tpa_ok, asDs_a, datas, bind_ok, pur_ok, bool_b, leave_d, leave_nx, leave_er, ifE_a, ifa_t, ifa_f, notT_a, nta_ok, andT_a, ana_t, ana_f, orT_a, ora_t, ora_f, tstE_a, tsa_b, andE_a, aEa_t, aEa_f, orE_a, oEa_t, oEa_f, notE_a, nEa_ok, add_ii, sub_ii, gt_ii, lt_ii, ge_ii, le_ii, setT_a, consT_a, cTa_ok, nilT_a, tupT_a, seqT_t, seqT_l, forS_a, List.map_cons, List.map_nil, List.length_cons, List.length_nil, Nat.reduceAdd, Nat.reduceSub, Nat.zero_add, Nat.add_zero, List.replicate, List.cons_append, List.nil_append, List.append_nil, List.getElem?_cons_zero, List.getElem?_cons_succ, List.set_cons_zero, List.set_cons_succ, List.getElem?_nil, Option.map_some, Option.map_none, Option.bind_some, if_true, if_false, ite_true, ite_false, eq_self_iff_true, and_self, and_true, true_and, decide_true, decide_false, Bool.false_eq_true, Bool.not_true, Bool.not_false, sizeLine, Nat.reducePow, Nat.reduceLeDiff, Nat.zero_le, pow_7, pow_18, pow_40, hix, ne_ii, this]
          · rw [hr, hq]; simp [h])
      ⟨rfl, fun j hj => by omega, none, none, rfl⟩
    rw [List.drop_zero] at key
    rcases key with ⟨e', M', el, rfl, hj, v6, v7, rfl⟩ | ⟨v, e', M', el, rfl, k, rfl, hk, hk1, hj⟩
    · have hnone : (List.range ss.length).find? (fun k => (resI ss ps)[k]? != (resI tt qs)[k]?) = none := by
        rw [List.find?_eq_none]
        intro k hk
        have := hj k (by rw [numD_len, List.length_map, hrl]; exact List.mem_range.mp hk)
        simp only [this]
        simp
      simp only [defM, startE, seqS_a, setS_a, bindS_ok, bindS_er, then_nx, then_rt, then_er, ifS_a, ifK_t, ifK_f, retS_a, dropS_a, asgS_a, asK_a, goG_ok, subT_a, nopS_a, getV_0, getV_s, cst_a, op2_a, o2a_ok, o2b_ok, opT_a, oTa_ok, oTb_ok, consA_a, cAa_ok, cAb_ok, nilA_a, callF_a, cFa_ok, callE_a, cEa_ok, newE_a, nwa_ok, datE_a, dta_ok, dispE_a, tupE_a, tpa_ok, asDs_a, datas, bind_ok, pur_ok, bool_b, leave_d, leave_nx, leave_er, ifE_a, ifa_t, ifa_f, notT_a, nta_ok, andT_a, ana_t, ana_f, orT_a, ora_t, ora_f, tstE_a, tsa_b, andE_a, aEa_t, aEa_f, orE_a, oEa_t, oEa_f, notE_a, nEa_ok, add_ii, sub_ii, gt_ii, lt_ii, ge_ii, le_ii, setT_a, consT_a, cTa_ok, nilT_a, tupT_a, seqT_t, seqT_l, forS_a, List.map_cons, List.map_nil, List.length_cons, List.length_nil, Nat.reduceAdd, Nat.reduceSub, Nat.zero_add, Nat.add_zero, List.replicate, List.cons_append, List.nil_append, List.append_nil, List.getElem?_cons_zero, List.getElem?_cons_succ, List.set_cons_zero, List.set_cons_succ, List.getElem?_nil, Option.map_some, Option.map_none, Option.bind_some, if_true, if_false, ite_true, ite_false, eq_self_iff_true, and_self, and_true, true_and, decide_true, decide_false, Bool.false_eq_true, Bool.not_true, Bool.not_false, sizeLine, Nat.reducePow, Nat.reduceLeDiff, Nat.zero_le, pow_7, pow_18, pow_40, hen, el, hnone]
      rw [take_all (by simp)]
    · have hsome : (List.range ss.length).find? (fun k => (resI ss ps)[k]? != (resI tt qs)[k]?) = some k := by
        rw [List.find?_range_eq_some]
        exact ⟨hk1, List.mem_range.mpr hk, fun j hj' => by rw [hj j hj']; rfl⟩
      simp only [defM, startE, seqS_a, setS_a, bindS_ok, bindS_er, then_nx, then_rt, then_er, ifS_a, ifK_t, ifK_f, retS_a, dropS_a, asgS_a, asK_a, goG_ok, subT_a, nopS_a, getV_0, getV_s, cst_a, op2_a, o2a_ok, o2b_ok, opT_a, oTa_ok, oTb_ok, consA_a, cAa_ok, cAb_ok, nilA_a, callF_a, cFa_ok, callE_a, cEa_ok, newE_a, nwa_ok, datE_a, dta_ok, dispE_a, tupE_a, tpa_ok, asDs_a, datas, bind_ok, pur_ok, bool_b, leave_d, leave_nx, leave_er, ifE_a, ifa_t, ifa_f, notT_a, nta_ok, andT_a, ana_t, ana_f, orT_a, ora_t, ora_f, tstE_a, tsa_b, andE_a, aEa_t, aEa_f, orE_a, oEa_t, oEa_f, notE_a, nEa_ok, add_ii, sub_ii, gt_ii, lt_ii, ge_ii, le_ii, setT_a, consT_a, cTa_ok, nilT_a, tupT_a, seqT_t, seqT_l, forS_a, List.map_cons, List.map_nil, List.length_cons, List.length_nil, Nat.reduceAdd, Nat.reduceSub, Nat.zero_add, Nat.add_zero, List.replicate, List.cons_append, List.nil_append, List.append_nil, List.getElem?_cons_zero, List.getElem?_cons_succ, List.set_cons_zero, List.set_cons_succ, List.getElem?_nil, Option.map_some, Option.map_none, Option.bind_some, if_true, if_false, ite_true, ite_false, eq_self_iff_true, and_self, and_true, true_and, decide_true, decide_false, Bool.false_eq_true, Bool.not_true, Bool.not_false, sizeLine, Nat.reducePow, Nat.reduceLeDiff, Nat.zero_le, pow_7, pow_18, pow_40, hen, el, hsome]
      rw [take_all (by simp)]
  · have hb : (ps.sum == qs.sum) = false := by simp [hs]
    simp only [defM, startE, seqS_a, setS_a, bindS_ok, bindS_er, then_nx, then_rt, then_er, ifS_a, ifK_t, ifK_f, retS_a, dropS_a, asgS_a, asK_a, goG_ok, subT_a, nopS_a, getV_0, getV_s, cst_a, op2_a, o2a_ok, o2b_ok, opT_a, oTa_ok, oTb_ok, consA_a, cAa_ok, cAb_ok, nilA_a, callF_a, cFa_ok, callE_a, cEa_ok, newE_a, nwa_ok, datE_a, dta_ok, dispE_a, tupE_a, tpa_ok, asDs_a, datas, bind_ok, pur_ok, bool_b, leave_d, leave_nx, leave_er, ifE_a, ifa_t, ifa_f, notT_a, nta_ok, andT_a, ana_t, ana_f, orT_a, ora_t, ora_f, tstE_a, tsa_b, andE_a, aEa_t, aEa_f, orE_a, oEa_t, oEa_f, notE_a, nEa_ok, add_ii, sub_ii, gt_ii, lt_ii, ge_ii, le_ii, setT_a, consT_a, cTa_ok, nilT_a, tupT_a, seqT_t, seqT_l, forS_a, List.map_cons, List.map_nil, List.length_cons, List.length_nil, Nat.reduceAdd, Nat.reduceSub, Nat.zero_add, Nat.add_zero, List.replicate, List.cons_append, List.nil_append, List.append_nil, List.getElem?_cons_zero, List.getElem?_cons_succ, List.set_cons_zero, List.set_cons_succ, List.getElem?_nil, Option.map_some, Option.map_none, Option.bind_some, if_true, if_false, ite_true, ite_false, eq_self_iff_true, and_self, and_true, true_and, decide_true, decide_false, Bool.false_eq_true, Bool.not_true, Bool.not_false, sizeLine, Nat.reducePow, Nat.reduceLeDiff, Nat.zero_le, pow_7, pow_18, pow_40, hb]
    rw [if_pos (by simp [hs]), take_all (by simp)]
theorem barD_lot {ss tt : List Nat} {ps qs : List Int} (h : Lot ss ps tt qs) : barD ss ps tt qs = .none := by
  unfold barD
  rw [if_neg (by simp [h.sum]), h.res]
  have : (List.range ss.length).find? (fun k => (resI tt qs)[k]? != (resI tt qs)[k]?) = none := by
    rw [List.find?_eq_none]
    intro k _
    simp
  rw [this]
def noneB : PyData → Bool
  | .none => true
  | _ => false
theorem leads_ok {x y : Vl} {ss tt : List Nat} {ps qs : List Int} {M : Mem} (hx : StV x ss ps) (hy : StV y tt qs) (hl : ss.length = tt.length) (hn : ss.length ≤ 1000) (hp : ps.length = ss.length) (hq : qs.length = ss.length) : m_leads [x, y] M = .ok (.d (.bool (noneB (barD ss ps tt qs)))) M := by
  unfold m_leads g_leads
  simp only [defM, startE, seqS_a, setS_a, bindS_ok, bindS_er, then_nx, then_rt, then_er, ifS_a, ifK_t, ifK_f, retS_a, dropS_a, asgS_a, asK_a, goG_ok, subT_a, nopS_a, getV_0, getV_s, cst_a, op2_a, o2a_ok, o2b_ok, opT_a, oTa_ok, oTb_ok, consA_a, cAa_ok, cAb_ok, nilA_a, callF_a, cFa_ok, callE_a, cEa_ok, newE_a, nwa_ok, datE_a, dta_ok, dispE_a, tupE_a, tpa_ok, asDs_a, datas, bind_ok, pur_ok, bool_b, leave_d, leave_nx, leave_er, ifE_a, ifa_t, ifa_f, notT_a, nta_ok, andT_a, ana_t, ana_f, orT_a, ora_t, ora_f, tstE_a, tsa_b, andE_a, aEa_t, aEa_f, orE_a, oEa_t, oEa_f, notE_a, nEa_ok, add_ii, sub_ii, gt_ii, lt_ii, ge_ii, le_ii, setT_a, consT_a, cTa_ok, nilT_a, tupT_a, seqT_t, seqT_l, forS_a, List.map_cons, List.map_nil, List.length_cons, List.length_nil, Nat.reduceAdd, Nat.reduceSub, Nat.zero_add, Nat.add_zero, List.replicate, List.cons_append, List.nil_append, List.append_nil, List.getElem?_cons_zero, List.getElem?_cons_succ, List.set_cons_zero, List.set_cons_succ, List.getElem?_nil, Option.map_some, Option.map_none, Option.bind_some, if_true, if_false, ite_true, ite_false, eq_self_iff_true, and_self, and_true, true_and, decide_true, decide_false, Bool.false_eq_true, Bool.not_true, Bool.not_false, sizeLine, Nat.reducePow, Nat.reduceLeDiff, Nat.zero_le, pow_7, pow_18, pow_40, bar_ok (M := M) hx hy hl hn hp hq, is_n]
  rw [take_all (by simp)]
  generalize barD ss ps tt qs = z
  cases z <;> rfl
end C
end DL

namespace DL
open PySem PySem.Spec L2
/-! ### young handles: M ++ J -/
theorem atI_some {α : Type} {xs : List α} {k : Nat} {x : α} (h : xs[k]? = some x) : atI xs (k : Int) = some x := by
  have hk := lt_of_getL h
  rw [atI_nat hk]
  rw [List.getElem?_eq_getElem hk] at h
  exact h
section
variable {M J : Mem} {L k j : Nat} {A : List PyData} {x y : PyData} {e : Env}
theorem j_get (hL : L = M.length + k) (hJ : J[k]? = some (.lst A)) : (M ++ J)[L]? = some (.lst A) := by
  subst hL
  rw [List.getElem?_append_right (by omega)]
  simpa using hJ
theorem j_set {o : MO} (hL : L = M.length + k) : (M ++ J).set L o = M ++ J.set k o := by
  subst hL
  rw [List.set_append_right _ _ (by omega)]
  simp
theorem jx (hL : L = M.length + k) (hJ : J[k]? = some (.lst A)) (hx : A[j]? = some x) : ixV (.h L) (.d (.int (j : Nat))) (M ++ J) = .ok (.d x) (M ++ J) := ixV_h (j_get hL hJ) (atI_some hx)
theorem jput (hL : L = M.length + k) (hJ : J[k]? = some (.lst A)) (hj : j < A.length) : putV (.h L) (.d (.int (j : Nat))) (.d y) e (M ++ J) = .ok e (M ++ J.set k (.lst (A.set j y))) := by
  rw [putV_h (j_get hL hJ) (ixN_nat hj), j_set hL]
theorem jfz {i : Nat} (he : e[i]? = some (some (.h L))) (hL : L = M.length + k) (hJ : J[k]? = some (.lst A)) : freeze i e (M ++ J) = .go .nx (e.set i (some (.d (.list A)))) (M ++ J.set k .gone) := by
  rw [freeze_at he (j_get hL hJ), j_set hL]
end
theorem par3S_a {i j l : Nat} {h : Evs} {e : Env} {M : Mem} : par3S i j l h e M = bindS (h e M) (fun xs e M => match xs with
  | [x, y, z] => RS.go .nx (((e.set i (some x)).set j (some y)).set l (some z)) M
  | _ => .st) e := Eq.trans rfl rfl
theorem idxLE_a {f g : Ev} {e : Env} {M : Mem} {i j : Nat} {ns : List Int} {z : Int} (hf : f e M = .ok (.h i) M) (hM : M[i]? = some (.lst (intsD ns))) (hg : g e M = .ok (.d (.int z)) M) (hj : firstAt ns z = some j) : idxLE f g e M = .ok (.d (.int (j : Nat))) M := by
  unfold idxLE
  rw [hf, bind_ok]
  simp only [lstOf, hM, hg, bind_ok, idxV, Option.bind_some, intsOf_map, hj]
theorem Stt.first {n : Nat} {ss : List Nat} {ps : List Int} (h : Stt n ss ps) {j c : Nat} (e : ss[j]? = some c) : firstAt (ss.map fun s : Nat => (s : Int)) (c : Int) = some j :=
  firstAt_of e fun k hk => h.inj hk e
theorem getN {ss : List Nat} {j c : Nat} (h : ss[j]? = some c) : (ss.map nD)[j]? = some (nD c) := by rw [List.getElem?_map, h]; rfl
theorem getI {ss : List Int} {j : Nat} {c : Int} (h : ss[j]? = some c) : (intsD ss)[j]? = some (.int c) := by rw [List.getElem?_map, h]; rfl
theorem setI {ls : List Int} {x : Nat} {c : Int} : (intsD ls).set x (.int c) = intsD (ls.set x c) := (List.map_set ..).symm
/-- nothing to pay with -/
def Stuck (ss : List Nat) (ps : List Int) (c : Nat) : Prop := ∃ j : Nat, ss[j]? = some c ∧ ps[j]? = some 0
namespace C
theorem moved_ok {n c : Nat} {ss : List Nat} {ps : List Int} {M : Mem} (h : Stt n ss ps) (h2 : 2 ≤ n) (hn : n ≤ 1000) (hc : c < n) :
    (Stuck ss ps c ∧ m_moved [.d (stD ss ps), .d (.int (c : Nat))] M = .ok (.d .none) M) ∨ ∃ ss' ps', Ex n ss ps c ss' ps' ∧ m_moved [.d (stD ss ps), .d (.int (c : Nat))] M = .ok (.d (stD ss' ps')) M := by
  obtain ⟨j, hj⟩ := h.onto hc
  obtain ⟨hne, hlt⟩ := next_ne h2 hc
  obtain ⟨k, hk⟩ := h.onto hlt
  obtain ⟨p, hp, hp0⟩ := h.purse hj
  obtain ⟨q, hq, hq0⟩ := h.purse hk
  have hjk : j ≠ k := fun e => hne (by rw [e, hk] at hj; exact Option.some.inj hj)
  have lj := lt_of_getL hj
  have lk := lt_of_getL hk
  have lpj := lt_of_getL hp
  have lpk := lt_of_getL hq
  have hsz : sizeLine = 2 ^ 24 := rfl
  have hl := h.slen
  have i0 : ∀ N : Mem, ixV (.d (stD ss ps)) (.d (.int 0)) N = .ok (.d (.tuple (ss.map nD))) N := fun N => ixV_t rfl
  have i1 : ∀ N : Mem, ixV (.d (stD ss ps)) (.d (.int 1)) N = .ok (.d (.tuple (ps.map PyData.int))) N := fun N => ixV_t rfl
  have hl0 : listE (op2 ixV (getV 0) (cst (.d (.int 0)))) [some (.d (stD ss ps)), some (.d (.int (c : Nat))), none, none, none, none, none] M = .ok (ss.map nD) M := listE_a (x := .d (.tuple (ss.map nD))) (by simp only [defM, startE, seqS_a, setS_a, bindS_ok, bindS_er, then_nx, then_rt, then_er, ifS_a, ifK_t, ifK_f, retS_a, dropS_a, asgS_a, asK_a, goG_ok, subT_a, nopS_a, getV_0, getV_s, cst_a, op2_a, o2a_ok, o2b_ok, opT_a, oTa_ok, oTb_ok, consA_a, cAa_ok, cAb_ok, nilA_a, callF_a, cFa_ok, callE_a, cEa_ok, newE_a, nwa_ok, datE_a, dta_ok, dispE_a, tupE_a, tpa_ok, asDs_a, datas, bind_ok, pur_ok, bool_b, leave_d, leave_nx, leave_er, ifE_a, ifa_t, ifa_f, notT_a, nta_ok, andT_a, ana_t, ana_f, orT_a, ora_t, ora_f, tstE_a, tsa_b, andE_a, aEa_t, aEa_f, orE_a, oEa_t, oEa_f, notE_a, nEa_ok, add_ii, sub_ii, gt_ii, lt_ii, ge_ii, le_ii, setT_a, consT_a, cTa_ok, nilT_a, tupT_a, seqT_t, seqT_l, forS_a, List.map_cons, List.map_nil, List.length_cons, List.length_nil, Nat.reduceAdd, Nat.reduceSub, Nat.zero_add, Nat.add_zero, List.replicate, List.cons_append, List.nil_append, List.append_nil, List.getElem?_cons_zero, List.getElem?_cons_succ, List.set_cons_zero, List.set_cons_succ, List.getElem?_nil, Option.map_some, Option.map_none, Option.bind_some, if_true, if_false, ite_true, ite_false, eq_self_iff_true, and_self, and_true, true_and, decide_true, decide_false, Bool.false_eq_true, Bool.not_true, Bool.not_false, sizeLine, Nat.reducePow, Nat.reduceLeDiff, Nat.zero_le, pow_7, pow_18, pow_40, i0]) rfl
  have hl1 : listE (op2 ixV (getV 0) (cst (.d (.int 1)))) [some (.d (stD ss ps)), some (.d (.int (c : Nat))), none, none, none, none, none] (M ++ [.lst (ss.map nD)]) = .ok (ps.map PyData.int) (M ++ [.lst (ss.map nD)]) := listE_a (x := .d (.tuple (ps.map PyData.int))) (by simp only [defM, startE, seqS_a, setS_a, bindS_ok, bindS_er, then_nx, then_rt, then_er, ifS_a, ifK_t, ifK_f, retS_a, dropS_a, asgS_a, asK_a, goG_ok, subT_a, nopS_a, getV_0, getV_s, cst_a, op2_a, o2a_ok, o2b_ok, opT_a, oTa_ok, oTb_ok, consA_a, cAa_ok, cAb_ok, nilA_a, callF_a, cFa_ok, callE_a, cEa_ok, newE_a, nwa_ok, datE_a, dta_ok, dispE_a, tupE_a, tpa_ok, asDs_a, datas, bind_ok, pur_ok, bool_b, leave_d, leave_nx, leave_er, ifE_a, ifa_t, ifa_f, notT_a, nta_ok, andT_a, ana_t, ana_f, orT_a, ora_t, ora_f, tstE_a, tsa_b, andE_a, aEa_t, aEa_f, orE_a, oEa_t, oEa_f, notE_a, nEa_ok, add_ii, sub_ii, gt_ii, lt_ii, ge_ii, le_ii, setT_a, consT_a, cTa_ok, nilT_a, tupT_a, seqT_t, seqT_l, forS_a, List.map_cons, List.map_nil, List.length_cons, List.length_nil, Nat.reduceAdd, Nat.reduceSub, Nat.zero_add, Nat.add_zero, List.replicate, List.cons_append, List.nil_append, List.append_nil, List.getElem?_cons_zero, List.getElem?_cons_succ, List.set_cons_zero, List.set_cons_succ, List.getElem?_nil, Option.map_some, Option.map_none, Option.bind_some, if_true, if_false, ite_true, ite_false, eq_self_iff_true, and_self, and_true, true_and, decide_true, decide_false, Bool.false_eq_true, Bool.not_true, Bool.not_false, sizeLine, Nat.reducePow, Nat.reduceLeDiff, Nat.zero_le, pow_7, pow_18, pow_40, i1]) rfl
  have x1 : idxLE (getV 2) (getV 1) [some (.d (stD ss ps)), some (.d (.int (c : Nat))), some (.h M.length), some (.h (M.length + 1)), some (.d (.int (n : Nat))), none, none] (M ++ [.lst (ss.map nD), .lst (ps.map PyData.int)]) = .ok (.d (.int (j : Nat))) (M ++ [.lst (ss.map nD), .lst (ps.map PyData.int)]) :=
    idxLE_a (i := M.length) (ns := ss.map fun s : Nat => (s : Int)) (z := (c : Nat)) (by simp only [defM, startE, seqS_a, setS_a, bindS_ok, bindS_er, then_nx, then_rt, then_er, ifS_a, ifK_t, ifK_f, retS_a, dropS_a, asgS_a, asK_a, goG_ok, subT_a, nopS_a, getV_0, getV_s, cst_a, op2_a, o2a_ok, o2b_ok, opT_a, oTa_ok, oTb_ok, consA_a, cAa_ok, cAb_ok, nilA_a, callF_a, cFa_ok, callE_a, cEa_ok, newE_a, nwa_ok, datE_a, dta_ok, dispE_a, tupE_a, tpa_ok, asDs_a, datas, bind_ok, pur_ok, bool_b, leave_d, leave_nx, leave_er, ifE_a, ifa_t, ifa_f, notT_a, nta_ok, andT_a, ana_t, ana_f, orT_a, ora_t, ora_f, tstE_a, tsa_b, andE_a, aEa_t, aEa_f, orE_a, oEa_t, oEa_f, notE_a, nEa_ok, add_ii, sub_ii, gt_ii, lt_ii, ge_ii, le_ii, setT_a, consT_a, cTa_ok, nilT_a, tupT_a, seqT_t, seqT_l, forS_a, List.map_cons, List.map_nil, List.length_cons, List.length_nil, Nat.reduceAdd, Nat.reduceSub, Nat.zero_add, Nat.add_zero, List.replicate, List.cons_append, List.nil_append, List.append_nil, List.getElem?_cons_zero, List.getElem?_cons_succ, List.set_cons_zero, List.set_cons_succ, List.getElem?_nil, Option.map_some, Option.map_none, Option.bind_some, if_true, if_false, ite_true, ite_false, eq_self_iff_true, and_self, and_true, true_and, decide_true, decide_false, Bool.false_eq_true, Bool.not_true, Bool.not_false, sizeLine, Nat.reducePow, Nat.reduceLeDiff, Nat.zero_le, pow_7, pow_18, pow_40]) (by rw [← nats_ints]; exact j_get (k := 0) rfl rfl) (by simp only [defM, startE, seqS_a, setS_a, bindS_ok, bindS_er, then_nx, then_rt, then_er, ifS_a, ifK_t, ifK_f, retS_a, dropS_a, asgS_a, asK_a, goG_ok, subT_a, nopS_a, getV_0, getV_s, cst_a, op2_a, o2a_ok, o2b_ok, opT_a, oTa_ok, oTb_ok, consA_a, cAa_ok, cAb_ok, nilA_a, callF_a, cFa_ok, callE_a, cEa_ok, newE_a, nwa_ok, datE_a, dta_ok, dispE_a, tupE_a, tpa_ok, asDs_a, datas, bind_ok, pur_ok, bool_b, leave_d, leave_nx, leave_er, ifE_a, ifa_t, ifa_f, notT_a, nta_ok, andT_a, ana_t, ana_f, orT_a, ora_t, ora_f, tstE_a, tsa_b, andE_a, aEa_t, aEa_f, orE_a, oEa_t, oEa_f, notE_a, nEa_ok, add_ii, sub_ii, gt_ii, lt_ii, ge_ii, le_ii, setT_a, consT_a, cTa_ok, nilT_a, tupT_a, seqT_t, seqT_l, forS_a, List.map_cons, List.map_nil, List.length_cons, List.length_nil, Nat.reduceAdd, Nat.reduceSub, Nat.zero_add, Nat.add_zero, List.replicate, List.cons_append, List.nil_append, List.append_nil, List.getElem?_cons_zero, List.getElem?_cons_succ, List.set_cons_zero, List.set_cons_succ, List.getElem?_nil, Option.map_some, Option.map_none, Option.bind_some, if_true, if_false, ite_true, ite_false, eq_self_iff_true, and_self, and_true, true_and, decide_true, decide_false, Bool.false_eq_true, Bool.not_true, Bool.not_false, sizeLine, Nat.reducePow, Nat.reduceLeDiff, Nat.zero_le, pow_7, pow_18, pow_40]) (h.first hj)
  have x2 : idxLE (getV 2) (op2 modV (op2 addV (getV 1) (cst (.d (.int 1)))) (getV 4)) [some (.d (stD ss ps)), some (.d (.int (c : Nat))), some (.h M.length), some (.h (M.length + 1)), some (.d (.int (n : Nat))), none, none] (M ++ [.lst (ss.map nD), .lst (ps.map PyData.int)]) = .ok (.d (.int (k : Nat))) (M ++ [.lst (ss.map nD), .lst (ps.map PyData.int)]) :=
    idxLE_a (i := M.length) (ns := ss.map fun s : Nat => (s : Int)) (z := (((c + 1) % n : Nat) : Int)) (by simp only [defM, startE, seqS_a, setS_a, bindS_ok, bindS_er, then_nx, then_rt, then_er, ifS_a, ifK_t, ifK_f, retS_a, dropS_a, asgS_a, asK_a, goG_ok, subT_a, nopS_a, getV_0, getV_s, cst_a, op2_a, o2a_ok, o2b_ok, opT_a, oTa_ok, oTb_ok, consA_a, cAa_ok, cAb_ok, nilA_a, callF_a, cFa_ok, callE_a, cEa_ok, newE_a, nwa_ok, datE_a, dta_ok, dispE_a, tupE_a, tpa_ok, asDs_a, datas, bind_ok, pur_ok, bool_b, leave_d, leave_nx, leave_er, ifE_a, ifa_t, ifa_f, notT_a, nta_ok, andT_a, ana_t, ana_f, orT_a, ora_t, ora_f, tstE_a, tsa_b, andE_a, aEa_t, aEa_f, orE_a, oEa_t, oEa_f, notE_a, nEa_ok, add_ii, sub_ii, gt_ii, lt_ii, ge_ii, le_ii, setT_a, consT_a, cTa_ok, nilT_a, tupT_a, seqT_t, seqT_l, forS_a, List.map_cons, List.map_nil, List.length_cons, List.length_nil, Nat.reduceAdd, Nat.reduceSub, Nat.zero_add, Nat.add_zero, List.replicate, List.cons_append, List.nil_append, List.append_nil, List.getElem?_cons_zero, List.getElem?_cons_succ, List.set_cons_zero, List.set_cons_succ, List.getElem?_nil, Option.map_some, Option.map_none, Option.bind_some, if_true, if_false, ite_true, ite_false, eq_self_iff_true, and_self, and_true, true_and, decide_true, decide_false, Bool.false_eq_true, Bool.not_true, Bool.not_false, sizeLine, Nat.reducePow, Nat.reduceLeDiff, Nat.zero_le, pow_7, pow_18, pow_40]) (by rw [← nats_ints]; exact j_get (k := 0) rfl rfl) (by simp only [defM, startE, seqS_a, setS_a, bindS_ok, bindS_er, then_nx, then_rt, then_er, ifS_a, ifK_t, ifK_f, retS_a, dropS_a, asgS_a, asK_a, goG_ok, subT_a, nopS_a, getV_0, getV_s, cst_a, op2_a, o2a_ok, o2b_ok, opT_a, oTa_ok, oTb_ok, consA_a, cAa_ok, cAb_ok, nilA_a, callF_a, cFa_ok, callE_a, cEa_ok, newE_a, nwa_ok, datE_a, dta_ok, dispE_a, tupE_a, tpa_ok, asDs_a, datas, bind_ok, pur_ok, bool_b, leave_d, leave_nx, leave_er, ifE_a, ifa_t, ifa_f, notT_a, nta_ok, andT_a, ana_t, ana_f, orT_a, ora_t, ora_f, tstE_a, tsa_b, andE_a, aEa_t, aEa_f, orE_a, oEa_t, oEa_f, notE_a, nEa_ok, add_ii, sub_ii, gt_ii, lt_ii, ge_ii, le_ii, setT_a, consT_a, cTa_ok, nilT_a, tupT_a, seqT_t, seqT_l, forS_a, List.map_cons, List.map_nil, List.length_cons, List.length_nil, Nat.reduceAdd, Nat.reduceSub, Nat.zero_add, Nat.add_zero, List.replicate, List.cons_append, List.nil_append, List.append_nil, List.getElem?_cons_zero, List.getElem?_cons_succ, List.set_cons_zero, List.set_cons_succ, List.getElem?_nil, Option.map_some, Option.map_none, Option.bind_some, if_true, if_false, ite_true, ite_false, eq_self_iff_true, and_self, and_true, true_and, decide_true, decide_false, Bool.false_eq_true, Bool.not_true, Bool.not_false, sizeLine, Nat.reducePow, Nat.reduceLeDiff, Nat.zero_le, pow_7, pow_18, pow_40, mod_ii (show (0 : Int) < (n : Nat) by omega)]; simp) (h.first hk)
  have y1 : ixV (.h (M.length + 1)) (.d (.int (j : Nat))) (M ++ [.lst (ss.map nD), .lst (ps.map PyData.int)]) = _ := jx (k := 1) rfl rfl (getI hp)
  by_cases h0 : p = 0
  · refine .inl ⟨⟨j, hj, by rw [hp, h0]⟩, ?_⟩
    unfold m_moved g_moved
    simp only [defM, startE, seqS_a, setS_a, bindS_ok, bindS_er, then_nx, then_rt, then_er, ifS_a, ifK_t, ifK_f, retS_a, dropS_a, asgS_a, asK_a, goG_ok, subT_a, nopS_a, getV_0, getV_s, cst_a, op2_a, o2a_ok, o2b_ok, opT_a, oTa_ok, oTb_ok, consA_a, cAa_ok, cAb_ok, nilA_a, callF_a, cFa_ok, callE_a, cEa_ok, newE_a, nwa_ok, datE_a, dta_ok, dispE_a, tupE_a, tpa_ok, asDs_a, datas, bind_ok, pur_ok, bool_b, leave_d, leave_nx, leave_er, ifE_a, ifa_t, ifa_f, notT_a, nta_ok, andT_a, ana_t, ana_f, orT_a, ora_t, ora_f, tstE_a, tsa_b, andE_a, aEa_t, aEa_f, orE_a, oEa_t, oEa_f, notE_a, nEa_ok, add_ii, sub_ii, gt_ii, lt_ii, ge_ii, le_ii, setT_a, consT_a, cTa_ok, nilT_a, tupT_a, seqT_t, seqT_l, forS_a, List.map_cons, List.map_nil, List.length_cons, List.length_nil, Nat.reduceAdd, Nat.reduceSub, Nat.zero_add, Nat.add_zero, List.replicate, List.cons_append, List.nil_append, List.append_nil, List.getElem?_cons_zero, List.getElem?_cons_succ, List.set_cons_zero, List.set_cons_succ, List.getElem?_nil, Option.map_some, Option.map_none, Option.bind_some, if_true, if_false, ite_true, ite_false, eq_self_iff_true, and_self, and_true, true_and, decide_true, decide_false, Bool.false_eq_true, Bool.not_true, Bool.not_false, sizeLine, Nat.reducePow, Nat.reduceLeDiff, Nat.zero_le, pow_7, pow_18, pow_40, par3S_a, parS_a, hl0, hl1, i0, len_t, List.length_map, hl, List.append_assoc, List.length_append, x1, x2, y1, eq_ii, h0, beq_self_eq_true]
    rw [List.take_append_of_le_length (by simp), take_all (by simp)]
  · refine .inr ⟨_, _, ⟨j, k, p, q, hj, hk, hp, by omega, hq, rfl, rfl⟩, ?_⟩
    have hb : (p == 0) = false := by simp [h0]
    have y2 : ixV (.h M.length) (.d (.int (k : Nat))) (M ++ [.lst (ss.map nD), .lst (ps.map PyData.int)]) = _ := jx (k := 0) rfl rfl (getN hk)
    have y3 : ixV (.h M.length) (.d (.int (j : Nat))) (M ++ [.lst (ss.map nD), .lst (ps.map PyData.int)]) = _ := jx (k := 0) rfl rfl (getN hj)
    have p1 : ∀ e : Env, putV (.h M.length) (.d (.int (j : Nat))) (.d (nD ((c + 1) % n))) e (M ++ [.lst (ss.map nD), .lst (ps.map PyData.int)]) = _ := fun e => jput (k := 0) rfl rfl (by simpa using lj)
    have p2 : ∀ e : Env, putV (.h M.length) (.d (.int (k : Nat))) (.d (nD c)) e (M ++ [.lst ((ss.map nD).set j (nD ((c + 1) % n))), .lst (ps.map PyData.int)]) = _ := fun e => jput (k := 0) rfl rfl (by simpa using lk)
    have f1 : freeze 2 [some (.d (stD ss ps)), some (.d (.int (c : Nat))), some (.h M.length), some (.h (M.length + 1)), some (.d (.int (n : Nat))), some (.d (.int (j : Nat))), some (.d (.int (k : Nat)))] (M ++ [.lst (((ss.map nD).set j (nD ((c + 1) % n))).set k (nD c)), .lst (ps.map PyData.int)]) = _ := jfz (k := 0) rfl rfl rfl
    have y4 : ixV (.h (M.length + 1)) (.d (.int (j : Nat))) (M ++ [.gone, .lst (ps.map PyData.int)]) = _ := jx (k := 1) rfl rfl (getI hp)
    have y5 : ixV (.h (M.length + 1)) (.d (.int (k : Nat))) (M ++ [.gone, .lst (ps.map PyData.int)]) = _ := jx (k := 1) rfl rfl (getI hq)
    have p3 : ∀ e : Env, putV (.h (M.length + 1)) (.d (.int (j : Nat))) (.d (.int (p - 1))) e (M ++ [.gone, .lst (ps.map PyData.int)]) = _ := fun e => jput (k := 1) rfl rfl (by simpa using lpj)
    have p4 : ∀ e : Env, putV (.h (M.length + 1)) (.d (.int (k : Nat))) (.d (.int (q + 1))) e (M ++ [.gone, .lst ((ps.map PyData.int).set j (.int (p - 1)))]) = _ := fun e => jput (k := 1) rfl rfl (by simpa using lpk)
    have f2 : freeze 3 [some (.d (stD ss ps)), some (.d (.int (c : Nat))), some (.d (.list (((ss.map nD).set j (nD ((c + 1) % n))).set k (nD c)))), some (.h (M.length + 1)), some (.d (.int (n : Nat))), some (.d (.int (j : Nat))), some (.d (.int (k : Nat)))] (M ++ [.gone, .lst (((ps.map PyData.int).set j (.int (p - 1))).set k (.int (q + 1)))]) = _ := jfz (k := 1) rfl rfl rfl
    unfold m_moved g_moved
    simp only [defM, startE, seqS_a, setS_a, bindS_ok, bindS_er, then_nx, then_rt, then_er, ifS_a, ifK_t, ifK_f, retS_a, dropS_a, asgS_a, asK_a, goG_ok, subT_a, nopS_a, getV_0, getV_s, cst_a, op2_a, o2a_ok, o2b_ok, opT_a, oTa_ok, oTb_ok, consA_a, cAa_ok, cAb_ok, nilA_a, callF_a, cFa_ok, callE_a, cEa_ok, newE_a, nwa_ok, datE_a, dta_ok, dispE_a, tupE_a, tpa_ok, asDs_a, datas, bind_ok, pur_ok, bool_b, leave_d, leave_nx, leave_er, ifE_a, ifa_t, ifa_f, notT_a, nta_ok, andT_a, ana_t, ana_f, orT_a, ora_t, ora_f, tstE_a, tsa_b, andE_a, aEa_t, aEa_f, orE_a, oEa_t, oEa_f, notE_a, nEa_ok, add_ii, sub_ii, gt_ii, lt_ii, ge_ii, le_ii, setT_a, consT_a, cTa_ok, nilT_a, tupT_a, seqT_t, seqT_l, forS_a, List.map_cons, List.map_nil, List.length_cons, List.length_nil, Nat.reduceAdd, Nat.reduceSub, Nat.zero_add, Nat.add_zero, List.replicate, List.cons_append, List.nil_append, List.append_nil, List.getElem?_cons_zero, List.getElem?_cons_succ, List.set_cons_zero, List.set_cons_succ, List.getElem?_nil, Option.map_some, Option.map_none, Option.bind_some, if_true, if_false, ite_true, ite_false, eq_self_iff_true, and_self, and_true, true_and, decide_true, decide_false, Bool.false_eq_true, Bool.not_true, Bool.not_false, sizeLine, Nat.reducePow, Nat.reduceLeDiff, Nat.zero_le, pow_7, pow_18, pow_40, par3S_a, parS_a, hl0, hl1, i0, len_t, List.length_map, hl, List.append_assoc, List.length_append, x1, x2, y1, eq_ii, hb, y2, y3, p1, p2, f1, y4, y5, p3, p4, f2, tup_l]
    rw [List.take_append_of_le_length (by simp), take_all (by simp)]
    unfold stD
    rw [set_nD, set_nD, setI, setI]
end C
end DL

namespace DL
open PySem PySem.Spec L2
def nga (r : Res Vl) : Res Vl := r.bind fun x M1 => match x with
  | .d (.int i) => .ok (.d (.int (-i))) M1
  | _ => .st
theorem negE_a {f : Ev} {e : Env} {M : Mem} : negE f e M = nga (f e M) := by unfold negE nga; rfl
theorem nga_ok {i : Int} {M : Mem} : nga (.ok (.d (.int i)) M) = .ok (.d (.int (-i))) M := Eq.trans rfl rfl
theorem catE_at {f1 f2 : Ev} {e : Env} {M M1 M2 : Mem} {x y : Vl} {xs ys : List PyData} (h1 : f1 e M = .ok x M1) (h2 : f2 e M1 = .ok y M2) (hx : lstOf M2 x = some xs) (hy : lstOf M2 y = some ys) (hl : xs.length + ys.length ≤ sizeLine) : catE f1 f2 e M = .ok (xs ++ ys) M2 := by
  unfold catE
  rw [h1, bind_ok, h2, bind_ok]
  simp only [hx, hy]
  rw [if_pos hl]
def cta (f2 : Ev) (e : Env) (r : Res Vl) : Res (List PyData) := r.bind fun x M1 => (f2 e M1).bind fun y M2 => match lstOf M2 x, lstOf M2 y with
  | some xs, some ys => if xs.length + ys.length ≤ sizeLine then .ok (xs ++ ys) M2 else .st
  | _, _ => .st
theorem catE_a {f1 f2 : Ev} {e : Env} {M : Mem} : catE f1 f2 e M = cta f2 e (f1 e M) := by unfold catE cta; rfl
def ctb (xs : List PyData) (r : Res Vl) : Res (List PyData) := r.bind fun y M2 => match lstOf M2 (.d (.list xs)), lstOf M2 y with
  | some xs, some ys => if xs.length + ys.length ≤ sizeLine then .ok (xs ++ ys) M2 else .st
  | _, _ => .st
theorem cta_l {f2 : Ev} {e : Env} {M1 : Mem} {xs : List PyData} : cta f2 e (.ok (.d (.list xs)) M1) = ctb xs (f2 e M1) := Eq.trans rfl rfl
theorem ctb_l {M1 : Mem} {xs ys : List PyData} : ctb xs (.ok (.d (.list ys)) M1) = if xs.length + ys.length ≤ sizeLine then .ok (xs ++ ys) M1 else .st := Eq.trans rfl rfl
theorem isnt_n {x : PyData} {M : Mem} : isntV (.d x) (.d .none) M = .ok (.d (.bool (!C.noneB x))) M := by cases x <;> rfl
theorem ixN_last {n : Nat} (h : 0 < n) : ixN n (-1) = some (n - 1) := by
  unfold ixN
  rw [if_neg (by omega), if_pos (by omega)]
  congr 1
  omega
theorem atI_last {α : Type} {xs : List α} {x : α} : atI (xs ++ [x]) (-1) = some x := by
  unfold atI
  rw [ixN_last (by simp)]
  simp
theorem sum_h {M : Mem} {i : Nat} {ns : List Int} (h : M[i]? = some (.lst (intsD ns))) : sumTV [.h i] M = .ok (.d (.int ns.sum)) M := by
  simp [sumTV, sumV, rdOf, lstOf, h, intsOf_map]
theorem step_e {n a b : Nat} (h : a ≤ b) : n + a ≤ n + b := by omega
namespace C
/-- a seat at which an exchange is possible -/
def canB (ss : List Nat) (ps : List Int) (x : PyData) : Bool := match m_moved [.d (stD ss ps), .d x] [] with
  | .ok (.d .none) _ => false
  | _ => true
theorem canB_iff {n c : Nat} {ss : List Nat} {ps : List Int} (h : Stt n ss ps) (h2 : 2 ≤ n) (hn : n ≤ 1000) (hc : c < n) :
    (canB ss ps (nD c) = false ∧ Stuck ss ps c ∧ ∀ M, m_moved [.d (stD ss ps), .d (.int (c : Nat))] M = .ok (.d .none) M) ∨ (canB ss ps (nD c) = true ∧ ∃ ss' ps', Ex n ss ps c ss' ps' ∧ ∀ M, m_moved [.d (stD ss ps), .d (.int (c : Nat))] M = .ok (.d (stD ss' ps')) M) := by
  have key : ∀ M : Mem, (Stuck ss ps c ∧ m_moved [.d (stD ss ps), .d (.int (c : Nat))] M = .ok (.d .none) M) ∨ ∃ ss' ps', Ex n ss ps c ss' ps' ∧ m_moved [.d (stD ss ps), .d (.int (c : Nat))] M = .ok (.d (stD ss' ps')) M := fun M => moved_ok (M := M) h h2 hn hc
  have exu : ∀ {s1 s2 : List Nat} {p1 p2 : List Int}, Ex n ss ps c s1 p1 → Ex n ss ps c s2 p2 → s1 = s2 ∧ p1 = p2 := by
    rintro s1 s2 p1 p2 ⟨j, k, p, q, a1, a2, a3, a4, a5, rfl, rfl⟩ ⟨j', k', p', q', b1, b2, b3, b4, b5, rfl, rfl⟩
    have hj := h.inj a1 b1
    have hk := h.inj a2 b2
    subst hj hk
    rw [a3] at b3; cases b3
    rw [a5] at b5; cases b5
    exact ⟨rfl, rfl⟩
  have stx : ∀ {s1 : List Nat} {p1 : List Int}, Ex n ss ps c s1 p1 → Stuck ss ps c → False := by
    rintro s1 p1 ⟨j, k, p, q, a1, a2, a3, a4, a5, rfl, rfl⟩ ⟨j', b1, b2⟩
    have hj := h.inj a1 b1
    subst hj
    rw [a3] at b2; cases b2
    omega
  rcases key [] with ⟨hs, e⟩ | ⟨s1, p1, x1, e⟩
  · refine .inl ⟨by unfold canB; rw [e], hs, fun M => ?_⟩
    rcases key M with ⟨_, e'⟩ | ⟨_, _, x, _⟩
    · exact e'
    · exact (stx x hs).elim
  · refine .inr ⟨by unfold canB; rw [e], s1, p1, x1, fun M => ?_⟩
    rcases key M with ⟨hs, _⟩ | ⟨s2, p2, x2, e'⟩
    · exact (stx x1 hs).elim
    · obtain ⟨rfl, rfl⟩ := exu x1 x2
      exact e'
theorem can_stt {n : Nat} {ss : List Nat} {ps : List Int} {d : PyData} (h : d ∈ ((List.range n).map nD).filter (canB ss ps)) : ∃ c, c < n ∧ d = nD c ∧ canB ss ps (nD c) = true := by
  obtain ⟨h1, h2⟩ := List.mem_filter.mp h
  obtain ⟨c, hc, rfl⟩ := List.mem_map.mp h1
  exact ⟨c, List.mem_range.mp hc, rfl, h2⟩
theorem random_row_ok {n0 i n mx : Nat} {M : Mem} {o : MO} {ss : List Nat} {ps : List Int} (hM : M[i]? = some o) (hB : Bx n0 o) (hn0 : n0 + 512 * (mx + 1) ≤ 2 ^ 44) (h : Stt n ss ps) (h2 : 2 ≤ n) (hn : n ≤ 1000) (hmx : mx ≤ 1000) :
    ∃ cs ss' ps' o', m_random_row [.h i, .d (stD ss ps), .d (.int (mx : Nat))] M = .ok (.d (.tuple [.list (cs.map nD), stD ss' ps'])) (M.set i o') ∧ Bx (n0 + 512 * (mx + 1)) o' ∧ Run n ss ps cs ss' ps' ∧ cs.length ≤ mx := by
  have hsz : sizeLine = 2 ^ 24 := rfl
  have hi := lt_of_get hM
  have hM1 : (M ++ [.lst []])[i]? = some o := by rw [m1_get hi]; exact hM
  obtain ⟨v, o1, e1, B1, k1, k2⟩ := take10 (sp := (mx : Int) + 1) hM1 hB (by omega) (by omega) (by omega)
  obtain ⟨t, rfl⟩ := Int.eq_ofNat_of_zero_le k1
  have ht : t ≤ mx := by omega
  rw [m1_set hi] at e1
  have hr : rngI1 (callF 2 (C.m_take 10) (consA (getV 0) (consA (op2 addV (getV 2) (cst (.d (.int 1)))) nilA))) [some (.h i), some (.d (stD ss ps)), some (.d (.int (mx : Nat))), some (.h M.length), none, none, none] (M ++ [.lst []]) = .ok (rangeD 0 (t : Int)) (M.set i o1 ++ [.lst []]) := rngI1_a (by simp only [defM, startE, seqS_a, setS_a, bindS_ok, bindS_er, then_nx, then_rt, then_er, ifS_a, ifK_t, ifK_f, retS_a, dropS_a, asgS_a, asK_a, goG_ok, subT_a, nopS_a, getV_0, getV_s, cst_a, op2_a, o2a_ok, o2b_ok, opT_a, oTa_ok, oTb_ok, consA_a, cAa_ok, cAb_ok, nilA_a, callF_a, cFa_ok, callE_a, cEa_ok, newE_a, nwa_ok, datE_a, dta_ok, dispE_a, tupE_a, tpa_ok, asDs_a, datas, bind_ok, pur_ok, bool_b, leave_d, leave_nx, leave_er, ifE_a, ifa_t, ifa_f, notT_a, nta_ok, andT_a, ana_t, ana_f, orT_a, ora_t, ora_f, tstE_a, tsa_b, andE_a, aEa_t, aEa_f, orE_a, oEa_t, oEa_f, notE_a, nEa_ok, add_ii, sub_ii, gt_ii, lt_ii, ge_ii, le_ii, setT_a, consT_a, cTa_ok, nilT_a, tupT_a, seqT_t, seqT_l, forS_a, List.map_cons, List.map_nil, List.length_cons, List.length_nil, Nat.reduceAdd, Nat.reduceSub, Nat.zero_add, Nat.add_zero, List.replicate, List.cons_append, List.nil_append, List.append_nil, List.getElem?_cons_zero, List.getElem?_cons_succ, List.set_cons_zero, List.set_cons_succ, List.getElem?_nil, Option.map_some, Option.map_none, Option.bind_some, if_true, if_false, ite_true, ite_false, eq_self_iff_true, and_self, and_true, true_and, decide_true, decide_false, Bool.false_eq_true, Bool.not_true, Bool.not_false, sizeLine, Nat.reducePow, Nat.reduceLeDiff, Nat.zero_le, pow_7, pow_18, pow_40, e1]) (by constructor <;> omega)
  obtain ⟨e', M', el, cs, s1, p1, o2, v4, v5, v6, rfl, rfl, B2, hrun, hlen⟩ := forL_all (γ := setT 4) (g := (seqS (setS 5 (datE (lcE [6] (rngI1 (callE lenV (consA (op2 ixV (getV 1) (cst (.d (.int 0)))) nilA))) (setT 6) (opT isntV (callF 2 C.m_moved (consA (getV 1) (consA (getV 6) nilA))) (cst (.d .none))) (getV 6)))) (ifS (opT neV (getV 5) (datE (dispE nilA))) (seqS (dropS (methE appM (getV 3) (consA (callF 2 C.m_of (consA (getV 0) (consA (getV 5) nilA))) nilA))) (setS 1 (callF 2 C.m_moved (consA (getV 1) (consA (op2 ixV (getV 3) (negE (cst (.d (.int 1))))) nilA))))) nopS)))
    (fun k e N => ∃ (cs s1 : List Nat) (p1 : List Int) (o' : MO) (v4 v5 v6 : Option Vl), e = [some (.h i), some (.d (stD s1 p1)), some (.d (.int (mx : Nat))), some (.h M.length), v4, v5, v6] ∧ N = M.set i o' ++ [.lst (cs.map nD)] ∧ Bx (n0 + 512 * (k + 1)) o' ∧ Run n ss ps cs s1 p1 ∧ cs.length ≤ k)
    (xs := rangeD 0 (t : Int)) (e := [some (.h i), some (.d (stD ss ps)), some (.d (.int (mx : Nat))), some (.h M.length), none, none, none]) (M := M.set i o1 ++ [.lst []])
    (by
      rintro k z e N hz ⟨cs, s1, p1, o', v4, v5, v6, rfl, rfl, B, hrun, hlen⟩
      have hk : k < t := by
        have := lt_of_getL hz
        rw [rangeD_nat] at this
        simpa using this
      obtain ⟨hs, _⟩ := hrun.ok h h2
      have hsl := hs.slen
      have i0 : ∀ N : Mem, ixV (.d (stD s1 p1)) (.d (.int 0)) N = .ok (.d (.tuple (s1.map nD))) N := fun N => ixV_t rfl
      have hlc : ∀ v5 v6 : Option Vl, lcE [6] (rngI1 (callE lenV (consA (op2 ixV (getV 1) (cst (.d (.int 0)))) nilA))) (setT 6) (opT isntV (callF 2 C.m_moved (consA (getV 1) (consA (getV 6) nilA))) (cst (.d .none))) (getV 6) [some (.h i), some (.d (stD s1 p1)), some (.d (.int (mx : Nat))), some (.h M.length), some (.d z), v5, v6] (M.set i o' ++ [.lst (cs.map nD)]) = .ok (((List.range n).map nD).filter (canB s1 p1)) (M.set i o' ++ [.lst (cs.map nD)]) := fun v5 v6 => by
        rw [lcE_at (rngI1_a (M1 := M.set i o' ++ [.lst (cs.map nD)]) (i := (n : Int)) (by simp only [defM, startE, seqS_a, setS_a, bindS_ok, bindS_er, then_nx, then_rt, then_er, ifS_a, ifK_t, ifK_f, retS_a, dropS_a, asgS_a, asK_a, goG_ok, subT_a, nopS_a, getV_0, getV_s, cst_a, op2_a, o2a_ok, o2b_ok, opT_a, oTa_ok, oTb_ok, consA_a, cAa_ok, cAb_ok, nilA_a, callF_a, cFa_ok, callE_a, cEa_ok, newE_a, nwa_ok, datE_a, dta_ok, dispE_a, tupE_a, tpa_ok, asDs_a, datas, bind_ok, pur_ok, bool_b, leave_d, leave_nx, leave_er, ifE_a, ifa_t, ifa_f, notT_a, nta_ok, andT_a, ana_t, ana_f, orT_a, ora_t, ora_f, tstE_a, tsa_b, andE_a, aEa_t, aEa_f, orE_a, oEa_t, oEa_f, notE_a, nEa_ok, add_ii, sub_ii, gt_ii, lt_ii, ge_ii, le_ii, setT_a, consT_a, cTa_ok, nilT_a, tupT_a, seqT_t, seqT_l, forS_a, List.map_cons, List.map_nil, List.length_cons, List.length_nil, Nat.reduceAdd, Nat.reduceSub, Nat.zero_add, Nat.add_zero, List.replicate, List.cons_append, List.nil_append, List.append_nil, List.getElem?_cons_zero, List.getElem?_cons_succ, List.set_cons_zero, List.set_cons_succ, List.getElem?_nil, Option.map_some, Option.map_none, Option.bind_some, if_true, if_false, ite_true, ite_false, eq_self_iff_true, and_self, and_true, true_and, decide_true, decide_false, Bool.false_eq_true, Bool.not_true, Bool.not_false, sizeLine, Nat.reducePow, Nat.reduceLeDiff, Nat.zero_le, pow_7, pow_18, pow_40, i0, len_t, List.length_map, hsl]) (by omega)), rangeD_nat]
        rw [lcL_filter (canB s1 p1) id _ _ (by simp; omega) (fun x hx => by
          obtain ⟨c, hc, rfl⟩ := List.mem_map.mp hx
          have hc := List.mem_range.mp hc
          refine ⟨[some (.h i), some (.d (stD s1 p1)), some (.d (.int (mx : Nat))), some (.h M.length), some (.d z), v5, some (.d (.int (c : Nat)))], rfl, ?_, fun _ => ?_⟩
          · rcases canB_iff hs h2 hn hc with ⟨hb, _, e⟩ | ⟨hb, s2, p2, _, e⟩
            · have hb : canB s1 p1 (.int (c : Nat)) = false := hb
              simp only [defM, startE, seqS_a, setS_a, bindS_ok, bindS_er, then_nx, then_rt, then_er, ifS_a, ifK_t, ifK_f, retS_a, dropS_a, asgS_a, asK_a, goG_ok, subT_a, nopS_a, getV_0, getV_s, cst_a, op2_a, o2a_ok, o2b_ok, opT_a, oTa_ok, oTb_ok, consA_a, cAa_ok, cAb_ok, nilA_a, callF_a, cFa_ok, callE_a, cEa_ok, newE_a, nwa_ok, datE_a, dta_ok, dispE_a, tupE_a, tpa_ok, asDs_a, datas, bind_ok, pur_ok, bool_b, leave_d, leave_nx, leave_er, ifE_a, ifa_t, ifa_f, notT_a, nta_ok, andT_a, ana_t, ana_f, orT_a, ora_t, ora_f, tstE_a, tsa_b, andE_a, aEa_t, aEa_f, orE_a, oEa_t, oEa_f, notE_a, nEa_ok, add_ii, sub_ii, gt_ii, lt_ii, ge_ii, le_ii, setT_a, consT_a, cTa_ok, nilT_a, tupT_a, seqT_t, seqT_l, forS_a, List.map_cons, List.map_nil, List.length_cons, List.length_nil, Nat.reduceAdd, Nat.reduceSub, Nat.zero_add, Nat.add_zero, List.replicate, List.cons_append, List.nil_append, List.append_nil, List.getElem?_cons_zero, List.getElem?_cons_succ, List.set_cons_zero, List.set_cons_succ, List.getElem?_nil, Option.map_some, Option.map_none, Option.bind_some, if_true, if_false, ite_true, ite_false, eq_self_iff_true, and_self, and_true, true_and, decide_true, decide_false, Bool.false_eq_true, Bool.not_true, Bool.not_false, sizeLine, Nat.reducePow, Nat.reduceLeDiff, Nat.zero_le, pow_7, pow_18, pow_40, e, isnt_n, noneB, hb]
            · have hb : canB s1 p1 (.int (c : Nat)) = true := hb
              simp only [defM, startE, seqS_a, setS_a, bindS_ok, bindS_er, then_nx, then_rt, then_er, ifS_a, ifK_t, ifK_f, retS_a, dropS_a, asgS_a, asK_a, goG_ok, subT_a, nopS_a, getV_0, getV_s, cst_a, op2_a, o2a_ok, o2b_ok, opT_a, oTa_ok, oTb_ok, consA_a, cAa_ok, cAb_ok, nilA_a, callF_a, cFa_ok, callE_a, cEa_ok, newE_a, nwa_ok, datE_a, dta_ok, dispE_a, tupE_a, tpa_ok, asDs_a, datas, bind_ok, pur_ok, bool_b, leave_d, leave_nx, leave_er, ifE_a, ifa_t, ifa_f, notT_a, nta_ok, andT_a, ana_t, ana_f, orT_a, ora_t, ora_f, tstE_a, tsa_b, andE_a, aEa_t, aEa_f, orE_a, oEa_t, oEa_f, notE_a, nEa_ok, add_ii, sub_ii, gt_ii, lt_ii, ge_ii, le_ii, setT_a, consT_a, cTa_ok, nilT_a, tupT_a, seqT_t, seqT_l, forS_a, List.map_cons, List.map_nil, List.length_cons, List.length_nil, Nat.reduceAdd, Nat.reduceSub, Nat.zero_add, Nat.add_zero, List.replicate, List.cons_append, List.nil_append, List.append_nil, List.getElem?_cons_zero, List.getElem?_cons_succ, List.set_cons_zero, List.set_cons_succ, List.getElem?_nil, Option.map_some, Option.map_none, Option.bind_some, if_true, if_false, ite_true, ite_false, eq_self_iff_true, and_self, and_true, true_and, decide_true, decide_false, Bool.false_eq_true, Bool.not_true, Bool.not_false, sizeLine, Nat.reducePow, Nat.reduceLeDiff, Nat.zero_le, pow_7, pow_18, pow_40, e, isnt_n, noneB, hb]
          · simp only [defM, startE, seqS_a, setS_a, bindS_ok, bindS_er, then_nx, then_rt, then_er, ifS_a, ifK_t, ifK_f, retS_a, dropS_a, asgS_a, asK_a, goG_ok, subT_a, nopS_a, getV_0, getV_s, cst_a, op2_a, o2a_ok, o2b_ok, opT_a, oTa_ok, oTb_ok, consA_a, cAa_ok, cAb_ok, nilA_a, callF_a, cFa_ok, callE_a, cEa_ok, newE_a, nwa_ok, datE_a, dta_ok, dispE_a, tupE_a, tpa_ok, asDs_a, datas, bind_ok, pur_ok, bool_b, leave_d, leave_nx, leave_er, ifE_a, ifa_t, ifa_f, notT_a, nta_ok, andT_a, ana_t, ana_f, orT_a, ora_t, ora_f, tstE_a, tsa_b, andE_a, aEa_t, aEa_f, orE_a, oEa_t, oEa_f, notE_a, nEa_ok, add_ii, sub_ii, gt_ii, lt_ii, ge_ii, le_ii, setT_a, consT_a, cTa_ok, nilT_a, tupT_a, seqT_t, seqT_l, forS_a, List.map_cons, List.map_nil, List.length_cons, List.length_nil, Nat.reduceAdd, Nat.reduceSub, Nat.zero_add, Nat.add_zero, List.replicate, List.cons_append, List.nil_append, List.append_nil, List.getElem?_cons_zero, List.getElem?_cons_succ, List.set_cons_zero, List.set_cons_succ, List.getElem?_nil, Option.map_some, Option.map_none, Option.bind_some, if_true, if_false, ite_true, ite_false, eq_self_iff_true, and_self, and_true, true_and, decide_true, decide_false, Bool.false_eq_true, Bool.not_true, Bool.not_false, sizeLine, Nat.reducePow, Nat.reduceLeDiff, Nat.zero_le, pow_7, pow_18, pow_40, id_eq])]
        rw [List.map_id]
        rfl
      have hcan : ∀ x ∈ ((List.range n).map nD).filter (canB s1 p1), x.canLay0 = true := fun x hx => by
        obtain ⟨c, _, rfl, _⟩ := can_stt hx
        rfl
      generalize hxs : ((List.range n).map nD).filter (canB s1 p1) = xs at *
      have hxl : xs.length ≤ n := by
        rw [← hxs]
        exact Nat.le_trans (List.length_filter_le _ _) (by simp)
      have hne := fun N : Mem => ne_nil (M := N) (a := .d (.list xs)) (xs := xs) rfl hcan
      by_cases hxe : xs = []
      · have hie : xs.isEmpty = true := by rw [hxe]; rfl
        refine ⟨[some (.h i), some (.d (stD s1 p1)), some (.d (.int (mx : Nat))), some (.h M.length), some (.d z), v5, v6], M.set i o' ++ [.lst (cs.map nD)], [some (.h i), some (.d (stD s1 p1)), some (.d (.int (mx : Nat))), some (.h M.length), some (.d z), some (.d (.list xs)), v6], M.set i o' ++ [.lst (cs.map nD)], ?_, ?_, cs, s1, p1, o', _, _, _, rfl, rfl, B.mono (by omega), hrun, by omega⟩
        · simp only [defM, startE, seqS_a, setS_a, bindS_ok, bindS_er, then_nx, then_rt, then_er, ifS_a, ifK_t, ifK_f, retS_a, dropS_a, asgS_a, asK_a, goG_ok, subT_a, nopS_a, getV_0, getV_s, cst_a, op2_a, o2a_ok, o2b_ok, opT_a, oTa_ok, oTb_ok, consA_a, cAa_ok, cAb_ok, nilA_a, callF_a, cFa_ok, callE_a, cEa_ok, newE_a, nwa_ok, datE_a, dta_ok, dispE_a, tupE_a, tpa_ok, asDs_a, datas, bind_ok, pur_ok, bool_b, leave_d, leave_nx, leave_er, ifE_a, ifa_t, ifa_f, notT_a, nta_ok, andT_a, ana_t, ana_f, orT_a, ora_t, ora_f, tstE_a, tsa_b, andE_a, aEa_t, aEa_f, orE_a, oEa_t, oEa_f, notE_a, nEa_ok, add_ii, sub_ii, gt_ii, lt_ii, ge_ii, le_ii, setT_a, consT_a, cTa_ok, nilT_a, tupT_a, seqT_t, seqT_l, forS_a, List.map_cons, List.map_nil, List.length_cons, List.length_nil, Nat.reduceAdd, Nat.reduceSub, Nat.zero_add, Nat.add_zero, List.replicate, List.cons_append, List.nil_append, List.append_nil, List.getElem?_cons_zero, List.getElem?_cons_succ, List.set_cons_zero, List.set_cons_succ, List.getElem?_nil, Option.map_some, Option.map_none, Option.bind_some, if_true, if_false, ite_true, ite_false, eq_self_iff_true, and_self, and_true, true_and, decide_true, decide_false, Bool.false_eq_true, Bool.not_true, Bool.not_false, sizeLine, Nat.reducePow, Nat.reduceLeDiff, Nat.zero_le, pow_7, pow_18, pow_40]
        · simp only [defM, startE, seqS_a, setS_a, bindS_ok, bindS_er, then_nx, then_rt, then_er, ifS_a, ifK_t, ifK_f, retS_a, dropS_a, asgS_a, asK_a, goG_ok, subT_a, nopS_a, getV_0, getV_s, cst_a, op2_a, o2a_ok, o2b_ok, opT_a, oTa_ok, oTb_ok, consA_a, cAa_ok, cAb_ok, nilA_a, callF_a, cFa_ok, callE_a, cEa_ok, newE_a, nwa_ok, datE_a, dta_ok, dispE_a, tupE_a, tpa_ok, asDs_a, datas, bind_ok, pur_ok, bool_b, leave_d, leave_nx, leave_er, ifE_a, ifa_t, ifa_f, notT_a, nta_ok, andT_a, ana_t, ana_f, orT_a, ora_t, ora_f, tstE_a, tsa_b, andE_a, aEa_t, aEa_f, orE_a, oEa_t, oEa_f, notE_a, nEa_ok, add_ii, sub_ii, gt_ii, lt_ii, ge_ii, le_ii, setT_a, consT_a, cTa_ok, nilT_a, tupT_a, seqT_t, seqT_l, forS_a, List.map_cons, List.map_nil, List.length_cons, List.length_nil, Nat.reduceAdd, Nat.reduceSub, Nat.zero_add, Nat.add_zero, List.replicate, List.cons_append, List.nil_append, List.append_nil, List.getElem?_cons_zero, List.getElem?_cons_succ, List.set_cons_zero, List.set_cons_succ, List.getElem?_nil, Option.map_some, Option.map_none, Option.bind_some, if_true, if_false, ite_true, ite_false, eq_self_iff_true, and_self, and_true, true_and, decide_true, decide_false, Bool.false_eq_true, Bool.not_true, Bool.not_false, sizeLine, Nat.reducePow, Nat.reduceLeDiff, Nat.zero_le, pow_7, pow_18, pow_40, hlc, hne, hie]
      · have hie : xs.isEmpty = false := by cases xs with
          | nil => exact absurd rfl hxe
          | cons _ _ => rfl
        obtain ⟨d, o3, e3, B3, hd⟩ := C.of_ok (M := M.set i o' ++ [.lst (cs.map nD)]) (ga_get hi) B (by omega) hxe (by omega)
        rw [ga_set hi] at e3
        rw [← hxs] at hd
        obtain ⟨c, hc, rfl, hcb⟩ := can_stt hd
        obtain ⟨s2, p2, hex, e4⟩ : ∃ ss' ps', Ex n s1 p1 c ss' ps' ∧ ∀ M, m_moved [.d (stD s1 p1), .d (.int (c : Nat))] M = .ok (.d (stD ss' ps')) M := by
          rcases canB_iff hs h2 hn hc with ⟨hb, _⟩ | ⟨_, x⟩
          · rw [hcb] at hb; cases hb
          · exact x
        have hml : M.length = (M.set i o3).length := by simp
        have app := app_at (i := M.length) (xs := cs.map nD) (y := nD c) (M := M.set i o3 ++ [.lst (cs.map nD)]) (by simp; omega)
        rw [m1_sa hml] at app
        have hme : methE appM (getV 3) (consA (callF 2 C.m_of (consA (getV 0) (consA (getV 5) nilA))) nilA) [some (.h i), some (.d (stD s1 p1)), some (.d (.int (mx : Nat))), some (.h M.length), some (.d z), some (.d (.list xs)), v6] (M.set i o' ++ [.lst (cs.map nD)]) = .ok (.d .none) (M.set i o3 ++ [.lst (cs.map nD ++ [nD c])]) := by
          rw [methE_at (i := M.length) (xs0 := cs.map nD) (xs := cs.map nD) (ys := [.d (nD c)]) (M2 := M.set i o3 ++ [.lst (cs.map nD)]) (by simp only [defM, startE, seqS_a, setS_a, bindS_ok, bindS_er, then_nx, then_rt, then_er, ifS_a, ifK_t, ifK_f, retS_a, dropS_a, asgS_a, asK_a, goG_ok, subT_a, nopS_a, getV_0, getV_s, cst_a, op2_a, o2a_ok, o2b_ok, opT_a, oTa_ok, oTb_ok, consA_a, cAa_ok, cAb_ok, nilA_a, callF_a, cFa_ok, callE_a, cEa_ok, newE_a, nwa_ok, datE_a, dta_ok, dispE_a, tupE_a, tpa_ok, asDs_a, datas, bind_ok, pur_ok, bool_b, leave_d, leave_nx, leave_er, ifE_a, ifa_t, ifa_f, notT_a, nta_ok, andT_a, ana_t, ana_f, orT_a, ora_t, ora_f, tstE_a, tsa_b, andE_a, aEa_t, aEa_f, orE_a, oEa_t, oEa_f, notE_a, nEa_ok, add_ii, sub_ii, gt_ii, lt_ii, ge_ii, le_ii, setT_a, consT_a, cTa_ok, nilT_a, tupT_a, seqT_t, seqT_l, forS_a, List.map_cons, List.map_nil, List.length_cons, List.length_nil, Nat.reduceAdd, Nat.reduceSub, Nat.zero_add, Nat.add_zero, List.replicate, List.cons_append, List.nil_append, List.append_nil, List.getElem?_cons_zero, List.getElem?_cons_succ, List.set_cons_zero, List.set_cons_succ, List.getElem?_nil, Option.map_some, Option.map_none, Option.bind_some, if_true, if_false, ite_true, ite_false, eq_self_iff_true, and_self, and_true, true_and, decide_true, decide_false, Bool.false_eq_true, Bool.not_true, Bool.not_false, sizeLine, Nat.reducePow, Nat.reduceLeDiff, Nat.zero_le, pow_7, pow_18, pow_40]) (m1_a (by simp)) (by simp only [defM, startE, seqS_a, setS_a, bindS_ok, bindS_er, then_nx, then_rt, then_er, ifS_a, ifK_t, ifK_f, retS_a, dropS_a, asgS_a, asK_a, goG_ok, subT_a, nopS_a, getV_0, getV_s, cst_a, op2_a, o2a_ok, o2b_ok, opT_a, oTa_ok, oTb_ok, consA_a, cAa_ok, cAb_ok, nilA_a, callF_a, cFa_ok, callE_a, cEa_ok, newE_a, nwa_ok, datE_a, dta_ok, dispE_a, tupE_a, tpa_ok, asDs_a, datas, bind_ok, pur_ok, bool_b, leave_d, leave_nx, leave_er, ifE_a, ifa_t, ifa_f, notT_a, nta_ok, andT_a, ana_t, ana_f, orT_a, ora_t, ora_f, tstE_a, tsa_b, andE_a, aEa_t, aEa_f, orE_a, oEa_t, oEa_f, notE_a, nEa_ok, add_ii, sub_ii, gt_ii, lt_ii, ge_ii, le_ii, setT_a, consT_a, cTa_ok, nilT_a, tupT_a, seqT_t, seqT_l, forS_a, List.map_cons, List.map_nil, List.length_cons, List.length_nil, Nat.reduceAdd, Nat.reduceSub, Nat.zero_add, Nat.add_zero, List.replicate, List.cons_append, List.nil_append, List.append_nil, List.getElem?_cons_zero, List.getElem?_cons_succ, List.set_cons_zero, List.set_cons_succ, List.getElem?_nil, Option.map_some, Option.map_none, Option.bind_some, if_true, if_false, ite_true, ite_false, eq_self_iff_true, and_self, and_true, true_and, decide_true, decide_false, Bool.false_eq_true, Bool.not_true, Bool.not_false, sizeLine, Nat.reducePow, Nat.reduceLeDiff, Nat.zero_le, pow_7, pow_18, pow_40, e3]) (m1_a (by simp)), app]
          rfl
        have hix : ixV (.h M.length) (.d (.int (-1))) (M.set i o3 ++ [.lst (cs.map nD ++ [nD c])]) = .ok (.d (nD c)) (M.set i o3 ++ [.lst (cs.map nD ++ [nD c])]) := ixV_h (m1_a (by simp)) atI_last
        refine ⟨[some (.h i), some (.d (stD s1 p1)), some (.d (.int (mx : Nat))), some (.h M.length), some (.d z), v5, v6], M.set i o' ++ [.lst (cs.map nD)], [some (.h i), some (.d (stD s2 p2)), some (.d (.int (mx : Nat))), some (.h M.length), some (.d z), some (.d (.list xs)), v6], M.set i o3 ++ [.lst (cs.map nD ++ [nD c])], ?_, ?_, cs ++ [c], s2, p2, o3, _, _, _, rfl, by rw [List.map_append]; rfl, B3.mono (by omega), hrun.snoc hex, by simp; omega⟩
        · simp only [defM, startE, seqS_a, setS_a, bindS_ok, bindS_er, then_nx, then_rt, then_er, ifS_a, ifK_t, ifK_f, retS_a, dropS_a, asgS_a, asK_a, goG_ok, subT_a, nopS_a, getV_0, getV_s, cst_a, op2_a, o2a_ok, o2b_ok, opT_a, oTa_ok, oTb_ok, consA_a, cAa_ok, cAb_ok, nilA_a, callF_a, cFa_ok, callE_a, cEa_ok, newE_a, nwa_ok, datE_a, dta_ok, dispE_a, tupE_a, tpa_ok, asDs_a, datas, bind_ok, pur_ok, bool_b, leave_d, leave_nx, leave_er, ifE_a, ifa_t, ifa_f, notT_a, nta_ok, andT_a, ana_t, ana_f, orT_a, ora_t, ora_f, tstE_a, tsa_b, andE_a, aEa_t, aEa_f, orE_a, oEa_t, oEa_f, notE_a, nEa_ok, add_ii, sub_ii, gt_ii, lt_ii, ge_ii, le_ii, setT_a, consT_a, cTa_ok, nilT_a, tupT_a, seqT_t, seqT_l, forS_a, List.map_cons, List.map_nil, List.length_cons, List.length_nil, Nat.reduceAdd, Nat.reduceSub, Nat.zero_add, Nat.add_zero, List.replicate, List.cons_append, List.nil_append, List.append_nil, List.getElem?_cons_zero, List.getElem?_cons_succ, List.set_cons_zero, List.set_cons_succ, List.getElem?_nil, Option.map_some, Option.map_none, Option.bind_some, if_true, if_false, ite_true, ite_false, eq_self_iff_true, and_self, and_true, true_and, decide_true, decide_false, Bool.false_eq_true, Bool.not_true, Bool.not_false, sizeLine, Nat.reducePow, Nat.reduceLeDiff, Nat.zero_le, pow_7, pow_18, pow_40]
        · simp only [defM, startE, seqS_a, setS_a, bindS_ok, bindS_er, then_nx, then_rt, then_er, ifS_a, ifK_t, ifK_f, retS_a, dropS_a, asgS_a, asK_a, goG_ok, subT_a, nopS_a, getV_0, getV_s, cst_a, op2_a, o2a_ok, o2b_ok, opT_a, oTa_ok, oTb_ok, consA_a, cAa_ok, cAb_ok, nilA_a, callF_a, cFa_ok, callE_a, cEa_ok, newE_a, nwa_ok, datE_a, dta_ok, dispE_a, tupE_a, tpa_ok, asDs_a, datas, bind_ok, pur_ok, bool_b, leave_d, leave_nx, leave_er, ifE_a, ifa_t, ifa_f, notT_a, nta_ok, andT_a, ana_t, ana_f, orT_a, ora_t, ora_f, tstE_a, tsa_b, andE_a, aEa_t, aEa_f, orE_a, oEa_t, oEa_f, notE_a, nEa_ok, add_ii, sub_ii, gt_ii, lt_ii, ge_ii, le_ii, setT_a, consT_a, cTa_ok, nilT_a, tupT_a, seqT_t, seqT_l, forS_a, List.map_cons, List.map_nil, List.length_cons, List.length_nil, Nat.reduceAdd, Nat.reduceSub, Nat.zero_add, Nat.add_zero, List.replicate, List.cons_append, List.nil_append, List.append_nil, List.getElem?_cons_zero, List.getElem?_cons_succ, List.set_cons_zero, List.set_cons_succ, List.getElem?_nil, Option.map_some, Option.map_none, Option.bind_some, if_true, if_false, ite_true, ite_false, eq_self_iff_true, and_self, and_true, true_and, decide_true, decide_false, Bool.false_eq_true, Bool.not_true, Bool.not_false, sizeLine, Nat.reducePow, Nat.reduceLeDiff, Nat.zero_le, pow_7, pow_18, pow_40, hlc, hne, hie, hme, negE_a, nga_ok, hix, e4])
    ⟨[], ss, ps, o1, none, none, none, rfl, rfl, B1.mono (by omega), .nil, Nat.le_refl _⟩
  have hrl : (rangeD 0 (t : Int)).length = t := by rw [rangeD_nat]; simp
  rw [hrl] at B2 hlen
  have fz : freeze 3 [some (.h i), some (.d (stD s1 p1)), some (.d (.int (mx : Nat))), some (.h M.length), v4, v5, v6] (M.set i o2 ++ [.lst (cs.map nD)]) = _ := jfz (L := M.length) (k := 0) rfl (by simp) rfl
  refine ⟨cs, s1, p1, o2, ?_, B2.mono (by omega), hrun, by omega⟩
  unfold m_random_row g_random_row
  simp only [defM, startE, seqS_a, setS_a, bindS_ok, bindS_er, then_nx, then_rt, then_er, ifS_a, ifK_t, ifK_f, retS_a, dropS_a, asgS_a, asK_a, goG_ok, subT_a, nopS_a, getV_0, getV_s, cst_a, op2_a, o2a_ok, o2b_ok, opT_a, oTa_ok, oTb_ok, consA_a, cAa_ok, cAb_ok, nilA_a, callF_a, cFa_ok, callE_a, cEa_ok, newE_a, nwa_ok, datE_a, dta_ok, dispE_a, tupE_a, tpa_ok, asDs_a, datas, bind_ok, pur_ok, bool_b, leave_d, leave_nx, leave_er, ifE_a, ifa_t, ifa_f, notT_a, nta_ok, andT_a, ana_t, ana_f, orT_a, ora_t, ora_f, tstE_a, tsa_b, andE_a, aEa_t, aEa_f, orE_a, oEa_t, oEa_f, notE_a, nEa_ok, add_ii, sub_ii, gt_ii, lt_ii, ge_ii, le_ii, setT_a, consT_a, cTa_ok, nilT_a, tupT_a, seqT_t, seqT_l, forS_a, List.map_cons, List.map_nil, List.length_cons, List.length_nil, Nat.reduceAdd, Nat.reduceSub, Nat.zero_add, Nat.add_zero, List.replicate, List.cons_append, List.nil_append, List.append_nil, List.getElem?_cons_zero, List.getElem?_cons_succ, List.set_cons_zero, List.set_cons_succ, List.getElem?_nil, Option.map_some, Option.map_none, Option.bind_some, if_true, if_false, ite_true, ite_false, eq_self_iff_true, and_self, and_true, true_and, decide_true, decide_false, Bool.false_eq_true, Bool.not_true, Bool.not_false, sizeLine, Nat.reducePow, Nat.reduceLeDiff, Nat.zero_le, pow_7, pow_18, pow_40, hr, el, fz]
  rw [ga_take]
end C
end DL

namespace DL
open PySem PySem.Spec L2
/-! ### a random state of the same lot -/
theorem zw_sum_add : ∀ (xs ys : List Int), xs.length = ys.length → (List.zipWith (fun a b => a + b) xs ys).sum = xs.sum + ys.sum
  | [], [], _ => rfl
  | x :: xs, y :: ys, h => by
    rw [List.zipWith_cons_cons, List.sum_cons, List.sum_cons, List.sum_cons, zw_sum_add xs ys (by simpa using h)]
    omega
theorem zw_sum_sub : ∀ (xs ys : List Int), xs.length = ys.length → (List.zipWith (fun a b => a - b) xs ys).sum = xs.sum - ys.sum
  | [], [], _ => rfl
  | x :: xs, y :: ys, h => by
    rw [List.zipWith_cons_cons, List.sum_cons, List.sum_cons, List.sum_cons, zw_sum_sub xs ys (by simpa using h)]
    omega
theorem mod_sum (n : Int) : ∀ l : List Int, ∃ q, l.sum = (l.map (· % n)).sum + n * q
  | [] => ⟨0, by simp⟩
  | x :: l => by
    obtain ⟨q, h⟩ := mod_sum n l
    refine ⟨x / n + q, ?_⟩
    rw [List.map_cons, List.sum_cons, List.sum_cons, h, Int.mul_add]
    have := Int.emod_add_mul_ediv x n
    omega
theorem perm_sum {l l' : List Int} (h : l.Perm l') : l.sum = l'.sum := by
  induction h with
  | nil => rfl
  | cons x _ ih => rw [List.sum_cons, List.sum_cons, ih]
  | swap x y l => rw [List.sum_cons, List.sum_cons, List.sum_cons, List.sum_cons]; omega
  | trans _ _ h1 h2 => exact h1.trans h2
theorem get_some {α : Type} {l : List α} {k : Nat} (h : k < l.length) : ∃ x, l[k]? = some x := ⟨l[k], List.getElem?_eq_getElem h⟩
abbrev castI (ss : List Nat) : List Int := ss.map fun s : Nat => (s : Int)
theorem Stt.sumS {n : Nat} {ss tt : List Nat} {ps qs : List Int} (h : Stt n ss ps) (k : Stt n tt qs) : (castI ss).sum = (castI tt).sum := perm_sum ((h.perm.trans k.perm.symm).map _)
/-- the least purses of other seats, with these residues -/
def leastI (n : Nat) (rs : List Int) (tt : List Nat) : List Int := List.zipWith (fun r t => (r - t) % (n : Int)) rs (castI tt)
theorem resI_add {ss : List Nat} {ps : List Int} : resI ss ps = (List.zipWith (fun a b => a + b) (castI ss) ps).map (· % (ss.length : Int)) := by
  unfold resI castI
  rw [List.zipWith_map_left, List.map_zipWith]
theorem least_sum {n : Nat} {ss tt : List Nat} {ps : List Int} (h : Stt n ss ps) (ht : tt.Perm (List.range n)) : ∃ q, ps.sum = (leastI n (resI ss ps) tt).sum + n * q := by
  have hl := h.slen
  have htl : tt.length = n := by rw [ht.length_eq, List.length_range]
  have e1 := zw_sum_add (castI ss) ps (by simp [hl, h.len])
  obtain ⟨q1, h1⟩ := mod_sum (n : Int) (List.zipWith (fun a b => a + b) (castI ss) ps)
  have hr : resI ss ps = (List.zipWith (fun a b => a + b) (castI ss) ps).map (· % (n : Int)) := by rw [resI_add, hl]
  rw [← hr] at h1
  have hrl : (resI ss ps).length = n := by rw [resI_len, hl, h.len]; simp
  have e2 := zw_sum_sub (resI ss ps) (castI tt) (by simp [hrl, htl])
  obtain ⟨q2, h2⟩ := mod_sum (n : Int) (List.zipWith (fun a b => a - b) (resI ss ps) (castI tt))
  have hle : leastI n (resI ss ps) tt = (List.zipWith (fun a b => a - b) (resI ss ps) (castI tt)).map (· % (n : Int)) := by
    unfold leastI
    rw [List.map_zipWith]
  rw [← hle] at h2
  have e3 : (castI ss).sum = (castI tt).sum := perm_sum ((h.perm.trans ht.symm).map _)
  refine ⟨q1 + q2, ?_⟩
  rw [Int.mul_add]
  omega
theorem resI_lt {n : Nat} {ss : List Nat} {ps : List Int} (hl : ss.length = n) (h0 : 0 < n) {k : Nat} {r : Int} (h : (resI ss ps)[k]? = some r) : 0 ≤ r ∧ r < n ∧ r % n = r := by
  unfold resI at h
  rw [List.getElem?_zipWith] at h
  split at h
  · rename_i a b _ _
    cases h
    rw [hl]
    have h1 := Int.emod_nonneg ((a : Int) + b) (show (n : Int) ≠ 0 by omega)
    have h2 := Int.emod_lt_of_pos ((a : Int) + b) (show (0 : Int) < n by omega)
    exact ⟨h1, h2, Int.emod_emod ..⟩
  · cases h
/-- purses while the rest is being given out -/
structure LkI (n : Nat) (tt : List Nat) (rs : List Int) (S : Int) (b : List Int) (r : Int) : Prop where
  len : b.length = n
  nn : ∀ p ∈ b, 0 ≤ p
  res : resI tt b = rs
  sum : b.sum + n * r = S
  r0 : 0 ≤ r
theorem LkI.start {n : Nat} {ss tt : List Nat} {ps : List Int} (h : Stt n ss ps) (h0 : 0 < n) (ht : tt.Perm (List.range n)) (hr : 0 ≤ (ps.sum - (leastI n (resI ss ps) tt).sum) / n) :
    LkI n tt (resI ss ps) ps.sum (leastI n (resI ss ps) tt) ((ps.sum - (leastI n (resI ss ps) tt).sum) / n) := by
  have hl := h.slen
  have htl : tt.length = n := by rw [ht.length_eq, List.length_range]
  have hrl : (resI ss ps).length = n := by rw [resI_len, hl, h.len]; simp
  obtain ⟨q, hq⟩ := least_sum h ht
  have e : (ps.sum - (leastI n (resI ss ps) tt).sum) / n = q := by
    rw [hq, show (leastI n (resI ss ps) tt).sum + n * q - (leastI n (resI ss ps) tt).sum = n * q by omega]
    exact Int.mul_ediv_cancel_left _ (by omega)
  have hg : ∀ k : Nat, (leastI n (resI ss ps) tt)[k]? = match (resI ss ps)[k]?, tt[k]? with
      | some r, some t => some ((r - (t : Int)) % n)
      | _, _ => none := fun k => by
    unfold leastI castI
    rw [List.getElem?_zipWith, List.getElem?_map]
    cases (resI ss ps)[k]? <;> cases tt[k]? <;> rfl
  refine ⟨by unfold leastI; simp [hrl, htl], fun p hp => ?_, ?_, by rw [e]; omega, hr⟩
  · obtain ⟨k, hk⟩ := List.getElem?_of_mem hp
    rw [hg] at hk
    split at hk
    · cases hk
      exact Int.emod_nonneg _ (by omega)
    · cases hk
  · apply ext_of
    intro k
    by_cases hk : k < n
    · have h1 : (resI ss ps)[k]? = some (resI ss ps)[k] := List.getElem?_eq_getElem (by omega)
      have h2 : tt[k]? = some tt[k] := List.getElem?_eq_getElem (by omega)
      generalize (resI ss ps)[k] = r at h1
      generalize tt[k] = t at h2
      have h3 : (leastI n (resI ss ps) tt)[k]? = some ((r - (t : Int)) % n) := by rw [hg, h1, h2]
      rw [resI_get h2 h3, h1, htl, Int.add_emod_emod, show (t : Int) + (r - t) = r by omega, (resI_lt hl h0 h1).2.2]
    · rw [List.getElem?_eq_none (by rw [resI_len, htl]; omega), List.getElem?_eq_none (by omega)]
theorem LkI.step {n : Nat} {tt : List Nat} {rs : List Int} {S r x m : Int} {b : List Int} {w : Nat} (h : LkI n tt rs S b r) (htl : tt.length = n) (hx : b[w]? = some x) (h0 : 0 ≤ m) (hm : m ≤ r) : LkI n tt rs S (b.set w (x + n * m)) (r - m) := by
  have hw := lt_of_getL hx
  refine ⟨by simp [h.len], fun p hp => ?_, ?_, ?_, by omega⟩
  · rcases List.mem_or_eq_of_mem_set hp with hp | rfl
    · exact h.nn p hp
    · have := h.nn x (List.mem_of_getElem? hx)
      have := Int.mul_nonneg (show (0 : Int) ≤ n by omega) h0
      omega
  · rw [← h.res]
    apply ext_of
    intro k
    by_cases hk : k = w
    · subst hk
      have hk2 : k < tt.length := by rw [htl, ← h.len]; exact hw
      have h2 : tt[k]? = some tt[k] := List.getElem?_eq_getElem hk2
      have h3 : (b.set k (x + n * m))[k]? = some (x + n * m) := by rw [List.getElem?_set_self hw]
      rw [resI_get h2 h3, resI_get h2 hx, htl, ← Int.add_assoc, Int.add_mul_emod_self_left]
    · unfold resI
      rw [List.getElem?_zipWith, List.getElem?_zipWith, List.getElem?_set_ne (Ne.symm hk)]
  · rw [sum_set _ _ _ _ hx, Int.mul_sub]
    have := h.sum
    omega
namespace C
theorem like_ok {n0 i n : Nat} {M : Mem} {o : MO} {ss : List Nat} {ps : List Int} (hM : M[i]? = some o) (hB : Bx n0 o) (hn0 : n0 + 20000000 ≤ 2 ^ 44) (h : Stt n ss ps) (h2 : 2 ≤ n) (hn : n ≤ 1000) (hS : ps.sum ≤ 10 ^ 60) :
    ∃ ss' ps' o', m_like [.h i, .d (stD ss ps)] M = .ok (.d (stD ss' ps')) (M.set i o') ∧ Bx (n0 + 20000000) o' ∧ Stt n ss' ps' ∧ Lot ss ps ss' ps' := by
  have hsz : sizeLine = 2 ^ 24 := rfl
  have hi := lt_of_get hM
  have hl := h.slen
  have i0 : ∀ N : Mem, ixV (.d (stD ss ps)) (.d (.int 0)) N = .ok (.d (.tuple (ss.map nD))) N := fun N => ixV_t rfl
  have i1 : ∀ N : Mem, ixV (.d (stD ss ps)) (.d (.int 1)) N = .ok (.d (.tuple (ps.map PyData.int))) N := fun N => ixV_t rfl
  have hps0 : 0 ≤ ps.sum := (sum_nn ps h.nn).1
  have r8 : rngI1 (cst (.d (.int 8))) [some (.h i), some (.d (stD ss ps)), some (.d (.int (n : Nat))), some (.d (.tuple (intsD (resI ss ps)))), none, none, none, none, none, none, none, none] M = .ok (rangeD 0 8) M := rngI1_a (by simp only [defM, startE, seqS_a, setS_a, bindS_ok, bindS_er, then_nx, then_rt, then_er, ifS_a, ifK_t, ifK_f, retS_a, dropS_a, asgS_a, asK_a, goG_ok, subT_a, nopS_a, getV_0, getV_s, cst_a, op2_a, o2a_ok, o2b_ok, opT_a, oTa_ok, oTb_ok, consA_a, cAa_ok, cAb_ok, nilA_a, callF_a, cFa_ok, callE_a, cEa_ok, newE_a, nwa_ok, datE_a, dta_ok, dispE_a, tupE_a, tpa_ok, asDs_a, datas, bind_ok, pur_ok, bool_b, leave_d, leave_nx, leave_er, ifE_a, ifa_t, ifa_f, notT_a, nta_ok, andT_a, ana_t, ana_f, orT_a, ora_t, ora_f, tstE_a, tsa_b, andE_a, aEa_t, aEa_f, orE_a, oEa_t, oEa_f, notE_a, nEa_ok, add_ii, sub_ii, gt_ii, lt_ii, ge_ii, le_ii, setT_a, consT_a, cTa_ok, nilT_a, tupT_a, seqT_t, seqT_l, forS_a, List.map_cons, List.map_nil, List.length_cons, List.length_nil, Nat.reduceAdd, Nat.reduceSub, Nat.zero_add, Nat.add_zero, List.replicate, List.cons_append, List.nil_append, List.append_nil, List.getElem?_cons_zero, List.getElem?_cons_succ, List.set_cons_zero, List.set_cons_succ, List.getElem?_nil, Option.map_some, Option.map_none, Option.bind_some, if_true, if_false, ite_true, ite_false, eq_self_iff_true, and_self, and_true, true_and, decide_true, decide_false, Bool.false_eq_true, Bool.not_true, Bool.not_false, sizeLine, Nat.reducePow, Nat.reduceLeDiff, Nat.zero_le, pow_7, pow_18, pow_40]) (by decide)
  have hcan : ∀ x ∈ rangeD 0 (n : Int), x.canLay0 = true := fun x hx => by
    rw [rangeD_nat] at hx
    obtain ⟨k, _, rfl⟩ := List.mem_map.mp hx
    rfl
  have hrl : (rangeD 0 (n : Int)).length = n := by rw [rangeD_nat]; simp
  have hrl1 : (rangeD 0 ((n : Int) - 1)).length = n - 1 := by
    rw [show (n : Int) - 1 = ((n - 1 : Nat) : Int) by omega, rangeD_nat]; simp
  have key := forL_or (γ := setT 4) (g := (seqS (setS 5 (callE tupleV (consA (callF 2 C.m_strewn (consA (getV 0) (consA (datE (rgE1 (getV 2))) nilA))) nilA))) (seqS (setS 6 (newE (lcE [10, 11] (zipI (getV 3) (getV 5)) (tupT 2 (consT (setT 10) (consT (setT 11) nilT))) (fun _ M => .ok true M) (op2 modV (op2 subV (getV 10) (getV 11)) (getV 2))))) (seqS (setS 7 (op2 fdivV (op2 subV (callE sumTV (consA (op2 ixV (getV 1) (cst (.d (.int 1)))) nilA)) (callE sumTV (consA (getV 6) nilA))) (getV 2))) (ifS (opT geV (getV 7) (cst (.d (.int 0)))) (seqS (forS (rngI1 (op2 subV (getV 2) (cst (.d (.int 1))))) (setT 8) (seqS (setS 9 (ifE (opT eqV (callF 2 (C.m_take 10) (consA (getV 0) (consA (cst (.d (.int 2))) nilA))) (cst (.d (.int 0)))) (callF 2 (C.m_take 10) (consA (getV 0) (consA (op2 addV (getV 7) (cst (.d (.int 1)))) nilA))) (cst (.d (.int 0))))) (seqS (asgS (op2 addV (op2 ixV (getV 6) (getV 8)) (op2 mulV (getV 2) (getV 9))) (subT (getV 6) (getV 8))) (setS 7 (op2 subV (getV 7) (getV 9)))))) (seqS (asgS (op2 addV (op2 ixV (getV 6) (negE (cst (.d (.int 1))))) (op2 mulV (getV 2) (getV 7))) (subT (getV 6) (negE (cst (.d (.int 1)))))) (seqS (freeze 6) (retS (tupE (consA (getV 5) (consA (callE tupleV (consA (getV 6) nilA)) nilA))))))) nopS)))))
    (fun k e N => ∃ (o' : MO) (J : Mem) (v4 v5 v6 v7 v8 v9 v10 v11 : Option Vl), e = [some (.h i), some (.d (stD ss ps)), some (.d (.int (n : Nat))), some (.d (.tuple (intsD (resI ss ps)))), v4, v5, v6, v7, v8, v9, v10, v11] ∧ N = M.set i o' ++ J ∧ Bx (n0 + 2000000 * k) o')
    (fun v e N => ∃ (ss' : List Nat) (ps' : List Int) (o' : MO) (J : Mem), v = .d (stD ss' ps') ∧ N = M.set i o' ++ J ∧ Bx (n0 + 16000000) o' ∧ Stt n ss' ps' ∧ Lot ss ps ss' ps')
    (rangeD 0 8) 0 [some (.h i), some (.d (stD ss ps)), some (.d (.int (n : Nat))), some (.d (.tuple (intsD (resI ss ps)))), none, none, none, none, none, none, none, none] M (Nat.zero_le _)
    (by
      rintro k z e N _ hz ⟨o1, J, v4, v5, v6, v7, v8, v9, v10, v11, rfl, rfl, B⟩
      have hk : k < 8 := lt_of_getL hz
      have hNi : (M.set i o1 ++ J)[i]? = some o1 := ga_get hi
      obtain ⟨ys, o2, e1, B1, P1⟩ := strewn_ok (xs := rangeD 0 (n : Int)) hNi B (by rw [hrl]; omega) (by rw [hrl]; omega) hcan
      rw [hrl] at B1
      rw [rangeD_nat] at P1
      obtain ⟨tt, htt, rfl⟩ := perm_nats P1
      rw [ga_set hi] at e1
      have htl : tt.length = n := by rw [htt.length_eq, List.length_range]
      have hrl2 : (resI ss ps).length = n := by rw [resI_len, hl, h.len]; simp
      generalize hN2 : M.set i o2 ++ J = N2 at e1
      have hN2i : N2[i]? = some o2 := by rw [← hN2]; exact ga_get hi
      have hi2 := lt_of_get hN2i
      have hrg : ∀ (v4 v5 v6 v7 v8 v9 v10 v11 : Option Vl) (N : Mem), rgE1 (getV 2) [some (.h i), some (.d (stD ss ps)), some (.d (.int (n : Nat))), some (.d (.tuple (intsD (resI ss ps)))), v4, v5, v6, v7, v8, v9, v10, v11] N = .ok (rangeD 0 (n : Int)) N := fun v4 v5 v6 v7 v8 v9 v10 v11 N => rgE1_a rfl (by omega) (by omega)
      have hlc : lcE [10, 11] (zipI (getV 3) (getV 5)) (tupT 2 (consT (setT 10) (consT (setT 11) nilT))) (fun _ M => .ok true M) (op2 modV (op2 subV (getV 10) (getV 11)) (getV 2)) [some (.h i), some (.d (stD ss ps)), some (.d (.int (n : Nat))), some (.d (.tuple (intsD (resI ss ps)))), some (.d z), some (.d (.tuple (tt.map nD))), v6, v7, v8, v9, v10, v11] N2 = .ok (intsD (leastI n (resI ss ps) tt)) N2 := by
        rw [lcE_at (zipI_a (x := .d (.tuple (intsD (resI ss ps)))) (y := .d (.tuple (tt.map nD))) (p := (intsD (resI ss ps), tt.map nD)) (M1 := N2) (M2 := N2) (by simp only [defM, startE, seqS_a, setS_a, bindS_ok, bindS_er, then_nx, then_rt, then_er, ifS_a, ifK_t, ifK_f, retS_a, dropS_a, asgS_a, asK_a, goG_ok, subT_a, nopS_a, getV_0, getV_s, cst_a, op2_a, o2a_ok, o2b_ok, opT_a, oTa_ok, oTb_ok, consA_a, cAa_ok, cAb_ok, nilA_a, callF_a, cFa_ok, callE_a, cEa_ok, newE_a, nwa_ok, datE_a, dta_ok, dispE_a, tupE_a, tpa_ok, asDs_a, datas, bind_ok, pur_ok, bool_b, leave_d, leave_nx, leave_er, ifE_a, ifa_t, ifa_f, notT_a, nta_ok, andT_a, ana_t, ana_f, orT_a, ora_t, ora_f, tstE_a, tsa_b, andE_a, aEa_t, aEa_f, orE_a, oEa_t, oEa_f, notE_a, nEa_ok, add_ii, sub_ii, gt_ii, lt_ii, ge_ii, le_ii, setT_a, consT_a, cTa_ok, nilT_a, tupT_a, seqT_t, seqT_l, forS_a, List.map_cons, List.map_nil, List.length_cons, List.length_nil, Nat.reduceAdd, Nat.reduceSub, Nat.zero_add, Nat.add_zero, List.replicate, List.cons_append, List.nil_append, List.append_nil, List.getElem?_cons_zero, List.getElem?_cons_succ, List.set_cons_zero, List.set_cons_succ, List.getElem?_nil, Option.map_some, Option.map_none, Option.bind_some, if_true, if_false, ite_true, ite_false, eq_self_iff_true, and_self, and_true, true_and, decide_true, decide_false, Bool.false_eq_true, Bool.not_true, Bool.not_false, sizeLine, Nat.reducePow, Nat.reduceLeDiff, Nat.zero_le, pow_7, pow_18, pow_40]) (by simp only [defM, startE, seqS_a, setS_a, bindS_ok, bindS_er, then_nx, then_rt, then_er, ifS_a, ifK_t, ifK_f, retS_a, dropS_a, asgS_a, asK_a, goG_ok, subT_a, nopS_a, getV_0, getV_s, cst_a, op2_a, o2a_ok, o2b_ok, opT_a, oTa_ok, oTb_ok, consA_a, cAa_ok, cAb_ok, nilA_a, callF_a, cFa_ok, callE_a, cEa_ok, newE_a, nwa_ok, datE_a, dta_ok, dispE_a, tupE_a, tpa_ok, asDs_a, datas, bind_ok, pur_ok, bool_b, leave_d, leave_nx, leave_er, ifE_a, ifa_t, ifa_f, notT_a, nta_ok, andT_a, ana_t, ana_f, orT_a, ora_t, ora_f, tstE_a, tsa_b, andE_a, aEa_t, aEa_f, orE_a, oEa_t, oEa_f, notE_a, nEa_ok, add_ii, sub_ii, gt_ii, lt_ii, ge_ii, le_ii, setT_a, consT_a, cTa_ok, nilT_a, tupT_a, seqT_t, seqT_l, forS_a, List.map_cons, List.map_nil, List.length_cons, List.length_nil, Nat.reduceAdd, Nat.reduceSub, Nat.zero_add, Nat.add_zero, List.replicate, List.cons_append, List.nil_append, List.append_nil, List.getElem?_cons_zero, List.getElem?_cons_succ, List.set_cons_zero, List.set_cons_succ, List.getElem?_nil, Option.map_some, Option.map_none, Option.bind_some, if_true, if_false, ite_true, ite_false, eq_self_iff_true, and_self, and_true, true_and, decide_true, decide_false, Bool.false_eq_true, Bool.not_true, Bool.not_false, sizeLine, Nat.reducePow, Nat.reduceLeDiff, Nat.zero_le, pow_7, pow_18, pow_40]) rfl)]
        have hmap : (zipD (intsD (resI ss ps)) (tt.map nD)).map (onPair fun a b => (a - b) % (n : Int)) = intsD (leastI n (resI ss ps) tt) := by
          rw [nats_ints, zip_map]
          rfl
        rw [← hmap]
        refine lcL_map _ _ [] (by rw [hsz, zipD_len]; simp [hrl2, htl]; omega) fun x hx => ?_
        unfold zipD at hx
        obtain ⟨⟨a, b⟩, hp, rfl⟩ := List.mem_map.mp hx
        obtain ⟨r, _, rfl⟩ := List.mem_map.mp (List.of_mem_zip hp).1
        obtain ⟨t, _, rfl⟩ := List.mem_map.mp (List.of_mem_zip hp).2
        refine ⟨[some (.h i), some (.d (stD ss ps)), some (.d (.int (n : Nat))), some (.d (.tuple (intsD (resI ss ps)))), some (.d z), some (.d (.tuple (tt.map nD))), v6, v7, v8, v9, some (.d (.int r)), some (.d (.int (t : Nat)))], ?_, rfl, ?_⟩
        · show tupT 2 _ _ [some (.h i), some (.d (stD ss ps)), some (.d (.int (n : Nat))), some (.d (.tuple (intsD (resI ss ps)))), some (.d z), some (.d (.tuple (tt.map nD))), v6, v7, v8, v9, none, none] N2 = _
          simp only [defM, startE, seqS_a, setS_a, bindS_ok, bindS_er, then_nx, then_rt, then_er, ifS_a, ifK_t, ifK_f, retS_a, dropS_a, asgS_a, asK_a, goG_ok, subT_a, nopS_a, getV_0, getV_s, cst_a, op2_a, o2a_ok, o2b_ok, opT_a, oTa_ok, oTb_ok, consA_a, cAa_ok, cAb_ok, nilA_a, callF_a, cFa_ok, callE_a, cEa_ok, newE_a, nwa_ok, datE_a, dta_ok, dispE_a, tupE_a, tpa_ok, asDs_a, datas, bind_ok, pur_ok, bool_b, leave_d, leave_nx, leave_er, ifE_a, ifa_t, ifa_f, notT_a, nta_ok, andT_a, ana_t, ana_f, orT_a, ora_t, ora_f, tstE_a, tsa_b, andE_a, aEa_t, aEa_f, orE_a, oEa_t, oEa_f, notE_a, nEa_ok, add_ii, sub_ii, gt_ii, lt_ii, ge_ii, le_ii, setT_a, consT_a, cTa_ok, nilT_a, tupT_a, seqT_t, seqT_l, forS_a, List.map_cons, List.map_nil, List.length_cons, List.length_nil, Nat.reduceAdd, Nat.reduceSub, Nat.zero_add, Nat.add_zero, List.replicate, List.cons_append, List.nil_append, List.append_nil, List.getElem?_cons_zero, List.getElem?_cons_succ, List.set_cons_zero, List.set_cons_succ, List.getElem?_nil, Option.map_some, Option.map_none, Option.bind_some, if_true, if_false, ite_true, ite_false, eq_self_iff_true, and_self, and_true, true_and, decide_true, decide_false, Bool.false_eq_true, Bool.not_true, Bool.not_false, sizeLine, Nat.reducePow, Nat.reduceLeDiff, Nat.zero_le, pow_7, pow_18, pow_40]
        · simp only [defM, startE, seqS_a, setS_a, bindS_ok, bindS_er, then_nx, then_rt, then_er, ifS_a, ifK_t, ifK_f, retS_a, dropS_a, asgS_a, asK_a, goG_ok, subT_a, nopS_a, getV_0, getV_s, cst_a, op2_a, o2a_ok, o2b_ok, opT_a, oTa_ok, oTb_ok, consA_a, cAa_ok, cAb_ok, nilA_a, callF_a, cFa_ok, callE_a, cEa_ok, newE_a, nwa_ok, datE_a, dta_ok, dispE_a, tupE_a, tpa_ok, asDs_a, datas, bind_ok, pur_ok, bool_b, leave_d, leave_nx, leave_er, ifE_a, ifa_t, ifa_f, notT_a, nta_ok, andT_a, ana_t, ana_f, orT_a, ora_t, ora_f, tstE_a, tsa_b, andE_a, aEa_t, aEa_f, orE_a, oEa_t, oEa_f, notE_a, nEa_ok, add_ii, sub_ii, gt_ii, lt_ii, ge_ii, le_ii, setT_a, consT_a, cTa_ok, nilT_a, tupT_a, seqT_t, seqT_l, forS_a, List.map_cons, List.map_nil, List.length_cons, List.length_nil, Nat.reduceAdd, Nat.reduceSub, Nat.zero_add, Nat.add_zero, List.replicate, List.cons_append, List.nil_append, List.append_nil, List.getElem?_cons_zero, List.getElem?_cons_succ, List.set_cons_zero, List.set_cons_succ, List.getElem?_nil, Option.map_some, Option.map_none, Option.bind_some, if_true, if_false, ite_true, ite_false, eq_self_iff_true, and_self, and_true, true_and, decide_true, decide_false, Bool.false_eq_true, Bool.not_true, Bool.not_false, sizeLine, Nat.reducePow, Nat.reduceLeDiff, Nat.zero_le, pow_7, pow_18, pow_40, mod_ii (show (0 : Int) < (n : Nat) by omega), onPair]
      generalize hrest : (ps.sum - (leastI n (resI ss ps) tt).sum) / (n : Int) = rest
      have hsum : sumTV [.h N2.length] (N2 ++ [.lst (intsD (leastI n (resI ss ps) tt))]) = _ := sum_h (m1_a rfl)
      by_cases hr0 : 0 ≤ rest
      · have L0 := LkI.start h (by omega) htt (by rw [hrest]; exact hr0)
        rw [hrest] at L0
        obtain ⟨e', M', el, b, r, o3, v8', v9', rfl, rfl, B3, L3⟩ := forL_all (γ := setT 8) (g := (seqS (setS 9 (ifE (opT eqV (callF 2 (C.m_take 10) (consA (getV 0) (consA (cst (.d (.int 2))) nilA))) (cst (.d (.int 0)))) (callF 2 (C.m_take 10) (consA (getV 0) (consA (op2 addV (getV 7) (cst (.d (.int 1)))) nilA))) (cst (.d (.int 0))))) (seqS (asgS (op2 addV (op2 ixV (getV 6) (getV 8)) (op2 mulV (getV 2) (getV 9))) (subT (getV 6) (getV 8))) (setS 7 (op2 subV (getV 7) (getV 9))))))
          (fun j e N => ∃ (b : List Int) (r : Int) (o' : MO) (v8 v9 : Option Vl), e = [some (.h i), some (.d (stD ss ps)), some (.d (.int (n : Nat))), some (.d (.tuple (intsD (resI ss ps)))), some (.d z), some (.d (.tuple (tt.map nD))), some (.h N2.length), some (.d (.int r)), v8, v9, v10, v11] ∧ N = N2.set i o' ++ [.lst (intsD b)] ∧ Bx (n0 + 2000000 * k + 512 * n + 1024 * j) o' ∧ LkI n tt (resI ss ps) ps.sum b r)
          (xs := rangeD 0 ((n : Int) - 1)) (e := [some (.h i), some (.d (stD ss ps)), some (.d (.int (n : Nat))), some (.d (.tuple (intsD (resI ss ps)))), some (.d z), some (.d (.tuple (tt.map nD))), some (.h N2.length), some (.d (.int rest)), v8, v9, v10, v11]) (M := N2 ++ [.lst (intsD (leastI n (resI ss ps) tt))])
          (by
            rintro j x e N hx ⟨b, r, o4, v8, v9, rfl, rfl, B4, L4⟩
            have hj : j < n - 1 := by rw [← hrl1]; exact lt_of_getL hx
            have hxj : x = .int (j : Nat) := by
              rw [show (n : Int) - 1 = ((n - 1 : Nat) : Int) by omega, rangeD_nat, List.getElem?_map, List.getElem?_range hj] at hx
              exact (Option.some.inj hx).symm
            subst hxj
            have hbs := (sum_nn b L4.nn).1
            have hrS : r ≤ ps.sum := by
              have h1 := L4.sum
              have h2 : r ≤ n * r := by
                have := Int.mul_le_mul_of_nonneg_right (show (1 : Int) ≤ n by omega) L4.r0
                omega
              omega
            have hget : (N2.set i o4 ++ [.lst (intsD b)])[i]? = some o4 := ga_get hi2
            obtain ⟨c, o5, e5, B5, c0, c1⟩ := take10 (sp := 2) hget B4 (by omega) (by omega) (by omega)
            rw [ga_set hi2] at e5
            obtain ⟨x, hbl⟩ := get_some (show j < b.length by rw [L4.len]; omega)
            have hix : ∀ o : MO, ixV (.h N2.length) (.d (.int (j : Nat))) (N2.set i o ++ [.lst (intsD b)]) = .ok (.d (.int x)) (N2.set i o ++ [.lst (intsD b)]) := fun o => jx (k := 0) (by simp) rfl (getI hbl)
            by_cases hc : c = 0
            · subst hc
              obtain ⟨m, o6, e6, B6, m0, m1⟩ := take10 (sp := r + 1) (ga_get (o := o5) (J := [.lst (intsD b)]) hi2) B5 (by omega) (by have := L4.r0; omega) (by omega)
              rw [ga_set hi2] at e6
              have hput : ∀ e : Env, putV (.h N2.length) (.d (.int (j : Nat))) (.d (.int (x + n * m))) e (N2.set i o6 ++ [.lst (intsD b)]) = _ := fun e => jput (k := 0) (by simp) rfl (by simpa using lt_of_getL hbl)
              refine ⟨[some (.h i), some (.d (stD ss ps)), some (.d (.int (n : Nat))), some (.d (.tuple (intsD (resI ss ps)))), some (.d z), some (.d (.tuple (tt.map nD))), some (.h N2.length), some (.d (.int r)), some (.d (.int (j : Nat))), v9, v10, v11], N2.set i o4 ++ [.lst (intsD b)], [some (.h i), some (.d (stD ss ps)), some (.d (.int (n : Nat))), some (.d (.tuple (intsD (resI ss ps)))), some (.d z), some (.d (.tuple (tt.map nD))), some (.h N2.length), some (.d (.int (r - m))), some (.d (.int (j : Nat))), some (.d (.int m)), v10, v11], N2.set i o6 ++ [.lst (intsD (b.set j (x + n * m)))], ?_, ?_, b.set j (x + n * m), r - m, o6, _, _, rfl, rfl, B6.mono (by omega), L4.step htl hbl m0 (by omega)⟩
              · simp only [defM, startE, seqS_a, setS_a, bindS_ok, bindS_er, then_nx, then_rt, then_er, ifS_a, ifK_t, ifK_f, retS_a, dropS_a, asgS_a, asK_a, goG_ok, subT_a, nopS_a, getV_0, getV_s, cst_a, op2_a, o2a_ok, o2b_ok, opT_a, oTa_ok, oTb_ok, consA_a, cAa_ok, cAb_ok, nilA_a, callF_a, cFa_ok, callE_a, cEa_ok, newE_a, nwa_ok, datE_a, dta_ok, dispE_a, tupE_a, tpa_ok, asDs_a, datas, bind_ok, pur_ok, bool_b, leave_d, leave_nx, leave_er, ifE_a, ifa_t, ifa_f, notT_a, nta_ok, andT_a, ana_t, ana_f, orT_a, ora_t, ora_f, tstE_a, tsa_b, andE_a, aEa_t, aEa_f, orE_a, oEa_t, oEa_f, notE_a, nEa_ok, add_ii, sub_ii, gt_ii, lt_ii, ge_ii, le_ii, setT_a, consT_a, cTa_ok, nilT_a, tupT_a, seqT_t, seqT_l, forS_a, List.map_cons, List.map_nil, List.length_cons, List.length_nil, Nat.reduceAdd, Nat.reduceSub, Nat.zero_add, Nat.add_zero, List.replicate, List.cons_append, List.nil_append, List.append_nil, List.getElem?_cons_zero, List.getElem?_cons_succ, List.set_cons_zero, List.set_cons_succ, List.getElem?_nil, Option.map_some, Option.map_none, Option.bind_some, if_true, if_false, ite_true, ite_false, eq_self_iff_true, and_self, and_true, true_and, decide_true, decide_false, Bool.false_eq_true, Bool.not_true, Bool.not_false, sizeLine, Nat.reducePow, Nat.reduceLeDiff, Nat.zero_le, pow_7, pow_18, pow_40]
              · simp only [defM, startE, seqS_a, setS_a, bindS_ok, bindS_er, then_nx, then_rt, then_er, ifS_a, ifK_t, ifK_f, retS_a, dropS_a, asgS_a, asK_a, goG_ok, subT_a, nopS_a, getV_0, getV_s, cst_a, op2_a, o2a_ok, o2b_ok, opT_a, oTa_ok, oTb_ok, consA_a, cAa_ok, cAb_ok, nilA_a, callF_a, cFa_ok, callE_a, cEa_ok, newE_a, nwa_ok, datE_a, dta_ok, dispE_a, tupE_a, tpa_ok, asDs_a, datas, bind_ok, pur_ok, bool_b, leave_d, leave_nx, leave_er, ifE_a, ifa_t, ifa_f, notT_a, nta_ok, andT_a, ana_t, ana_f, orT_a, ora_t, ora_f, tstE_a, tsa_b, andE_a, aEa_t, aEa_f, orE_a, oEa_t, oEa_f, notE_a, nEa_ok, add_ii, sub_ii, gt_ii, lt_ii, ge_ii, le_ii, setT_a, consT_a, cTa_ok, nilT_a, tupT_a, seqT_t, seqT_l, forS_a, List.map_cons, List.map_nil, List.length_cons, List.length_nil, Nat.reduceAdd, Nat.reduceSub, Nat.zero_add, Nat.add_zero, List.replicate, List.cons_append, List.nil_append, List.append_nil, List.getElem?_cons_zero, List.getElem?_cons_succ, List.set_cons_zero, List.set_cons_succ, List.getElem?_nil, Option.map_some, Option.map_none, Option.bind_some, if_true, if_false, ite_true, ite_false, eq_self_iff_true, and_self, and_true, true_and, decide_true, decide_false, Bool.false_eq_true, Bool.not_true, Bool.not_false, sizeLine, Nat.reducePow, Nat.reduceLeDiff, Nat.zero_le, pow_7, pow_18, pow_40, e5, eq_ii, beq_self_eq_true, e6, hix, mul_ii (i := (n : Int)) (j := m) (.inl (by omega)), hput, setI]
            · have hcb : (c == 0) = false := by simp [hc]
              have hput : ∀ e : Env, putV (.h N2.length) (.d (.int (j : Nat))) (.d (.int (x + n * 0))) e (N2.set i o5 ++ [.lst (intsD b)]) = _ := fun e => jput (k := 0) (by simp) rfl (by simpa using lt_of_getL hbl)
              refine ⟨[some (.h i), some (.d (stD ss ps)), some (.d (.int (n : Nat))), some (.d (.tuple (intsD (resI ss ps)))), some (.d z), some (.d (.tuple (tt.map nD))), some (.h N2.length), some (.d (.int r)), some (.d (.int (j : Nat))), v9, v10, v11], N2.set i o4 ++ [.lst (intsD b)], [some (.h i), some (.d (stD ss ps)), some (.d (.int (n : Nat))), some (.d (.tuple (intsD (resI ss ps)))), some (.d z), some (.d (.tuple (tt.map nD))), some (.h N2.length), some (.d (.int (r - 0))), some (.d (.int (j : Nat))), some (.d (.int 0)), v10, v11], N2.set i o5 ++ [.lst (intsD (b.set j (x + n * 0)))], ?_, ?_, b.set j (x + n * 0), r - 0, o5, _, _, rfl, rfl, B5.mono (by omega), L4.step htl hbl (Int.le_refl _) L4.r0⟩
              · simp only [defM, startE, seqS_a, setS_a, bindS_ok, bindS_er, then_nx, then_rt, then_er, ifS_a, ifK_t, ifK_f, retS_a, dropS_a, asgS_a, asK_a, goG_ok, subT_a, nopS_a, getV_0, getV_s, cst_a, op2_a, o2a_ok, o2b_ok, opT_a, oTa_ok, oTb_ok, consA_a, cAa_ok, cAb_ok, nilA_a, callF_a, cFa_ok, callE_a, cEa_ok, newE_a, nwa_ok, datE_a, dta_ok, dispE_a, tupE_a, tpa_ok, asDs_a, datas, bind_ok, pur_ok, bool_b, leave_d, leave_nx, leave_er, ifE_a, ifa_t, ifa_f, notT_a, nta_ok, andT_a, ana_t, ana_f, orT_a, ora_t, ora_f, tstE_a, tsa_b, andE_a, aEa_t, aEa_f, orE_a, oEa_t, oEa_f, notE_a, nEa_ok, add_ii, sub_ii, gt_ii, lt_ii, ge_ii, le_ii, setT_a, consT_a, cTa_ok, nilT_a, tupT_a, seqT_t, seqT_l, forS_a, List.map_cons, List.map_nil, List.length_cons, List.length_nil, Nat.reduceAdd, Nat.reduceSub, Nat.zero_add, Nat.add_zero, List.replicate, List.cons_append, List.nil_append, List.append_nil, List.getElem?_cons_zero, List.getElem?_cons_succ, List.set_cons_zero, List.set_cons_succ, List.getElem?_nil, Option.map_some, Option.map_none, Option.bind_some, if_true, if_false, ite_true, ite_false, eq_self_iff_true, and_self, and_true, true_and, decide_true, decide_false, Bool.false_eq_true, Bool.not_true, Bool.not_false, sizeLine, Nat.reducePow, Nat.reduceLeDiff, Nat.zero_le, pow_7, pow_18, pow_40]
              · simp only [defM, startE, seqS_a, setS_a, bindS_ok, bindS_er, then_nx, then_rt, then_er, ifS_a, ifK_t, ifK_f, retS_a, dropS_a, asgS_a, asK_a, goG_ok, subT_a, nopS_a, getV_0, getV_s, cst_a, op2_a, o2a_ok, o2b_ok, opT_a, oTa_ok, oTb_ok, consA_a, cAa_ok, cAb_ok, nilA_a, callF_a, cFa_ok, callE_a, cEa_ok, newE_a, nwa_ok, datE_a, dta_ok, dispE_a, tupE_a, tpa_ok, asDs_a, datas, bind_ok, pur_ok, bool_b, leave_d, leave_nx, leave_er, ifE_a, ifa_t, ifa_f, notT_a, nta_ok, andT_a, ana_t, ana_f, orT_a, ora_t, ora_f, tstE_a, tsa_b, andE_a, aEa_t, aEa_f, orE_a, oEa_t, oEa_f, notE_a, nEa_ok, add_ii, sub_ii, gt_ii, lt_ii, ge_ii, le_ii, setT_a, consT_a, cTa_ok, nilT_a, tupT_a, seqT_t, seqT_l, forS_a, List.map_cons, List.map_nil, List.length_cons, List.length_nil, Nat.reduceAdd, Nat.reduceSub, Nat.zero_add, Nat.add_zero, List.replicate, List.cons_append, List.nil_append, List.append_nil, List.getElem?_cons_zero, List.getElem?_cons_succ, List.set_cons_zero, List.set_cons_succ, List.getElem?_nil, Option.map_some, Option.map_none, Option.bind_some, if_true, if_false, ite_true, ite_false, eq_self_iff_true, and_self, and_true, true_and, decide_true, decide_false, Bool.false_eq_true, Bool.not_true, Bool.not_false, sizeLine, Nat.reducePow, Nat.reduceLeDiff, Nat.zero_le, pow_7, pow_18, pow_40, e5, eq_ii, hcb, hix, mul_ii (i := (n : Int)) (j := 0) (.inl (by omega)), hput, setI])
          ⟨leastI n (resI ss ps) tt, rest, o2, v8, v9, rfl, by rw [set_self hN2i], B1.mono (by omega), L0⟩
        rw [hrl1] at B3
        have hr1 : rngI1 (op2 subV (getV 2) (cst (.d (.int 1)))) [some (.h i), some (.d (stD ss ps)), some (.d (.int (n : Nat))), some (.d (.tuple (intsD (resI ss ps)))), some (.d z), some (.d (.tuple (tt.map nD))), some (.h N2.length), some (.d (.int rest)), v8, v9, v10, v11] (N2 ++ [.lst (intsD (leastI n (resI ss ps) tt))]) = .ok (rangeD 0 ((n : Int) - 1)) (N2 ++ [.lst (intsD (leastI n (resI ss ps) tt))]) := rngI1_a (by simp only [defM, startE, seqS_a, setS_a, bindS_ok, bindS_er, then_nx, then_rt, then_er, ifS_a, ifK_t, ifK_f, retS_a, dropS_a, asgS_a, asK_a, goG_ok, subT_a, nopS_a, getV_0, getV_s, cst_a, op2_a, o2a_ok, o2b_ok, opT_a, oTa_ok, oTb_ok, consA_a, cAa_ok, cAb_ok, nilA_a, callF_a, cFa_ok, callE_a, cEa_ok, newE_a, nwa_ok, datE_a, dta_ok, dispE_a, tupE_a, tpa_ok, asDs_a, datas, bind_ok, pur_ok, bool_b, leave_d, leave_nx, leave_er, ifE_a, ifa_t, ifa_f, notT_a, nta_ok, andT_a, ana_t, ana_f, orT_a, ora_t, ora_f, tstE_a, tsa_b, andE_a, aEa_t, aEa_f, orE_a, oEa_t, oEa_f, notE_a, nEa_ok, add_ii, sub_ii, gt_ii, lt_ii, ge_ii, le_ii, setT_a, consT_a, cTa_ok, nilT_a, tupT_a, seqT_t, seqT_l, forS_a, List.map_cons, List.map_nil, List.length_cons, List.length_nil, Nat.reduceAdd, Nat.reduceSub, Nat.zero_add, Nat.add_zero, List.replicate, List.cons_append, List.nil_append, List.append_nil, List.getElem?_cons_zero, List.getElem?_cons_succ, List.set_cons_zero, List.set_cons_succ, List.getElem?_nil, Option.map_some, Option.map_none, Option.bind_some, if_true, if_false, ite_true, ite_false, eq_self_iff_true, and_self, and_true, true_and, decide_true, decide_false, Bool.false_eq_true, Bool.not_true, Bool.not_false, sizeLine, Nat.reducePow, Nat.reduceLeDiff, Nat.zero_le, pow_7, pow_18, pow_40]) (by constructor <;> omega)
        obtain ⟨x, hbl⟩ := get_some (show n - 1 < b.length by rw [L3.len]; omega)
        have hixl : ixN (intsD b).length (-1) = some (n - 1) := by rw [ixN_last (by simp [L3.len]; omega)]; simp [L3.len]
        have hat : atI (intsD b) (-1) = some (.int x) := by
          unfold atI
          rw [hixl]
          exact getI hbl
        have hixv : ixV (.h N2.length) (.d (.int (-1))) (N2.set i o3 ++ [.lst (intsD b)]) = .ok (.d (.int x)) (N2.set i o3 ++ [.lst (intsD b)]) := ixV_h (m1_a (by simp)) hat
        have hput : ∀ e : Env, putV (.h N2.length) (.d (.int (-1))) (.d (.int (x + n * r))) e (N2.set i o3 ++ [.lst (intsD b)]) = .ok e (N2.set i o3 ++ [.lst (intsD (b.set (n - 1) (x + n * r)))]) := fun e => by
          rw [putV_h (m1_a (by simp)) hixl, m1_sa (by simp), setI]
        have L5 := L3.step htl hbl L3.r0 (Int.le_refl _)
        rw [Int.sub_self] at L5
        have fz : freeze 6 [some (.h i), some (.d (stD ss ps)), some (.d (.int (n : Nat))), some (.d (.tuple (intsD (resI ss ps)))), some (.d z), some (.d (.tuple (tt.map nD))), some (.h N2.length), some (.d (.int r)), v8', v9', v10, v11] (N2.set i o3 ++ [.lst (intsD (b.set (n - 1) (x + n * r)))]) = _ := jfz (k := 0) rfl (by simp) rfl
        refine .inr ⟨[some (.h i), some (.d (stD ss ps)), some (.d (.int (n : Nat))), some (.d (.tuple (intsD (resI ss ps)))), some (.d z), v5, v6, v7, v8, v9, v10, v11], M.set i o1 ++ J, .d (stD tt (b.set (n - 1) (x + n * r))), [some (.h i), some (.d (stD ss ps)), some (.d (.int (n : Nat))), some (.d (.tuple (intsD (resI ss ps)))), some (.d z), some (.d (.tuple (tt.map nD))), some (.d (.list (intsD (b.set (n - 1) (x + n * r))))), some (.d (.int r)), v8', v9', v10, v11], N2.set i o3 ++ [.gone], ?_, ?_, tt, b.set (n - 1) (x + n * r), o3, J ++ [.gone], rfl, ?_, B3.mono (by omega), ⟨htt, L5.len, L5.nn⟩, ⟨L5.res.symm, by have := L5.sum; simpa using this.symm⟩⟩
        · simp only [defM, startE, seqS_a, setS_a, bindS_ok, bindS_er, then_nx, then_rt, then_er, ifS_a, ifK_t, ifK_f, retS_a, dropS_a, asgS_a, asK_a, goG_ok, subT_a, nopS_a, getV_0, getV_s, cst_a, op2_a, o2a_ok, o2b_ok, opT_a, oTa_ok, oTb_ok, consA_a, cAa_ok, cAb_ok, nilA_a, callF_a, cFa_ok, callE_a, cEa_ok, newE_a, nwa_ok, datE_a, dta_ok, dispE_a, tupE_a, tpa_ok, asDs_a, datas, bind_ok, pur_ok, bool_b, leave_d, leave_nx, leave_er, ifE_a, ifa_t, ifa_f, notT_a, nta_ok, andT_a, ana_t, ana_f, orT_a, ora_t, ora_f, tstE_a, tsa_b, andE_a, aEa_t, aEa_f, orE_a, oEa_t, oEa_f, notE_a, nEa_ok, add_ii, sub_ii, gt_ii, lt_ii, ge_ii, le_ii, setT_a, consT_a, cTa_ok, nilT_a, tupT_a, seqT_t, seqT_l, forS_a, List.map_cons, List.map_nil, List.length_cons, List.length_nil, Nat.reduceAdd, Nat.reduceSub, Nat.zero_add, Nat.add_zero, List.replicate, List.cons_append, List.nil_append, List.append_nil, List.getElem?_cons_zero, List.getElem?_cons_succ, List.set_cons_zero, List.set_cons_succ, List.getElem?_nil, Option.map_some, Option.map_none, Option.bind_some, if_true, if_false, ite_true, ite_false, eq_self_iff_true, and_self, and_true, true_and, decide_true, decide_false, Bool.false_eq_true, Bool.not_true, Bool.not_false, sizeLine, Nat.reducePow, Nat.reduceLeDiff, Nat.zero_le, pow_7, pow_18, pow_40]
        · simp only [defM, startE, seqS_a, setS_a, bindS_ok, bindS_er, then_nx, then_rt, then_er, ifS_a, ifK_t, ifK_f, retS_a, dropS_a, asgS_a, asK_a, goG_ok, subT_a, nopS_a, getV_0, getV_s, cst_a, op2_a, o2a_ok, o2b_ok, opT_a, oTa_ok, oTb_ok, consA_a, cAa_ok, cAb_ok, nilA_a, callF_a, cFa_ok, callE_a, cEa_ok, newE_a, nwa_ok, datE_a, dta_ok, dispE_a, tupE_a, tpa_ok, asDs_a, datas, bind_ok, pur_ok, bool_b, leave_d, leave_nx, leave_er, ifE_a, ifa_t, ifa_f, notT_a, nta_ok, andT_a, ana_t, ana_f, orT_a, ora_t, ora_f, tstE_a, tsa_b, andE_a, aEa_t, aEa_f, orE_a, oEa_t, oEa_f, notE_a, nEa_ok, add_ii, sub_ii, gt_ii, lt_ii, ge_ii, le_ii, setT_a, consT_a, cTa_ok, nilT_a, tupT_a, seqT_t, seqT_l, forS_a, List.map_cons, List.map_nil, List.length_cons, List.length_nil, Nat.reduceAdd, Nat.reduceSub, Nat.zero_add, Nat.add_zero, List.replicate, List.cons_append, List.nil_append, List.append_nil, List.getElem?_cons_zero, List.getElem?_cons_succ, List.set_cons_zero, List.set_cons_succ, List.getElem?_nil, Option.map_some, Option.map_none, Option.bind_some, if_true, if_false, ite_true, ite_false, eq_self_iff_true, and_self, and_true, true_and, decide_true, decide_false, Bool.false_eq_true, Bool.not_true, Bool.not_false, sizeLine, Nat.reducePow, Nat.reduceLeDiff, Nat.zero_le, pow_7, pow_18, pow_40, hrg, e1, tup_l, hlc, i1, sum_t, hsum, fdiv_ii (show (0 : Int) < (n : Nat) by omega) (by omega), hrest, hr0, hr1, el, negE_a, nga_ok, hixv, mul_ii (i := (n : Int)) (j := r) (.inl (by omega)), hput, fz]
        · rw [← hN2, ga_set hi, List.append_assoc]
      · refine .inl ⟨[some (.h i), some (.d (stD ss ps)), some (.d (.int (n : Nat))), some (.d (.tuple (intsD (resI ss ps)))), some (.d z), v5, v6, v7, v8, v9, v10, v11], M.set i o1 ++ J, [some (.h i), some (.d (stD ss ps)), some (.d (.int (n : Nat))), some (.d (.tuple (intsD (resI ss ps)))), some (.d z), some (.d (.tuple (tt.map nD))), some (.h N2.length), some (.d (.int rest)), v8, v9, v10, v11], N2 ++ [.lst (intsD (leastI n (resI ss ps) tt))], ?_, ?_, o2, J ++ [.lst (intsD (leastI n (resI ss ps) tt))], _, _, _, _, _, _, _, _, rfl, by rw [← hN2, List.append_assoc], B1.mono (by omega)⟩
        · simp only [defM, startE, seqS_a, setS_a, bindS_ok, bindS_er, then_nx, then_rt, then_er, ifS_a, ifK_t, ifK_f, retS_a, dropS_a, asgS_a, asK_a, goG_ok, subT_a, nopS_a, getV_0, getV_s, cst_a, op2_a, o2a_ok, o2b_ok, opT_a, oTa_ok, oTb_ok, consA_a, cAa_ok, cAb_ok, nilA_a, callF_a, cFa_ok, callE_a, cEa_ok, newE_a, nwa_ok, datE_a, dta_ok, dispE_a, tupE_a, tpa_ok, asDs_a, datas, bind_ok, pur_ok, bool_b, leave_d, leave_nx, leave_er, ifE_a, ifa_t, ifa_f, notT_a, nta_ok, andT_a, ana_t, ana_f, orT_a, ora_t, ora_f, tstE_a, tsa_b, andE_a, aEa_t, aEa_f, orE_a, oEa_t, oEa_f, notE_a, nEa_ok, add_ii, sub_ii, gt_ii, lt_ii, ge_ii, le_ii, setT_a, consT_a, cTa_ok, nilT_a, tupT_a, seqT_t, seqT_l, forS_a, List.map_cons, List.map_nil, List.length_cons, List.length_nil, Nat.reduceAdd, Nat.reduceSub, Nat.zero_add, Nat.add_zero, List.replicate, List.cons_append, List.nil_append, List.append_nil, List.getElem?_cons_zero, List.getElem?_cons_succ, List.set_cons_zero, List.set_cons_succ, List.getElem?_nil, Option.map_some, Option.map_none, Option.bind_some, if_true, if_false, ite_true, ite_false, eq_self_iff_true, and_self, and_true, true_and, decide_true, decide_false, Bool.false_eq_true, Bool.not_true, Bool.not_false, sizeLine, Nat.reducePow, Nat.reduceLeDiff, Nat.zero_le, pow_7, pow_18, pow_40]
        · simp only [defM, startE, seqS_a, setS_a, bindS_ok, bindS_er, then_nx, then_rt, then_er, ifS_a, ifK_t, ifK_f, retS_a, dropS_a, asgS_a, asK_a, goG_ok, subT_a, nopS_a, getV_0, getV_s, cst_a, op2_a, o2a_ok, o2b_ok, opT_a, oTa_ok, oTb_ok, consA_a, cAa_ok, cAb_ok, nilA_a, callF_a, cFa_ok, callE_a, cEa_ok, newE_a, nwa_ok, datE_a, dta_ok, dispE_a, tupE_a, tpa_ok, asDs_a, datas, bind_ok, pur_ok, bool_b, leave_d, leave_nx, leave_er, ifE_a, ifa_t, ifa_f, notT_a, nta_ok, andT_a, ana_t, ana_f, orT_a, ora_t, ora_f, tstE_a, tsa_b, andE_a, aEa_t, aEa_f, orE_a, oEa_t, oEa_f, notE_a, nEa_ok, add_ii, sub_ii, gt_ii, lt_ii, ge_ii, le_ii, setT_a, consT_a, cTa_ok, nilT_a, tupT_a, seqT_t, seqT_l, forS_a, List.map_cons, List.map_nil, List.length_cons, List.length_nil, Nat.reduceAdd, Nat.reduceSub, Nat.zero_add, Nat.add_zero, List.replicate, List.cons_append, List.nil_append, List.append_nil, List.getElem?_cons_zero, List.getElem?_cons_succ, List.set_cons_zero, List.set_cons_succ, List.getElem?_nil, Option.map_some, Option.map_none, Option.bind_some, if_true, if_false, ite_true, ite_false, eq_self_iff_true, and_self, and_true, true_and, decide_true, decide_false, Bool.false_eq_true, Bool.not_true, Bool.not_false, sizeLine, Nat.reducePow, Nat.reduceLeDiff, Nat.zero_le, pow_7, pow_18, pow_40, hrg, e1, tup_l, hlc, i1, sum_t, hsum, fdiv_ii (show (0 : Int) < (n : Nat) by omega) (by omega), hrest, hr0])
    ⟨o, [], none, none, none, none, none, none, none, none, rfl, by rw [set_self hM, List.append_nil], hB⟩
  rw [List.drop_zero] at key
  rcases key with ⟨e', M', el, o', J, v4, v5, v6, v7, v8, v9, v10, v11, rfl, rfl, B⟩ | ⟨v, e', M', el, s1, p1, o', J, rfl, rfl, B, hs, hlot⟩
  · refine ⟨ss, ps, o', ?_, B.mono (by show n0 + 2000000 * 8 ≤ _; omega), h, .rfl'⟩
    unfold m_like g_like
    simp only [defM, startE, seqS_a, setS_a, bindS_ok, bindS_er, then_nx, then_rt, then_er, ifS_a, ifK_t, ifK_f, retS_a, dropS_a, asgS_a, asK_a, goG_ok, subT_a, nopS_a, getV_0, getV_s, cst_a, op2_a, o2a_ok, o2b_ok, opT_a, oTa_ok, oTb_ok, consA_a, cAa_ok, cAb_ok, nilA_a, callF_a, cFa_ok, callE_a, cEa_ok, newE_a, nwa_ok, datE_a, dta_ok, dispE_a, tupE_a, tpa_ok, asDs_a, datas, bind_ok, pur_ok, bool_b, leave_d, leave_nx, leave_er, ifE_a, ifa_t, ifa_f, notT_a, nta_ok, andT_a, ana_t, ana_f, orT_a, ora_t, ora_f, tstE_a, tsa_b, andE_a, aEa_t, aEa_f, orE_a, oEa_t, oEa_f, notE_a, nEa_ok, add_ii, sub_ii, gt_ii, lt_ii, ge_ii, le_ii, setT_a, consT_a, cTa_ok, nilT_a, tupT_a, seqT_t, seqT_l, forS_a, List.map_cons, List.map_nil, List.length_cons, List.length_nil, Nat.reduceAdd, Nat.reduceSub, Nat.zero_add, Nat.add_zero, List.replicate, List.cons_append, List.nil_append, List.append_nil, List.getElem?_cons_zero, List.getElem?_cons_succ, List.set_cons_zero, List.set_cons_succ, List.getElem?_nil, Option.map_some, Option.map_none, Option.bind_some, if_true, if_false, ite_true, ite_false, eq_self_iff_true, and_self, and_true, true_and, decide_true, decide_false, Bool.false_eq_true, Bool.not_true, Bool.not_false, sizeLine, Nat.reducePow, Nat.reduceLeDiff, Nat.zero_le, pow_7, pow_18, pow_40, i0, len_t, List.length_map, hl, l_kept_ok (M := M) (ss := ss) (ps := ps) (by omega), r8, el]
    rw [ga_take]
  · refine ⟨s1, p1, o', ?_, B.mono (by omega), hs, hlot⟩
    unfold m_like g_like
    simp only [defM, startE, seqS_a, setS_a, bindS_ok, bindS_er, then_nx, then_rt, then_er, ifS_a, ifK_t, ifK_f, retS_a, dropS_a, asgS_a, asK_a, goG_ok, subT_a, nopS_a, getV_0, getV_s, cst_a, op2_a, o2a_ok, o2b_ok, opT_a, oTa_ok, oTb_ok, consA_a, cAa_ok, cAb_ok, nilA_a, callF_a, cFa_ok, callE_a, cEa_ok, newE_a, nwa_ok, datE_a, dta_ok, dispE_a, tupE_a, tpa_ok, asDs_a, datas, bind_ok, pur_ok, bool_b, leave_d, leave_nx, leave_er, ifE_a, ifa_t, ifa_f, notT_a, nta_ok, andT_a, ana_t, ana_f, orT_a, ora_t, ora_f, tstE_a, tsa_b, andE_a, aEa_t, aEa_f, orE_a, oEa_t, oEa_f, notE_a, nEa_ok, add_ii, sub_ii, gt_ii, lt_ii, ge_ii, le_ii, setT_a, consT_a, cTa_ok, nilT_a, tupT_a, seqT_t, seqT_l, forS_a, List.map_cons, List.map_nil, List.length_cons, List.length_nil, Nat.reduceAdd, Nat.reduceSub, Nat.zero_add, Nat.add_zero, List.replicate, List.cons_append, List.nil_append, List.append_nil, List.getElem?_cons_zero, List.getElem?_cons_succ, List.set_cons_zero, List.set_cons_succ, List.getElem?_nil, Option.map_some, Option.map_none, Option.bind_some, if_true, if_false, ite_true, ite_false, eq_self_iff_true, and_self, and_true, true_and, decide_true, decide_false, Bool.false_eq_true, Bool.not_true, Bool.not_false, sizeLine, Nat.reducePow, Nat.reduceLeDiff, Nat.zero_le, pow_7, pow_18, pow_40, i0, len_t, List.length_map, hl, l_kept_ok (M := M) (ss := ss) (ps := ps) (by omega), r8, el]
    rw [ga_take]
end C
end DL

namespace DL
open PySem PySem.Spec L2
/-! ### texts of several states; a law that goes through its cells -/
theorem bulkAll_le {B : Nat} : ∀ xs : List PyData, (∀ x ∈ xs, x.bulk ≤ B) → PyData.bulkAll xs ≤ (B + 1) * xs.length
  | [], _ => by rw [PyData.bulkAll]; simp
  | x :: xs, h => by
    have h1 := h x List.mem_cons_self
    have h2 := bulkAll_le xs fun y hy => h y (List.mem_cons_of_mem _ hy)
    rw [PyData.bulkAll, List.length_cons, Nat.mul_succ]
    omega
theorem bulk_ints {xs : List Int} : (PyData.tuple (intsD xs)).bulk ≤ xs.length := by
  rw [PyData.bulk]
  have := bulkAll_le (B := 0) (intsD xs) (fun x hx => by
    obtain ⟨i, _, rfl⟩ := List.mem_map.mp hx
    rw [PyData.bulk]
    exact Nat.le_refl _)
  simpa using this
theorem gd_ints {xs : List Int} {B : Nat} (h : ∀ x ∈ xs, x.natAbs ≤ B) : gd B 1 (.tuple (intsD xs)) = true := gd_mkt fun y hy => by
  obtain ⟨i, hi, rfl⟩ := List.mem_map.mp hy
  simpa [gd] using h i hi
theorem gd_st {n : Nat} {ss : List Nat} {ps : List Int} (h : Stt n ss ps) (hn : n ≤ 1000) (hS : ps.sum ≤ 10 ^ 60) : gd (10 ^ 60) 2 (stD ss ps) = true ∧ (stD ss ps).bulk ≤ 3000 := by
  refine ⟨gd_mkt fun y hy => ?_, ?_⟩
  · rcases List.mem_cons.mp hy with rfl | hy
    · rw [nats_ints]
      refine gd_ints fun x hx => ?_
      obtain ⟨s, hs, rfl⟩ := List.mem_map.mp hx
      have := List.mem_range.mp (h.perm.mem_iff.mp hs)
      omega
    · rcases List.mem_cons.mp hy with rfl | hy
      · refine gd_ints fun x hx => ?_
        have h1 := h.nn x hx
        have h2 := (sum_nn ps h.nn).2 x hx
        omega
      · cases hy
  · unfold stD
    rw [PyData.bulk, nats_ints]
    have h1 := bulk_ints (xs := castI ss)
    have h2 : (PyData.tuple (List.map PyData.int ps)).bulk ≤ ps.length := bulk_ints
    rw [PyData.bulkAll, PyData.bulkAll, PyData.bulkAll]
    have h3 := h.len
    have h4 := h.slen
    simp only [List.length_map] at h1
    simp only [castI] at *
    omega
/-- the text of some states -/
theorem repr_sts {n : Nat} {xs : List PyData} (hn : n ≤ 1000) (hl : xs.length ≤ 20) (h : ∀ x ∈ xs, ∃ ss ps, x = stD ss ps ∧ Stt n ss ps ∧ ps.sum ≤ 10 ^ 60) (M : Mem) : reprV [.d (.list xs)] M = .ok (.d (.str (PyData.list xs).shown)) M := by
  refine repr_gd (B := 10 ^ 60) (k := 3) (by decide) (by decide) (gd_mkl fun x hx => ?_) ?_
  · obtain ⟨ss, ps, rfl, h1, h2⟩ := h x hx
    exact (gd_st h1 hn h2).1
  · rw [PyData.bulk]
    have := bulkAll_le (B := 3000) xs fun x hx => by
      obtain ⟨ss, ps, rfl, h1, h2⟩ := h x hx
      exact (gd_st h1 hn h2).2
    have e : (3000 + 1) * xs.length ≤ (3000 + 1) * 20 := Nat.mul_le_mul_left _ hl
    omega
theorem rep_l {f g : Ev} {e : Env} {M M1 M2 : Mem} {xs : List PyData} {n : Nat} (h1 : f e M = .ok (.d (.list xs)) M1) (h : g e M1 = .ok (.d (.int (n : Nat))) M2) (hl : xs.length ≤ 1000) (hn : n ≤ 1000) : repE f g e M = .ok (List.replicate n xs).flatten M2 := by
  unfold repE
  rw [h1, bind_ok, h, bind_ok]
  have hs : sizeLine = 2 ^ 24 := rfl
  have hm : xs.length * n ≤ 1000 * 1000 := Nat.mul_le_mul hl hn
  refine (if_pos ⟨by omega, by omega, by rw [hs]; simp; omega⟩).trans ?_
  simp
namespace C
/-- the law's own loop: so many cells, so many turns each -/
def lawG (k t : Int) (right : Fn) : Sv := (seqS (setS 1 (callF 2 C.m_cells (consA (getV 0) (consA (cst (.d (.int k))) nilA)))) (seqS (forS (rngI1 (callE lenV (consA (getV 1) nilA))) (setT 2) (seqS (setS 3 (callF 2 C.m_box (consA (getV 1) (consA (getV 2) nilA)))) (ifS (notT (tstE (callE allV (consA (datE (lcE [4] (rngI1 (cst (.d (.int t)))) (setT 4) (fun _ M => .ok true M) (callF 1 right (consA (getV 3) nilA)))) nilA)))) (retS (cst (.d (.bool false)))) nopS))) (retS (cst (.d (.bool true))))))
theorem law_gen {right : Fn} {k t : Nat} (hk : 0 < k) (hk2 : k ≤ 63) (ht : t ≤ 10) (hright : ∀ (n i : Nat) (M : Mem) (o : MO), M[i]? = some o → Bx n o → n + 10 ^ 12 ≤ 2 ^ 44 → ∃ o', right [.h i] M = .ok (.d (.bool true)) (M.set i o') ∧ Bx (n + 10 ^ 12) o')
    (ns : List Int) (hn : ns.length ≤ 63) : ∃ M, defM 5 0 (lawG k t right) [.s (ns.map PyData.int)] [] = .ok (.d (.bool true)) M := by
  have hsz : sizeLine = 2 ^ 24 := rfl
  obtain ⟨cs, e1, hc, hl⟩ := cells_ok (k := k) (by omega) (by omega) hn (M := [])
  have hrl : (rangeD 0 (t : Int)).length = t := by rw [rangeD_nat]; simp
  have r4 : ∀ (e : Env) (N : Mem), rngI1 (cst (.d (.int (t : Nat)))) e N = .ok (rangeD 0 (t : Int)) N := fun e N => rngI1_a (by simp only [defM, startE, seqS_a, setS_a, bindS_ok, bindS_er, then_nx, then_rt, then_er, ifS_a, ifK_t, ifK_f, retS_a, dropS_a, asgS_a, asK_a, goG_ok, subT_a, nopS_a, getV_0, getV_s, cst_a, op2_a, o2a_ok, o2b_ok, opT_a, oTa_ok, oTb_ok, consA_a, cAa_ok, cAb_ok, nilA_a, callF_a, cFa_ok, callE_a, cEa_ok, newE_a, nwa_ok, datE_a, dta_ok, dispE_a, tupE_a, tpa_ok, asDs_a, datas, bind_ok, pur_ok, bool_b, leave_d, leave_nx, leave_er, ifE_a, ifa_t, ifa_f, notT_a, nta_ok, andT_a, ana_t, ana_f, orT_a, ora_t, ora_f, tstE_a, tsa_b, andE_a, aEa_t, aEa_f, orE_a, oEa_t, oEa_f, notE_a, nEa_ok, add_ii, sub_ii, gt_ii, lt_ii, ge_ii, le_ii, setT_a, consT_a, cTa_ok, nilT_a, tupT_a, seqT_t, seqT_l, forS_a, List.map_cons, List.map_nil, List.length_cons, List.length_nil, Nat.reduceAdd, Nat.reduceSub, Nat.zero_add, Nat.add_zero, List.replicate, List.cons_append, List.nil_append, List.append_nil, List.getElem?_cons_zero, List.getElem?_cons_succ, List.set_cons_zero, List.set_cons_succ, List.getElem?_nil, Option.map_some, Option.map_none, Option.bind_some, if_true, if_false, ite_true, ite_false, eq_self_iff_true, and_self, and_true, true_and, decide_true, decide_false, Bool.false_eq_true, Bool.not_true, Bool.not_false, sizeLine, Nat.reducePow, Nat.reduceLeDiff, Nat.zero_le, pow_7, pow_18, pow_40]) (by constructor <;> omega)
  obtain ⟨e', M', el, v2, v3, v4, rfl⟩ := forL_all (γ := setT 2) (g := seqS (setS 3 (callF 2 C.m_box (consA (getV 1) (consA (getV 2) nilA)))) (ifS (notT (tstE (callE allV (consA (datE (lcE [4] (rngI1 (cst (.d (.int (t : Nat))))) (setT 4) (fun _ M => .ok true M) (callF 1 right (consA (getV 3) nilA)))) nilA)))) (retS (cst (.d (.bool false)))) nopS))
    (fun j e M2 => ∃ (v2 v3 v4 : Option Vl), e = [some (.s (ns.map PyData.int)), some (.d (.list (cs.map PyData.int))), v2, v3, v4])
    (xs := rangeD 0 (cs.length : Nat)) (e := [some (.s (ns.map PyData.int)), some (.d (.list (cs.map PyData.int))), none, none, none]) (M := [])
    (by
      rintro j z e M2 hz ⟨v2, v3, v4, rfl⟩
      rw [rangeD_nat, List.getElem?_map] at hz
      obtain ⟨p, hp1, rfl⟩ := Option.map_eq_some_iff.mp hz
      have hpj : p < cs.length := List.mem_range.mp (List.mem_of_getElem? hp1)
      obtain ⟨o, e2, B⟩ := box_ok (M := M2) hpj (by omega)
      obtain ⟨ys, M3, e3, ⟨o3, rfl, _⟩, hyl, hy⟩ := lcL_all (γ := setT 4) (t := fun _ M => .ok true M) (h := callF 1 right (consA (getV 3) nilA)) (ew := [some (.s (ns.map PyData.int)), some (.d (.list (cs.map PyData.int))), some (.d (.int (p : Nat))), some (.h M2.length), none])
        (fun k N => ∃ o', N = M2 ++ [o'] ∧ Bx (10 ^ 12 * k) o') (fun _ _ y => y = .bool true) (rangeD 0 (t : Int)) 0 [] (M2 ++ [o]) (Nat.zero_le _) (by rw [hsz, hrl]; simp; omega)
        (by
          rintro k x N hx ⟨o', rfl, B'⟩
          have hk : k < t := by rw [← hrl]; exact lt_of_getL hx
          obtain ⟨o4, e4, B4⟩ := hright (10 ^ 12 * k) M2.length (M2 ++ [o']) o' (m1_a rfl) B' (by omega)
          rw [m1_sa rfl] at e4
          refine ⟨[some (.s (ns.map PyData.int)), some (.d (.list (cs.map PyData.int))), some (.d (.int (p : Nat))), some (.h M2.length), some (.d x)], M2 ++ [o'], M2 ++ [o'], .bool true, M2 ++ [o4], rfl, rfl, ?_, ⟨o4, rfl, B4.mono (by omega)⟩, rfl⟩
          simp only [defM, startE, seqS_a, setS_a, bindS_ok, bindS_er, then_nx, then_rt, then_er, ifS_a, ifK_t, ifK_f, retS_a, dropS_a, asgS_a, asK_a, goG_ok, subT_a, nopS_a, getV_0, getV_s, cst_a, op2_a, o2a_ok, o2b_ok, opT_a, oTa_ok, oTb_ok, consA_a, cAa_ok, cAb_ok, nilA_a, callF_a, cFa_ok, callE_a, cEa_ok, newE_a, nwa_ok, datE_a, dta_ok, dispE_a, tupE_a, tpa_ok, asDs_a, datas, bind_ok, pur_ok, bool_b, leave_d, leave_nx, leave_er, ifE_a, ifa_t, ifa_f, notT_a, nta_ok, andT_a, ana_t, ana_f, orT_a, ora_t, ora_f, tstE_a, tsa_b, andE_a, aEa_t, aEa_f, orE_a, oEa_t, oEa_f, notE_a, nEa_ok, add_ii, sub_ii, gt_ii, lt_ii, ge_ii, le_ii, setT_a, consT_a, cTa_ok, nilT_a, tupT_a, seqT_t, seqT_l, forS_a, List.map_cons, List.map_nil, List.length_cons, List.length_nil, Nat.reduceAdd, Nat.reduceSub, Nat.zero_add, Nat.add_zero, List.replicate, List.cons_append, List.nil_append, List.append_nil, List.getElem?_cons_zero, List.getElem?_cons_succ, List.set_cons_zero, List.set_cons_succ, List.getElem?_nil, Option.map_some, Option.map_none, Option.bind_some, if_true, if_false, ite_true, ite_false, eq_self_iff_true, and_self, and_true, true_and, decide_true, decide_false, Bool.false_eq_true, Bool.not_true, Bool.not_false, sizeLine, Nat.reducePow, Nat.reduceLeDiff, Nat.zero_le, pow_7, pow_18, pow_40, e4])
        ⟨o, rfl, B.mono (by omega)⟩
      rw [List.drop_zero, List.nil_append] at e3
      have hys : ∀ y ∈ ys, y = .bool true := fun y hy' => by
        obtain ⟨k, hk⟩ := List.getElem?_of_mem hy'
        have hkl := lt_of_getL hk
        have hkr : k < (rangeD 0 (t : Int)).length := by omega
        exact hy k _ y (by rw [Nat.zero_add]; exact List.getElem?_eq_getElem hkr) hk
      have hlc : lcE [4] (rngI1 (cst (.d (.int (t : Nat))))) (setT 4) (fun _ M => .ok true M) (callF 1 right (consA (getV 3) nilA)) [some (.s (ns.map PyData.int)), some (.d (.list (cs.map PyData.int))), some (.d (.int (p : Nat))), some (.h M2.length), v4] (M2 ++ [o]) = .ok ys (M2 ++ [o3]) := by
        rw [lcE_at (r4 _ _)]
        exact e3
      refine ⟨[some (.s (ns.map PyData.int)), some (.d (.list (cs.map PyData.int))), some (.d (.int (p : Nat))), v3, v4], M2, [some (.s (ns.map PyData.int)), some (.d (.list (cs.map PyData.int))), some (.d (.int (p : Nat))), some (.h M2.length), v4], M2 ++ [o3], ?_, ?_, _, _, _, rfl⟩
      · simp only [defM, startE, seqS_a, setS_a, bindS_ok, bindS_er, then_nx, then_rt, then_er, ifS_a, ifK_t, ifK_f, retS_a, dropS_a, asgS_a, asK_a, goG_ok, subT_a, nopS_a, getV_0, getV_s, cst_a, op2_a, o2a_ok, o2b_ok, opT_a, oTa_ok, oTb_ok, consA_a, cAa_ok, cAb_ok, nilA_a, callF_a, cFa_ok, callE_a, cEa_ok, newE_a, nwa_ok, datE_a, dta_ok, dispE_a, tupE_a, tpa_ok, asDs_a, datas, bind_ok, pur_ok, bool_b, leave_d, leave_nx, leave_er, ifE_a, ifa_t, ifa_f, notT_a, nta_ok, andT_a, ana_t, ana_f, orT_a, ora_t, ora_f, tstE_a, tsa_b, andE_a, aEa_t, aEa_f, orE_a, oEa_t, oEa_f, notE_a, nEa_ok, add_ii, sub_ii, gt_ii, lt_ii, ge_ii, le_ii, setT_a, consT_a, cTa_ok, nilT_a, tupT_a, seqT_t, seqT_l, forS_a, List.map_cons, List.map_nil, List.length_cons, List.length_nil, Nat.reduceAdd, Nat.reduceSub, Nat.zero_add, Nat.add_zero, List.replicate, List.cons_append, List.nil_append, List.append_nil, List.getElem?_cons_zero, List.getElem?_cons_succ, List.set_cons_zero, List.set_cons_succ, List.getElem?_nil, Option.map_some, Option.map_none, Option.bind_some, if_true, if_false, ite_true, ite_false, eq_self_iff_true, and_self, and_true, true_and, decide_true, decide_false, Bool.false_eq_true, Bool.not_true, Bool.not_false, sizeLine, Nat.reducePow, Nat.reduceLeDiff, Nat.zero_le, pow_7, pow_18, pow_40]
      · simp only [defM, startE, seqS_a, setS_a, bindS_ok, bindS_er, then_nx, then_rt, then_er, ifS_a, ifK_t, ifK_f, retS_a, dropS_a, asgS_a, asK_a, goG_ok, subT_a, nopS_a, getV_0, getV_s, cst_a, op2_a, o2a_ok, o2b_ok, opT_a, oTa_ok, oTb_ok, consA_a, cAa_ok, cAb_ok, nilA_a, callF_a, cFa_ok, callE_a, cEa_ok, newE_a, nwa_ok, datE_a, dta_ok, dispE_a, tupE_a, tpa_ok, asDs_a, datas, bind_ok, pur_ok, bool_b, leave_d, leave_nx, leave_er, ifE_a, ifa_t, ifa_f, notT_a, nta_ok, andT_a, ana_t, ana_f, orT_a, ora_t, ora_f, tstE_a, tsa_b, andE_a, aEa_t, aEa_f, orE_a, oEa_t, oEa_f, notE_a, nEa_ok, add_ii, sub_ii, gt_ii, lt_ii, ge_ii, le_ii, setT_a, consT_a, cTa_ok, nilT_a, tupT_a, seqT_t, seqT_l, forS_a, List.map_cons, List.map_nil, List.length_cons, List.length_nil, Nat.reduceAdd, Nat.reduceSub, Nat.zero_add, Nat.add_zero, List.replicate, List.cons_append, List.nil_append, List.append_nil, List.getElem?_cons_zero, List.getElem?_cons_succ, List.set_cons_zero, List.set_cons_succ, List.getElem?_nil, Option.map_some, Option.map_none, Option.bind_some, if_true, if_false, ite_true, ite_false, eq_self_iff_true, and_self, and_true, true_and, decide_true, decide_false, Bool.false_eq_true, Bool.not_true, Bool.not_false, sizeLine, Nat.reducePow, Nat.reduceLeDiff, Nat.zero_le, pow_7, pow_18, pow_40, e2, hlc, all_true' hys])
    ⟨none, none, none, rfl⟩
  have hr : rngI1 (callE lenV (consA (getV 1) nilA)) [some (.s (ns.map PyData.int)), some (.d (.list (cs.map PyData.int))), none, none, none] [] = .ok (rangeD 0 (cs.length : Nat)) [] := rngI1_a (by simp only [defM, startE, seqS_a, setS_a, bindS_ok, bindS_er, then_nx, then_rt, then_er, ifS_a, ifK_t, ifK_f, retS_a, dropS_a, asgS_a, asK_a, goG_ok, subT_a, nopS_a, getV_0, getV_s, cst_a, op2_a, o2a_ok, o2b_ok, opT_a, oTa_ok, oTb_ok, consA_a, cAa_ok, cAb_ok, nilA_a, callF_a, cFa_ok, callE_a, cEa_ok, newE_a, nwa_ok, datE_a, dta_ok, dispE_a, tupE_a, tpa_ok, asDs_a, datas, bind_ok, pur_ok, bool_b, leave_d, leave_nx, leave_er, ifE_a, ifa_t, ifa_f, notT_a, nta_ok, andT_a, ana_t, ana_f, orT_a, ora_t, ora_f, tstE_a, tsa_b, andE_a, aEa_t, aEa_f, orE_a, oEa_t, oEa_f, notE_a, nEa_ok, add_ii, sub_ii, gt_ii, lt_ii, ge_ii, le_ii, setT_a, consT_a, cTa_ok, nilT_a, tupT_a, seqT_t, seqT_l, forS_a, List.map_cons, List.map_nil, List.length_cons, List.length_nil, Nat.reduceAdd, Nat.reduceSub, Nat.zero_add, Nat.add_zero, List.replicate, List.cons_append, List.nil_append, List.append_nil, List.getElem?_cons_zero, List.getElem?_cons_succ, List.set_cons_zero, List.set_cons_succ, List.getElem?_nil, Option.map_some, Option.map_none, Option.bind_some, if_true, if_false, ite_true, ite_false, eq_self_iff_true, and_self, and_true, true_and, decide_true, decide_false, Bool.false_eq_true, Bool.not_true, Bool.not_false, sizeLine, Nat.reducePow, Nat.reduceLeDiff, Nat.zero_le, pow_7, pow_18, pow_40, len_l, List.length_map]) (by omega)
  refine ⟨M'.take 0, ?_⟩
  unfold lawG
  simp only [defM, startE, seqS_a, setS_a, bindS_ok, bindS_er, then_nx, then_rt, then_er, ifS_a, ifK_t, ifK_f, retS_a, dropS_a, asgS_a, asK_a, goG_ok, subT_a, nopS_a, getV_0, getV_s, cst_a, op2_a, o2a_ok, o2b_ok, opT_a, oTa_ok, oTb_ok, consA_a, cAa_ok, cAb_ok, nilA_a, callF_a, cFa_ok, callE_a, cEa_ok, newE_a, nwa_ok, datE_a, dta_ok, dispE_a, tupE_a, tpa_ok, asDs_a, datas, bind_ok, pur_ok, bool_b, leave_d, leave_nx, leave_er, ifE_a, ifa_t, ifa_f, notT_a, nta_ok, andT_a, ana_t, ana_f, orT_a, ora_t, ora_f, tstE_a, tsa_b, andE_a, aEa_t, aEa_f, orE_a, oEa_t, oEa_f, notE_a, nEa_ok, add_ii, sub_ii, gt_ii, lt_ii, ge_ii, le_ii, setT_a, consT_a, cTa_ok, nilT_a, tupT_a, seqT_t, seqT_l, forS_a, List.map_cons, List.map_nil, List.length_cons, List.length_nil, Nat.reduceAdd, Nat.reduceSub, Nat.zero_add, Nat.add_zero, List.replicate, List.cons_append, List.nil_append, List.append_nil, List.getElem?_cons_zero, List.getElem?_cons_succ, List.set_cons_zero, List.set_cons_succ, List.getElem?_nil, Option.map_some, Option.map_none, Option.bind_some, if_true, if_false, ite_true, ite_false, eq_self_iff_true, and_self, and_true, true_and, decide_true, decide_false, Bool.false_eq_true, Bool.not_true, Bool.not_false, sizeLine, Nat.reducePow, Nat.reduceLeDiff, Nat.zero_le, pow_7, pow_18, pow_40, e1, hr, el]
end C
end DL

namespace DL
open PySem PySem.Spec L2
/-! ### how often people pass one another: plain -/
/-- pairs x, y below n, x below y -/
def pairs (n : Nat) : List (Nat × Nat) := (List.range n).flatMap fun x => (List.range' (x + 1) (n - (x + 1))).map fun y => (x, y)
theorem mem_pairs {n : Nat} {z : Nat × Nat} : z ∈ pairs n ↔ z.1 < z.2 ∧ z.2 < n := by
  unfold pairs
  rw [List.mem_flatMap]
  constructor
  · rintro ⟨x, hx, h⟩
    obtain ⟨y, hy, rfl⟩ := List.mem_map.mp h
    rw [List.mem_range'_1] at hy
    have := List.mem_range.mp hx
    show x < y ∧ y < n
    omega
  · rintro ⟨h1, h2⟩
    refine ⟨z.1, List.mem_range.mpr (by omega), List.mem_map.mpr ⟨z.2, ?_, rfl⟩⟩
    rw [List.mem_range'_1]
    omega
theorem nodup_pairs (n : Nat) : (pairs n).Nodup := by
  unfold pairs
  rw [List.nodup_iff_pairwise_ne, List.pairwise_flatMap]
  refine ⟨fun x _ => ?_, ?_⟩
  · rw [List.pairwise_map]
    exact (List.nodup_range' (step := 1)).imp fun {a b} h e => h (congrArg Prod.snd e)
  · refine List.nodup_range.imp fun {a b} h => ?_
    intro z hz w hw e
    obtain ⟨_, _, rfl⟩ := List.mem_map.mp hz
    obtain ⟨_, _, rfl⟩ := List.mem_map.mp hw
    exact h (congrArg Prod.fst e)
abbrev absI (i : Int) : Int := if i < 0 then -i else i
theorem absI_nn (i : Int) : 0 ≤ absI i := by unfold absI; split <;> omega
theorem sum_map_add {α : Type} (f g : α → Int) : ∀ l : List α, (l.map fun z => f z + g z).sum = (l.map f).sum + (l.map g).sum
  | [] => rfl
  | x :: l => by
    rw [List.map_cons, List.map_cons, List.map_cons, List.sum_cons, List.sum_cons, List.sum_cons, sum_map_add f g l]
    omega
theorem sum_map_le {α : Type} (f g : α → Int) : ∀ l : List α, (∀ z ∈ l, f z ≤ g z) → (l.map f).sum ≤ (l.map g).sum
  | [], _ => Int.le_refl _
  | x :: l, h => by
    have h1 := h x List.mem_cons_self
    have h2 := sum_map_le f g l fun z hz => h z (List.mem_cons_of_mem _ hz)
    rw [List.map_cons, List.map_cons, List.sum_cons, List.sum_cons]
    omega
theorem sum_map_congr {α : Type} {f g : α → Int} {l : List α} (h : ∀ z ∈ l, f z = g z) : (l.map f).sum = (l.map g).sum := by
  rw [List.map_congr_left h]
theorem sum_map_even {α : Type} (f : α → Int) : ∀ l : List α, (∀ z ∈ l, f z % 2 = 0) → (l.map f).sum % 2 = 0
  | [], _ => rfl
  | x :: l, h => by
    have h1 := h x List.mem_cons_self
    have h2 := sum_map_even f l fun z hz => h z (List.mem_cons_of_mem _ hz)
    rw [List.map_cons, List.sum_cons]
    omega
theorem sum_map_zero {α : Type} (f : α → Int) : ∀ l : List α, (∀ z ∈ l, 0 ≤ f z) → (l.map f).sum = 0 → ∀ z ∈ l, f z = 0
  | [], _, _, z, hz => by cases hz
  | x :: l, h, h0, z, hz => by
    have h1 := h x List.mem_cons_self
    have hn : ∀ z ∈ l, 0 ≤ f z := fun z hz => h z (List.mem_cons_of_mem _ hz)
    have h2 := sum_map_le (fun _ => 0) f l hn
    have h3 : (l.map fun _ => (0 : Int)).sum = 0 := by
      clear h h0 hz h1 hn h2
      induction l with
      | nil => rfl
      | cons _ _ ih => rw [List.map_cons, List.sum_cons, ih]; rfl
    rw [List.map_cons, List.sum_cons] at h0
    rcases List.mem_cons.mp hz with rfl | hz
    · omega
    · exact sum_map_zero f l hn (by omega) z hz
theorem sum_map_one {α : Type} (f g : α → Int) {z0 : α} : ∀ l : List α, l.Nodup → z0 ∈ l → (∀ z ∈ l, z ≠ z0 → f z = g z) → (l.map f).sum = (l.map g).sum + (f z0 - g z0)
  | [], _, h, _ => by cases h
  | x :: l, hd, hm, h => by
    rw [List.map_cons, List.map_cons, List.sum_cons, List.sum_cons]
    obtain ⟨hx, hl⟩ := List.nodup_cons.mp hd
    rcases List.mem_cons.mp hm with rfl | hm
    · rw [sum_map_congr (f := f) (g := g) (l := l) fun z hz => h z (List.mem_cons_of_mem _ hz) fun e => hx (e ▸ hz)]
      omega
    · have hne : x ≠ z0 := fun e => hx (e ▸ hm)
      rw [sum_map_one f g l hl hm fun z hz => h z (List.mem_cons_of_mem _ hz), h x List.mem_cons_self hne]
      omega
/-! places on the line: a person's residue less the coins -/
/-- everybody's place on the line; seats are places modulo n -/
structure Pl (n : Nat) (s q : Nat → Int) : Prop where
  pos : 0 < n
  lt : ∀ x, x < n → 0 ≤ s x ∧ s x < n
  inj : ∀ x y, x < n → y < n → s x = s y → x = y
  onto : ∀ c : Nat, c < n → ∃ x, x < n ∧ s x = c
  mod : ∀ x, x < n → q x % n = s x
/-- how often y is ahead of x, in rounds -/
def Wn (n : Nat) (q : Nat → Int) (x y : Nat) : Int := (q y - q x) / n
def distW (n : Nat) (q q' : Nat → Int) : Int := ((pairs n).map fun z => absI (Wn n q' z.1 z.2 - Wn n q z.1 z.2)).sum
theorem distW_nn (n : Nat) (q q' : Nat → Int) : 0 ≤ distW n q q' := by
  unfold distW
  have := sum_map_le (fun _ => 0) (fun z : Nat × Nat => absI (Wn n q' z.1 z.2 - Wn n q z.1 z.2)) (pairs n) fun z _ => absI_nn _
  have h3 : ((pairs n).map fun _ => (0 : Int)).sum = 0 := by
    induction pairs n with
    | nil => rfl
    | cons _ _ ih => rw [List.map_cons, List.sum_cons, ih]; rfl
  omega
theorem distW_symm (n : Nat) (q q' : Nat → Int) : distW n q q' = distW n q' q := by
  unfold distW
  exact sum_map_congr fun z _ => by unfold absI; split <;> split <;> omega
theorem distW_tri (n : Nat) (a b c : Nat → Int) : distW n a c ≤ distW n a b + distW n b c := by
  unfold distW
  rw [← sum_map_add]
  exact sum_map_le _ _ _ fun z _ => by unfold absI; split <;> split <;> split <;> omega
theorem distW_even (n : Nat) (a b c : Nat → Int) : (distW n a b + distW n b c + distW n a c) % 2 = 0 := by
  unfold distW
  rw [← sum_map_add, ← sum_map_add]
  exact sum_map_even _ _ fun z _ => by unfold absI; split <;> split <;> split <;> omega
theorem distW_self (n : Nat) (q : Nat → Int) : distW n q q = 0 := by
  unfold distW
  have : ∀ z : Nat × Nat, absI (Wn n q z.1 z.2 - Wn n q z.1 z.2) = 0 := fun z => by unfold absI; split <;> omega
  rw [sum_map_congr (g := fun _ => 0) fun z _ => this z]
  induction pairs n with
  | nil => rfl
  | cons _ _ ih => rw [List.map_cons, List.sum_cons, ih]; rfl
theorem distW_congr {n : Nat} {a a' b b' : Nat → Int} (ha : ∀ x, x < n → a x = a' x) (hb : ∀ x, x < n → b x = b' x) : distW n a b = distW n a' b' := by
  unfold distW
  refine sum_map_congr fun z hz => ?_
  have h := mem_pairs.mp hz
  unfold Wn
  rw [ha z.1 (by omega), ha z.2 h.2, hb z.1 (by omega), hb z.2 h.2]
theorem Pl.ne {n : Nat} {s q : Nat → Int} (h : Pl n s q) {x y : Nat} (hx : x < n) (hy : y < n) (hxy : x ≠ y) : (q y - q x) % n ≠ 0 := fun e => by
  have := Int.emod_eq_emod_iff_emod_sub_eq_zero.mpr e
  rw [h.mod y hy, h.mod x hx] at this
  exact hxy (h.inj y x hy hx this).symm
/-- the order on the line, told by W -/
theorem Wn_le {n : Nat} {q : Nat → Int} (h0 : 0 < n) {x y : Nat} {t : Int} : t ≤ Wn n q x y ↔ n * t + q x ≤ q y := by
  unfold Wn
  rw [Int.le_ediv_iff_mul_le (by omega), Int.mul_comm]
  omega
theorem Wn_swap {n : Nat} {s q : Nat → Int} (h : Pl n s q) {x y : Nat} (hx : x < n) (hy : y < n) (hxy : x ≠ y) : Wn n q y x = - Wn n q x y - 1 := by
  have h0 := h.pos
  have hne := h.ne hx hy hxy
  unfold Wn
  have e : q x - q y = -(q y - q x) := by omega
  rw [e]
  generalize q y - q x = z at *
  have h1 := Int.emod_add_mul_ediv z n
  have h2 := Int.emod_nonneg z (show (n : Int) ≠ 0 by omega)
  have h3 := Int.emod_lt_of_pos z (show (0 : Int) < n by omega)
  have : -z = (n - z % n) + n * (-(z / n) - 1) := by rw [Int.mul_sub, Int.mul_neg]; omega
  rw [this, Int.add_mul_ediv_left _ _ (by omega), Int.ediv_eq_zero_of_lt (by omega) (by omega)]
  omega
/-- who sits behind x on the line, one place ahead -/
theorem Pl.next {n : Nat} {s q : Nat → Int} (h : Pl n s q) {x : Nat} (hx : x < n) : ∃ y t, y < n ∧ q y + n * t = q x + 1 := by
  have h0 := h.pos
  have hs := h.lt x hx
  have hm := h.mod x hx
  have h2 := Int.emod_nonneg (q x + 1) (show (n : Int) ≠ 0 by omega)
  have h3 := Int.emod_lt_of_pos (q x + 1) (show (0 : Int) < n by omega)
  obtain ⟨c, hc⟩ := Int.eq_ofNat_of_zero_le h2
  obtain ⟨y, hy, hys⟩ := h.onto c (by omega)
  have hmy := h.mod y hy
  refine ⟨y, (q x + 1) / n - q y / n, hy, ?_⟩
  have e1 := Int.emod_add_mul_ediv (q y) n
  have e2 := Int.emod_add_mul_ediv (q x + 1) n
  rw [Int.mul_sub]
  omega
/-- nobody has passed anybody: all have gone equally far -/
theorem same_steps {n : Nat} {s q s' q' : Nat → Int} (h : Pl n s q) (h' : Pl n s' q') (hW : ∀ x y, x < n → y < n → x ≠ y → Wn n q' x y = Wn n q x y) {x : Nat} (hx : x < n) (hmax : ∀ z, z < n → q' z - q z ≤ q' x - q x) : ∀ z, z < n → q' z - q z = q' x - q x := by
  have h0 := h.pos
  -- the seat c places ahead
  have key : ∀ c : Nat, ∃ y t, y < n ∧ q y + n * t = q x + c ∧ q' y - q y = q' x - q x := by
    intro c
    induction c with
    | zero => exact ⟨x, 0, hx, by simp, rfl⟩
    | succ c ih =>
      obtain ⟨y, t, hy, e, hd⟩ := ih
      obtain ⟨z, t', hz, e'⟩ := h.next hy
      refine ⟨z, t + t', hz, by rw [Int.mul_add]; push_cast; omega, ?_⟩
      have h1 := hmax z hz
      by_cases hzy : z = y
      · rw [hzy]; exact hd
      · have hw := hW y z hy hz (Ne.symm hzy)
        have a1 : (-t') ≤ Wn n q y z := (Wn_le h0).mpr (by rw [Int.mul_neg]; omega)
        rw [← hw] at a1
        have a2 := (Wn_le h0).mp a1
        rw [Int.mul_neg] at a2
        have hne := h'.ne hy hz (Ne.symm hzy)
        have : q' z - q' y ≠ n * (-t') := fun e => hne (by rw [e]; exact Int.mul_emod_right ..)
        rw [Int.mul_neg] at this
        omega
  intro z hz
  have hm := h.lt z hz
  have hmx := h.lt x hx
  -- z sits (s z - s x) mod n places ahead of x
  have h2 := Int.emod_nonneg (q z - q x) (show (n : Int) ≠ 0 by omega)
  obtain ⟨c, hc⟩ := Int.eq_ofNat_of_zero_le h2
  obtain ⟨y, t, hy, e, hd⟩ := key c
  have : y = z := by
    by_cases hyz : y = z
    · exact hyz
    · refine absurd ?_ (h.ne hy hz hyz)
      have e1 := Int.emod_add_mul_ediv (q z - q x) n
      have : q z - q y = n * ((q z - q x) / n + t) := by rw [Int.mul_add]; omega
      rw [this]
      exact Int.mul_emod_right ..
  rw [← this]
  exact hd
theorem max_at (f : Nat → Int) : ∀ n : Nat, 0 < n → ∃ x, x < n ∧ ∀ z, z < n → f z ≤ f x
  | 0, h => absurd h (by omega)
  | 1, _ => ⟨0, by omega, fun z hz => by have : z = 0 := by omega
                                         rw [this]; exact Int.le_refl _⟩
  | n + 2, _ => by
    obtain ⟨x, hx, h⟩ := max_at f (n + 1) (by omega)
    by_cases hm : f x ≤ f (n + 1)
    · refine ⟨n + 1, by omega, fun z hz => ?_⟩
      by_cases hz2 : z = n + 1
      · rw [hz2]; exact Int.le_refl _
      · exact Int.le_trans (h z (by omega)) hm
    · refine ⟨x, by omega, fun z hz => ?_⟩
      by_cases hz2 : z = n + 1
      · rw [hz2]; omega
      · exact h z (by omega)
theorem sum_const_range {f : Nat → Int} {n : Nat} {c : Int} (h : ∀ x, x < n → f x = c) : ((List.range n).map f).sum = n * c := by
  rw [sum_map_congr (g := fun _ => c) fun z hz => h z (List.mem_range.mp hz)]
  clear h
  induction n with
  | zero => simp
  | succ n ih =>
    rw [List.range_succ, List.map_append, List.sum_append, ih]
    push_cast
    rw [Int.add_mul]
    simp
/-- at distance 0 everybody is where they were -/
theorem dist_zero {n : Nat} {s q s' q' : Nat → Int} (h : Pl n s q) (h' : Pl n s' q') (hsum : ((List.range n).map fun x => q' x - q x).sum = 0) (hd : distW n q q' = 0) : ∀ x, x < n → q' x = q x := by
  have hz := sum_map_zero (fun z : Nat × Nat => absI (Wn n q' z.1 z.2 - Wn n q z.1 z.2)) (pairs n) (fun z _ => absI_nn _) hd
  have hW1 : ∀ x y, x < y → y < n → Wn n q' x y = Wn n q x y := fun x y hxy hy => by
    have := hz (x, y) (mem_pairs.mpr ⟨hxy, hy⟩)
    simp only [absI] at this
    split at this <;> omega
  have hW : ∀ x y, x < n → y < n → x ≠ y → Wn n q' x y = Wn n q x y := fun x y hx hy hxy => by
    by_cases hlt : x < y
    · exact hW1 x y hlt hy
    · rw [Wn_swap h' hy hx (Ne.symm hxy), Wn_swap h hy hx (Ne.symm hxy), hW1 y x (by omega) hx]
  obtain ⟨x, hx, hmax⟩ := max_at (fun z => q' z - q z) n h.pos
  have hs := same_steps h h' hW hx hmax
  have := sum_const_range (f := fun z => q' z - q z) hs
  rw [hsum] at this
  have h0 := h.pos
  have hc : q' x - q x = 0 := by
    rcases Int.mul_eq_zero.mp this.symm with e | e
    · omega
    · exact e
  intro z hz
  have := hs z hz
  omega
/-- one exchange: j goes one place on, k one back, k one place ahead of j -/
structure ExQ (n : Nat) (q q' : Nat → Int) (j k : Nat) (t : Int) : Prop where
  jn : j < n
  kn : k < n
  ne : j ≠ k
  near : q k + n * t = q j + 1
  qj : q' j = q j + 1
  qk : q' k = q k - 1
  oth : ∀ x, x < n → x ≠ j → x ≠ k → q' x = q x
theorem ExQ.W_oth {n : Nat} {s q q' : Nat → Int} {j k : Nat} {t : Int} (h : Pl n s q) (x : ExQ n q q' j k t) {a b : Nat} (ha : a < n) (hb : b < n) (hab : a ≠ b) (h1 : ¬ (a = j ∧ b = k)) (h2 : ¬ (a = k ∧ b = j)) : Wn n q' a b = Wn n q a b := by
  have h0 := h.pos
  -- floors do not change where the difference does not reach a multiple of n
  have up : ∀ z : Int, (z + 1) % n ≠ 0 → (z + 1) / n = z / n := fun z hz => by
    have e := Int.emod_add_mul_ediv z n
    have e1 := Int.emod_nonneg z (show (n : Int) ≠ 0 by omega)
    have e2 := Int.emod_lt_of_pos z (show (0 : Int) < n by omega)
    have hlt : z % n + 1 < n := by
      by_cases hq : z % n + 1 = n
      · refine absurd ?_ hz
        have : z + 1 = n * (z / n + 1) := by rw [Int.mul_add]; omega
        rw [this]; exact Int.mul_emod_right ..
      · omega
    have : z + 1 = (z % n + 1) + n * (z / n) := by omega
    rw [this, Int.add_mul_ediv_left _ _ (by omega), Int.ediv_eq_zero_of_lt (by omega) hlt]
    omega
  have dn : ∀ z : Int, z % n ≠ 0 → (z - 1) / n = z / n := fun z hz => by
    have := up (z - 1) (by rw [show z - 1 + 1 = z by omega]; exact hz)
    rw [show z - 1 + 1 = z by omega] at this
    exact this.symm
  have nj : ∀ c, c < n → c ≠ k → (q c - q j - 1) % n ≠ 0 := fun c hc hck e => by
    refine h.ne x.kn hc (Ne.symm hck) ?_
    have : q c - q k = (q c - q j - 1) + n * t := by have := x.near; omega
    rw [this, Int.add_mul_emod_self_left]
    exact e
  unfold Wn
  by_cases haj : a = j
  · subst haj
    have hbk : b ≠ k := fun e => h1 ⟨rfl, e⟩
    rw [x.qj, x.oth b hb (Ne.symm hab) hbk]
    have e : q b - (q a + 1) = (q b - q a) - 1 := by omega
    rw [e]
    exact dn _ (h.ne ha hb hab)
  · by_cases hak : a = k
    · subst hak
      have hbj : b ≠ j := fun e => h2 ⟨rfl, e⟩
      rw [x.qk, x.oth b hb hbj (Ne.symm hab)]
      have e : q b - (q a - 1) = (q b - q a) + 1 := by omega
      rw [e]
      refine up _ fun z => ?_
      -- q b ≡ q k - 1 ≡ q j
      refine h.ne x.jn hb (Ne.symm hbj) ?_
      have : q b - q j = (q b - q a + 1) + n * (-t) := by have := x.near; rw [Int.mul_neg]; omega
      rw [this, Int.add_mul_emod_self_left]
      exact z
    · rw [x.oth a ha haj hak]
      by_cases hbj : b = j
      · subst hbj
        rw [x.qj]
        have e : q b + 1 - q a = (q b - q a) + 1 := by omega
        rw [e]
        refine up _ fun z => ?_
        refine nj a ha hak ?_
        have : q a - q b - 1 = -(q b - q a + 1) := by omega
        rw [this]
        exact Int.emod_eq_zero_of_dvd (Int.dvd_neg.mpr (Int.dvd_of_emod_eq_zero z))
      · by_cases hbk : b = k
        · subst hbk
          rw [x.qk]
          have e : q b - 1 - q a = (q b - q a) - 1 := by omega
          rw [e]
          exact dn _ (h.ne ha hb hab)
        · rw [x.oth b hb hbj hbk]
theorem ExQ.W_jk {n : Nat} {s q q' : Nat → Int} {j k : Nat} {t : Int} (h : Pl n s q) (h2 : 2 ≤ n) (x : ExQ n q q' j k t) : Wn n q j k = -t ∧ Wn n q' j k = -t - 1 := by
  have h0 := h.pos
  have hn := x.near
  unfold Wn
  rw [x.qj, x.qk]
  have e1 : q k - q j = 1 + n * (-t) := by rw [Int.mul_neg]; omega
  have e2 : q k - 1 - (q j + 1) = (n - 1) + n * (-t - 1) := by rw [Int.mul_sub, Int.mul_neg]; omega
  rw [e1, e2, Int.add_mul_ediv_left _ _ (by omega), Int.add_mul_ediv_left _ _ (by omega), Int.ediv_eq_zero_of_lt (by omega) (by omega), Int.ediv_eq_zero_of_lt (by omega) (by omega)]
  omega
theorem ExQ.pl {n : Nat} {s s' q q' : Nat → Int} (h' : Pl n s' q') : Pl n s' q' := h'
/-- an exchange changes each distance by one; it comes nearer where the other one has them in the other order -/
theorem ExQ.dist {n : Nat} {s s' q q' : Nat → Int} {j k : Nat} {t : Int} (h : Pl n s q) (h' : Pl n s' q') (h2 : 2 ≤ n) (x : ExQ n q q' j k t) {sb b : Nat → Int} (hb : Pl n sb b) :
    (distW n q' b = distW n q b + 1 ∨ distW n q' b = distW n q b - 1) ∧ (distW n q' b = distW n q b - 1 ↔ Wn n b j k < Wn n q j k) := by
  obtain ⟨w1, w2⟩ := x.W_jk h h2
  have hs1 := Wn_swap h x.jn x.kn x.ne
  have hs2 := Wn_swap h' x.jn x.kn x.ne
  have hs3 := Wn_swap hb x.jn x.kn x.ne
  unfold distW
  by_cases hjk : j < k
  · rw [sum_map_one (fun z : Nat × Nat => absI (Wn n b z.1 z.2 - Wn n q' z.1 z.2)) (fun z : Nat × Nat => absI (Wn n b z.1 z.2 - Wn n q z.1 z.2)) (z0 := (j, k)) (pairs n) (nodup_pairs n) (mem_pairs.mpr ⟨hjk, x.kn⟩) (fun z hz hne => by
      have hm := mem_pairs.mp hz
      rw [x.W_oth (a := z.1) (b := z.2) h (by omega) hm.2 (by omega) (fun e => hne (Prod.ext e.1 e.2)) (fun e => by omega)])]
    simp only [w1, w2, absI]
    split <;> split <;> omega
  · have hkj : k < j := by have := x.ne; omega
    rw [sum_map_one (fun z : Nat × Nat => absI (Wn n b z.1 z.2 - Wn n q' z.1 z.2)) (fun z : Nat × Nat => absI (Wn n b z.1 z.2 - Wn n q z.1 z.2)) (z0 := (k, j)) (pairs n) (nodup_pairs n) (mem_pairs.mpr ⟨hkj, x.jn⟩) (fun z hz hne => by
      have hm := mem_pairs.mp hz
      rw [x.W_oth (a := z.1) (b := z.2) h (by omega) hm.2 (by omega) (fun e => by omega) (fun e => hne (Prod.ext e.1 e.2))])]
    simp only [hs1, hs2, w1, w2, absI]
    split <;> split <;> omega
end DL

namespace DL
open PySem PySem.Spec L2
/-! ### places of a state; who sits where; shifts, crossings, distance -/
def sF (ss : List Nat) (x : Nat) : Int := ((ss.getD x 0 : Nat) : Int)
def pF (ps : List Int) (x : Nat) : Int := ps.getD x 0
/-- the place on the line -/
def qF (ss : List Nat) (ps : List Int) (x : Nat) : Int := pF (resI ss ps) x - pF ps x
theorem sF_at {ss : List Nat} {x c : Nat} (h : ss[x]? = some c) : sF ss x = c := by
  unfold sF
  rw [List.getD_eq_getElem?_getD, h]
  rfl
theorem pF_at {ps : List Int} {x : Nat} {c : Int} (h : ps[x]? = some c) : pF ps x = c := by
  unfold pF
  rw [List.getD_eq_getElem?_getD, h]
  rfl
theorem Stt.pl {n : Nat} {ss : List Nat} {ps : List Int} (h : Stt n ss ps) (h0 : 0 < n) : Pl n (sF ss) (qF ss ps) := by
  have hl := h.slen
  have at_ : ∀ x, x < n → ∃ c p, ss[x]? = some c ∧ ps[x]? = some p ∧ c < n := fun x hx => by
    obtain ⟨c, hc⟩ := get_some (show x < ss.length by omega)
    obtain ⟨p, hp⟩ := get_some (show x < ps.length by rw [h.len]; exact hx)
    exact ⟨c, p, hc, hp, h.lt hc⟩
  refine ⟨h0, fun x hx => ?_, fun x y hx hy e => ?_, fun c hc => ?_, fun x hx => ?_⟩
  · obtain ⟨c, p, hc, _, hl⟩ := at_ x hx
    rw [sF_at hc]
    omega
  · obtain ⟨c, p, hc, _, _⟩ := at_ x hx
    obtain ⟨d, p', hd, _, _⟩ := at_ y hy
    rw [sF_at hc, sF_at hd] at e
    have : c = d := by omega
    subst this
    exact h.inj hc hd
  · obtain ⟨j, hj⟩ := h.onto hc
    exact ⟨j, by have := lt_of_getL hj; omega, sF_at hj⟩
  · obtain ⟨c, p, hc, hp, hcn⟩ := at_ x hx
    unfold qF
    rw [pF_at (resI_get hc hp), pF_at hp, sF_at hc, hl, Int.emod_sub_emod, show (c : Int) + p - p = c by omega]
    exact Int.emod_eq_of_lt (by omega) (by omega)
/-- the number that the program computes for x and y -/
def crossI (n : Nat) (ss : List Nat) (ps qs : List Int) (x y : Nat) : Int := absI (((sF ss y + (pF ps y - pF qs y)) - (sF ss x + (pF ps x - pF qs x))) / n - (sF ss y - sF ss x) / n)
theorem crossI_W {n : Nat} {ss tt : List Nat} {ps qs : List Int} (h : Stt n ss ps) (h0 : 0 < n) (L : Lot ss ps tt qs) {x y : Nat} (hx : x < n) (hy : y < n) : crossI n ss ps qs x y = absI (Wn n (qF tt qs) x y - Wn n (qF ss ps) x y) := by
  have P := h.pl h0
  have m1 := P.mod x hx
  have m2 := P.mod y hy
  unfold crossI Wn
  have hq : ∀ z, qF tt qs z = pF (resI ss ps) z - pF qs z := fun z => by unfold qF; rw [L.res]
  rw [hq, hq]
  have e1 := Int.emod_add_mul_ediv (qF ss ps x) n
  have e2 := Int.emod_add_mul_ediv (qF ss ps y) n
  have hq1 : ∀ z, qF ss ps z = pF (resI ss ps) z - pF ps z := fun z => rfl
  have a1 : (sF ss y + (pF ps y - pF qs y)) - (sF ss x + (pF ps x - pF qs x)) = (pF (resI ss ps) y - pF qs y - (pF (resI ss ps) x - pF qs x)) + n * (qF ss ps x / n - qF ss ps y / n) := by
    rw [Int.mul_sub]
    have := hq1 x
    have := hq1 y
    omega
  have a2 : sF ss y - sF ss x = (qF ss ps y - qF ss ps x) + n * (qF ss ps x / n - qF ss ps y / n) := by
    rw [Int.mul_sub]
    omega
  rw [a1, a2, Int.add_mul_ediv_left _ _ (by omega), Int.add_mul_ediv_left _ _ (by omega)]
  congr 1
  omega
def crossD (n : Nat) (ss : List Nat) (ps qs : List Int) (z : Nat × Nat) : Option PyData := if 0 < crossI n ss ps qs z.1 z.2 then some (.tuple [nD z.1, nD z.2, .int (crossI n ss ps qs z.1 z.2)]) else none
def crossL (n : Nat) (ss : List Nat) (ps qs : List Int) : List PyData := (pairs n).filterMap (crossD n ss ps qs)
def distI (n : Nat) (ss : List Nat) (ps qs : List Int) : Int := ((pairs n).map fun z => crossI n ss ps qs z.1 z.2).sum
theorem distI_W {n : Nat} {ss tt : List Nat} {ps qs : List Int} (h : Stt n ss ps) (h0 : 0 < n) (L : Lot ss ps tt qs) : distI n ss ps qs = distW n (qF ss ps) (qF tt qs) := by
  unfold distI distW
  refine sum_map_congr fun z hz => ?_
  have := mem_pairs.mp hz
  exact crossI_W h h0 L (by omega) this.2
/-! who sits where -/
namespace C
theorem inverse_ok {x : Vl} {ss : List Nat} {M : Mem} (hx : SeqV x (ss.map nD)) (hp : PN ss) (hl : ss.length ≤ 1000) :
    ∃ ls : List Nat, m_inverse [x] M = .ok (.d (.tuple (ls.map nD))) M ∧ Inv2 ss ls := by
  have hlen : lenV [x] M = _ := hx.len
  rw [List.length_map] at hlen
  obtain ⟨e', M', el, ls, v2, v3, rfl, rfl, hP⟩ := forL_all (γ := tupT 2 (consT (setT 2) (consT (setT 3) nilT))) (g := asgS (getV 2) (subT (getV 1) (getV 3)))
    (fun j e M2 => ∃ (ls : List Nat) (v2 v3 : Option Vl), e = [some x, some (.h M.length), v2, v3] ∧ M2 = M ++ [.lst (ls.map nD)] ∧ Part ss ls j)
    (xs := numD (ss.map nD)) (e := [some x, some (.h M.length), none, none]) (M := M ++ [.lst ((List.replicate ss.length 0).map nD)])
    (by
      rintro j z e M2 hz ⟨ls, v2, v3, rfl, rfl, hP⟩
      obtain ⟨y, hy, rfl⟩ := C.numD_get hz
      rw [List.getElem?_map] at hy
      obtain ⟨p, hp1, rfl⟩ := Option.map_eq_some_iff.mp hy
      have hpl : p < (ls.map nD).length := by rw [List.length_map, hP.len]; exact hp.lt _ _ hp1
      have hput := putV_h (e := [some x, some (.h M.length), some (.d (nD j)), some (.d (nD p))]) (M := M ++ [.lst (ls.map nD)]) (y := nD j) (m1_a rfl) (ixN_nat hpl)
      rw [m1_sa rfl, set_nD] at hput
      refine ⟨[some x, some (.h M.length), some (.d (nD j)), some (.d (nD p))], M ++ [.lst (ls.map nD)], [some x, some (.h M.length), some (.d (nD j)), some (.d (nD p))], M ++ [.lst ((ls.set p j).map nD)], ?_, ?_, ls.set p j, _, _, rfl, rfl, hP.step hp hp1⟩
      · simp only [defM, startE, seqS_a, setS_a, bindS_ok, bindS_er, then_nx, then_rt, then_er, ifS_a, ifK_t, ifK_f, retS_a, dropS_a, asgS_a, asK_a, goG_ok, subT_a, nopS_a, getV_0, getV_s, cst_a, op2_a, o2a_ok, o2b_ok, opT_a, oTa_ok, oTb_ok, consA_a, cAa_ok, cAb_ok, nilA_a, callF_a, cFa_ok, callE_a, cEa_ok, newE_a, nwa_ok, datE_a, dta_ok, dispE_a, tupE_a, tpa_ok, asDs_a, datas, bind_ok, pur_ok, bool_b, leave_d, leave_nx, leave_er, ifE_a, ifa_t, ifa_f, notT_a, nta_ok, andT_a, ana_t, ana_f, orT_a, ora_t, ora_f, tstE_a, tsa_b, andE_a, aEa_t, aEa_f, orE_a, oEa_t, oEa_f, notE_a, nEa_ok, add_ii, sub_ii, gt_ii, lt_ii, ge_ii, le_ii, setT_a, consT_a, cTa_ok, nilT_a, tupT_a, seqT_t, seqT_l, forS_a, List.map_cons, List.map_nil, List.length_cons, List.length_nil, Nat.reduceAdd, Nat.reduceSub, Nat.zero_add, Nat.add_zero, List.replicate, List.cons_append, List.nil_append, List.append_nil, List.getElem?_cons_zero, List.getElem?_cons_succ, List.set_cons_zero, List.set_cons_succ, List.getElem?_nil, Option.map_some, Option.map_none, Option.bind_some, if_true, if_false, ite_true, ite_false, eq_self_iff_true, and_self, and_true, true_and, decide_true, decide_false, Bool.false_eq_true, Bool.not_true, Bool.not_false, sizeLine, Nat.reducePow, Nat.reduceLeDiff, Nat.zero_le, pow_7, pow_18, pow_40]
      · simp only [defM, startE, seqS_a, setS_a, bindS_ok, bindS_er, then_nx, then_rt, then_er, ifS_a, ifK_t, ifK_f, retS_a, dropS_a, asgS_a, asK_a, goG_ok, subT_a, nopS_a, getV_0, getV_s, cst_a, op2_a, o2a_ok, o2b_ok, opT_a, oTa_ok, oTb_ok, consA_a, cAa_ok, cAb_ok, nilA_a, callF_a, cFa_ok, callE_a, cEa_ok, newE_a, nwa_ok, datE_a, dta_ok, dispE_a, tupE_a, tpa_ok, asDs_a, datas, bind_ok, pur_ok, bool_b, leave_d, leave_nx, leave_er, ifE_a, ifa_t, ifa_f, notT_a, nta_ok, andT_a, ana_t, ana_f, orT_a, ora_t, ora_f, tstE_a, tsa_b, andE_a, aEa_t, aEa_f, orE_a, oEa_t, oEa_f, notE_a, nEa_ok, add_ii, sub_ii, gt_ii, lt_ii, ge_ii, le_ii, setT_a, consT_a, cTa_ok, nilT_a, tupT_a, seqT_t, seqT_l, forS_a, List.map_cons, List.map_nil, List.length_cons, List.length_nil, Nat.reduceAdd, Nat.reduceSub, Nat.zero_add, Nat.add_zero, List.replicate, List.cons_append, List.nil_append, List.append_nil, List.getElem?_cons_zero, List.getElem?_cons_succ, List.set_cons_zero, List.set_cons_succ, List.getElem?_nil, Option.map_some, Option.map_none, Option.bind_some, if_true, if_false, ite_true, ite_false, eq_self_iff_true, and_self, and_true, true_and, decide_true, decide_false, Bool.false_eq_true, Bool.not_true, Bool.not_false, sizeLine, Nat.reducePow, Nat.reduceLeDiff, Nat.zero_le, pow_7, pow_18, pow_40, hput])
    ⟨_, none, none, rfl, rfl, Part.zero ss⟩
  have hnl : (numD (ss.map nD)).length = ss.length := by unfold numD; simp
  rw [hnl] at hP
  have e0 : (List.replicate ss.length 0).map nD = List.replicate ss.length (PyData.int 0) := by rw [List.map_replicate]; rfl
  rw [e0] at el
  have fz := freeze_at (i := 1) (e := [some x, some (.h M.length), v2, v3]) (M := M ++ [.lst (ls.map nD)]) rfl (m1_a rfl)
  rw [m1_sa rfl] at fz
  refine ⟨ls, ?_, hP.done⟩
  have hr : repE (datE (dispE (consA (cst (.d (.int 0))) nilA))) (callE lenV (consA (getV 0) nilA)) [some x, none, none, none] M = .ok (List.replicate ss.length (.int 0)) M := rep_a (by simp only [defM, startE, seqS_a, setS_a, bindS_ok, bindS_er, then_nx, then_rt, then_er, ifS_a, ifK_t, ifK_f, retS_a, dropS_a, asgS_a, asK_a, goG_ok, subT_a, nopS_a, getV_0, getV_s, cst_a, op2_a, o2a_ok, o2b_ok, opT_a, oTa_ok, oTb_ok, consA_a, cAa_ok, cAb_ok, nilA_a, callF_a, cFa_ok, callE_a, cEa_ok, newE_a, nwa_ok, datE_a, dta_ok, dispE_a, tupE_a, tpa_ok, asDs_a, datas, bind_ok, pur_ok, bool_b, leave_d, leave_nx, leave_er, ifE_a, ifa_t, ifa_f, notT_a, nta_ok, andT_a, ana_t, ana_f, orT_a, ora_t, ora_f, tstE_a, tsa_b, andE_a, aEa_t, aEa_f, orE_a, oEa_t, oEa_f, notE_a, nEa_ok, add_ii, sub_ii, gt_ii, lt_ii, ge_ii, le_ii, setT_a, consT_a, cTa_ok, nilT_a, tupT_a, seqT_t, seqT_l, forS_a, List.map_cons, List.map_nil, List.length_cons, List.length_nil, Nat.reduceAdd, Nat.reduceSub, Nat.zero_add, Nat.add_zero, List.replicate, List.cons_append, List.nil_append, List.append_nil, List.getElem?_cons_zero, List.getElem?_cons_succ, List.set_cons_zero, List.set_cons_succ, List.getElem?_nil, Option.map_some, Option.map_none, Option.bind_some, if_true, if_false, ite_true, ite_false, eq_self_iff_true, and_self, and_true, true_and, decide_true, decide_false, Bool.false_eq_true, Bool.not_true, Bool.not_false, sizeLine, Nat.reducePow, Nat.reduceLeDiff, Nat.zero_le, pow_7, pow_18, pow_40, hlen]) (by omega)
  have hen : enumI (getV 0) [some x, some (.h M.length), none, none] (M ++ [.lst (List.replicate ss.length (.int 0))]) = .ok (numD (ss.map nD)) (M ++ [.lst (List.replicate ss.length (.int 0))]) := C.enumI_a (x := x) (by simp only [defM, startE, seqS_a, setS_a, bindS_ok, bindS_er, then_nx, then_rt, then_er, ifS_a, ifK_t, ifK_f, retS_a, dropS_a, asgS_a, asK_a, goG_ok, subT_a, nopS_a, getV_0, getV_s, cst_a, op2_a, o2a_ok, o2b_ok, opT_a, oTa_ok, oTb_ok, consA_a, cAa_ok, cAb_ok, nilA_a, callF_a, cFa_ok, callE_a, cEa_ok, newE_a, nwa_ok, datE_a, dta_ok, dispE_a, tupE_a, tpa_ok, asDs_a, datas, bind_ok, pur_ok, bool_b, leave_d, leave_nx, leave_er, ifE_a, ifa_t, ifa_f, notT_a, nta_ok, andT_a, ana_t, ana_f, orT_a, ora_t, ora_f, tstE_a, tsa_b, andE_a, aEa_t, aEa_f, orE_a, oEa_t, oEa_f, notE_a, nEa_ok, add_ii, sub_ii, gt_ii, lt_ii, ge_ii, le_ii, setT_a, consT_a, cTa_ok, nilT_a, tupT_a, seqT_t, seqT_l, forS_a, List.map_cons, List.map_nil, List.length_cons, List.length_nil, Nat.reduceAdd, Nat.reduceSub, Nat.zero_add, Nat.add_zero, List.replicate, List.cons_append, List.nil_append, List.append_nil, List.getElem?_cons_zero, List.getElem?_cons_succ, List.set_cons_zero, List.set_cons_succ, List.getElem?_nil, Option.map_some, Option.map_none, Option.bind_some, if_true, if_false, ite_true, ite_false, eq_self_iff_true, and_self, and_true, true_and, decide_true, decide_false, Bool.false_eq_true, Bool.not_true, Bool.not_false, sizeLine, Nat.reducePow, Nat.reduceLeDiff, Nat.zero_le, pow_7, pow_18, pow_40]) hx.walk (by simp; omega)
  unfold m_inverse g_inverse
  simp only [defM, startE, seqS_a, setS_a, bindS_ok, bindS_er, then_nx, then_rt, then_er, ifS_a, ifK_t, ifK_f, retS_a, dropS_a, asgS_a, asK_a, goG_ok, subT_a, nopS_a, getV_0, getV_s, cst_a, op2_a, o2a_ok, o2b_ok, opT_a, oTa_ok, oTb_ok, consA_a, cAa_ok, cAb_ok, nilA_a, callF_a, cFa_ok, callE_a, cEa_ok, newE_a, nwa_ok, datE_a, dta_ok, dispE_a, tupE_a, tpa_ok, asDs_a, datas, bind_ok, pur_ok, bool_b, leave_d, leave_nx, leave_er, ifE_a, ifa_t, ifa_f, notT_a, nta_ok, andT_a, ana_t, ana_f, orT_a, ora_t, ora_f, tstE_a, tsa_b, andE_a, aEa_t, aEa_f, orE_a, oEa_t, oEa_f, notE_a, nEa_ok, add_ii, sub_ii, gt_ii, lt_ii, ge_ii, le_ii, setT_a, consT_a, cTa_ok, nilT_a, tupT_a, seqT_t, seqT_l, forS_a, List.map_cons, List.map_nil, List.length_cons, List.length_nil, Nat.reduceAdd, Nat.reduceSub, Nat.zero_add, Nat.add_zero, List.replicate, List.cons_append, List.nil_append, List.append_nil, List.getElem?_cons_zero, List.getElem?_cons_succ, List.set_cons_zero, List.set_cons_succ, List.getElem?_nil, Option.map_some, Option.map_none, Option.bind_some, if_true, if_false, ite_true, ite_false, eq_self_iff_true, and_self, and_true, true_and, decide_true, decide_false, Bool.false_eq_true, Bool.not_true, Bool.not_false, sizeLine, Nat.reducePow, Nat.reduceLeDiff, Nat.zero_le, pow_7, pow_18, pow_40, hr, hen, el, fz, tup_l]
  rw [List.take_append_of_le_length (by simp), take_all (by simp)]
/-- the people on the seats -/
def backL (ss : List Nat) : List Nat := (List.range ss.length).map fun c => ss.idxOf c
theorem inv2_back {n : Nat} {ss : List Nat} {ps : List Int} (h : Stt n ss ps) {ls : List Nat} (hi : Inv2 ss ls) : ls = backL ss := by
  apply ext_of
  intro c
  have hl := h.slen
  by_cases hc : c < n
  · obtain ⟨j, hj⟩ := h.onto hc
    rw [hi.at_ j c hj]
    unfold backL
    rw [List.getElem?_map, hl, List.getElem?_range hc]
    have hm : c ∈ ss := List.mem_of_getElem? hj
    have hlt : ss.idxOf c < ss.length := List.idxOf_lt_length_iff.mpr hm
    have hg : ss[ss.idxOf c]? = some c := by rw [List.getElem?_eq_getElem hlt, List.getElem_idxOf hlt]
    rw [h.inj hj hg]
    rfl
  · rw [List.getElem?_eq_none (by rw [hi.len]; omega), List.getElem?_eq_none (by unfold backL; simp; omega)]
theorem back_at {n : Nat} {ss : List Nat} {ps : List Int} (h : Stt n ss ps) {j c : Nat} (hj : ss[j]? = some c) : (backL ss)[c]? = some j := by
  have hl := h.slen
  have hc := h.lt hj
  unfold backL
  rw [List.getElem?_map, hl, List.getElem?_range hc]
  have hm : c ∈ ss := List.mem_of_getElem? hj
  have hlt : ss.idxOf c < ss.length := List.idxOf_lt_length_iff.mpr hm
  have hg : ss[ss.idxOf c]? = some c := by rw [List.getElem?_eq_getElem hlt, List.getElem_idxOf hlt]
  rw [h.inj hj hg]
  rfl
theorem backL_len {ss : List Nat} : (backL ss).length = ss.length := by unfold backL; simp
theorem sitting_ok {n : Nat} {x : Vl} {ss : List Nat} {ps : List Int} {M : Mem} (h : Stt n ss ps) (hn : n ≤ 1000) (hx : StV x ss ps) : m_sitting [x] M = .ok (.d (.tuple ((backL ss).map nD))) M := by
  obtain ⟨a, b, h0, h1, h2, h3⟩ := hx.two
  obtain ⟨ls, e, hi⟩ := inverse_ok (M := M) h1 (PN.of_perm h.perm) (by rw [h.slen]; exact hn)
  rw [inv2_back h hi] at e
  unfold m_sitting g_sitting
  simp only [defM, startE, seqS_a, setS_a, bindS_ok, bindS_er, then_nx, then_rt, then_er, ifS_a, ifK_t, ifK_f, retS_a, dropS_a, asgS_a, asK_a, goG_ok, subT_a, nopS_a, getV_0, getV_s, cst_a, op2_a, o2a_ok, o2b_ok, opT_a, oTa_ok, oTb_ok, consA_a, cAa_ok, cAb_ok, nilA_a, callF_a, cFa_ok, callE_a, cEa_ok, newE_a, nwa_ok, datE_a, dta_ok, dispE_a, tupE_a, tpa_ok, asDs_a, datas, bind_ok, pur_ok, bool_b, leave_d, leave_nx, leave_er, ifE_a, ifa_t, ifa_f, notT_a, nta_ok, andT_a, ana_t, ana_f, orT_a, ora_t, ora_f, tstE_a, tsa_b, andE_a, aEa_t, aEa_f, orE_a, oEa_t, oEa_f, notE_a, nEa_ok, add_ii, sub_ii, gt_ii, lt_ii, ge_ii, le_ii, setT_a, consT_a, cTa_ok, nilT_a, tupT_a, seqT_t, seqT_l, forS_a, List.map_cons, List.map_nil, List.length_cons, List.length_nil, Nat.reduceAdd, Nat.reduceSub, Nat.zero_add, Nat.add_zero, List.replicate, List.cons_append, List.nil_append, List.append_nil, List.getElem?_cons_zero, List.getElem?_cons_succ, List.set_cons_zero, List.set_cons_succ, List.getElem?_nil, Option.map_some, Option.map_none, Option.bind_some, if_true, if_false, ite_true, ite_false, eq_self_iff_true, and_self, and_true, true_and, decide_true, decide_false, Bool.false_eq_true, Bool.not_true, Bool.not_false, sizeLine, Nat.reducePow, Nat.reduceLeDiff, Nat.zero_le, pow_7, pow_18, pow_40, h0, e]
  rw [take_all (by simp)]
theorem check_leads_ok {n : Nat} {x y : Vl} {ss tt : List Nat} {ps qs : List Int} {M : Mem} (h : Stt n ss ps) (k : Stt n tt qs) (L : Lot ss ps tt qs) (hn : n ≤ 1000) (hx : StV x ss ps) (hy : StV y tt qs) : m_check_leads [x, y] M = .ok (.d .none) M := by
  have hb := bar_ok (M := M) hx hy (by rw [h.slen, k.slen]) (by rw [h.slen]; exact hn) (by rw [h.len, h.slen]) (by rw [k.len, h.slen])
  rw [barD_lot L] at hb
  unfold m_check_leads g_check_leads
  simp only [defM, startE, seqS_a, setS_a, bindS_ok, bindS_er, then_nx, then_rt, then_er, ifS_a, ifK_t, ifK_f, retS_a, dropS_a, asgS_a, asK_a, goG_ok, subT_a, nopS_a, getV_0, getV_s, cst_a, op2_a, o2a_ok, o2b_ok, opT_a, oTa_ok, oTb_ok, consA_a, cAa_ok, cAb_ok, nilA_a, callF_a, cFa_ok, callE_a, cEa_ok, newE_a, nwa_ok, datE_a, dta_ok, dispE_a, tupE_a, tpa_ok, asDs_a, datas, bind_ok, pur_ok, bool_b, leave_d, leave_nx, leave_er, ifE_a, ifa_t, ifa_f, notT_a, nta_ok, andT_a, ana_t, ana_f, orT_a, ora_t, ora_f, tstE_a, tsa_b, andE_a, aEa_t, aEa_f, orE_a, oEa_t, oEa_f, notE_a, nEa_ok, add_ii, sub_ii, gt_ii, lt_ii, ge_ii, le_ii, setT_a, consT_a, cTa_ok, nilT_a, tupT_a, seqT_t, seqT_l, forS_a, List.map_cons, List.map_nil, List.length_cons, List.length_nil, Nat.reduceAdd, Nat.reduceSub, Nat.zero_add, Nat.add_zero, List.replicate, List.cons_append, List.nil_append, List.append_nil, List.getElem?_cons_zero, List.getElem?_cons_succ, List.set_cons_zero, List.set_cons_succ, List.getElem?_nil, Option.map_some, Option.map_none, Option.bind_some, if_true, if_false, ite_true, ite_false, eq_self_iff_true, and_self, and_true, true_and, decide_true, decide_false, Bool.false_eq_true, Bool.not_true, Bool.not_false, sizeLine, Nat.reducePow, Nat.reduceLeDiff, Nat.zero_le, pow_7, pow_18, pow_40, hb, isnt_n, noneB]
  rw [take_all (by simp)]
def shiftL (ps qs : List Int) : List Int := List.zipWith (fun a b => a - b) ps qs
theorem shifts_ok {n : Nat} {ss tt : List Nat} {ps qs : List Int} {M : Mem} (h : Stt n ss ps) (k : Stt n tt qs) (L : Lot ss ps tt qs) (hn : n ≤ 1000) : m_shifts [.d (stD ss ps), .d (stD tt qs)] M = .ok (.d (.tuple (intsD (shiftL ps qs)))) M := by
  have hsz : sizeLine = 2 ^ 24 := rfl
  have i1 : ∀ N : Mem, ixV (.d (stD ss ps)) (.d (.int 1)) N = .ok (.d (.tuple (intsD ps))) N := fun N => ixV_t rfl
  have j1 : ∀ N : Mem, ixV (.d (stD tt qs)) (.d (.int 1)) N = .ok (.d (.tuple (intsD qs))) N := fun N => ixV_t rfl
  have hlc : lcE [2, 3] (zipI (op2 ixV (getV 0) (cst (.d (.int 1)))) (op2 ixV (getV 1) (cst (.d (.int 1))))) (tupT 2 (consT (setT 2) (consT (setT 3) nilT))) (fun _ M => .ok true M) (op2 subV (getV 2) (getV 3)) [some (.d (stD ss ps)), some (.d (stD tt qs)), none, none] M = .ok (intsD (shiftL ps qs)) M := by
    rw [lcE_at (zipI_a (x := .d (.tuple (intsD ps))) (y := .d (.tuple (intsD qs))) (p := (intsD ps, intsD qs)) (M1 := M) (M2 := M) (by simp only [defM, startE, seqS_a, setS_a, bindS_ok, bindS_er, then_nx, then_rt, then_er, ifS_a, ifK_t, ifK_f, retS_a, dropS_a, asgS_a, asK_a, goG_ok, subT_a, nopS_a, getV_0, getV_s, cst_a, op2_a, o2a_ok, o2b_ok, opT_a, oTa_ok, oTb_ok, consA_a, cAa_ok, cAb_ok, nilA_a, callF_a, cFa_ok, callE_a, cEa_ok, newE_a, nwa_ok, datE_a, dta_ok, dispE_a, tupE_a, tpa_ok, asDs_a, datas, bind_ok, pur_ok, bool_b, leave_d, leave_nx, leave_er, ifE_a, ifa_t, ifa_f, notT_a, nta_ok, andT_a, ana_t, ana_f, orT_a, ora_t, ora_f, tstE_a, tsa_b, andE_a, aEa_t, aEa_f, orE_a, oEa_t, oEa_f, notE_a, nEa_ok, add_ii, sub_ii, gt_ii, lt_ii, ge_ii, le_ii, setT_a, consT_a, cTa_ok, nilT_a, tupT_a, seqT_t, seqT_l, forS_a, List.map_cons, List.map_nil, List.length_cons, List.length_nil, Nat.reduceAdd, Nat.reduceSub, Nat.zero_add, Nat.add_zero, List.replicate, List.cons_append, List.nil_append, List.append_nil, List.getElem?_cons_zero, List.getElem?_cons_succ, List.set_cons_zero, List.set_cons_succ, List.getElem?_nil, Option.map_some, Option.map_none, Option.bind_some, if_true, if_false, ite_true, ite_false, eq_self_iff_true, and_self, and_true, true_and, decide_true, decide_false, Bool.false_eq_true, Bool.not_true, Bool.not_false, sizeLine, Nat.reducePow, Nat.reduceLeDiff, Nat.zero_le, pow_7, pow_18, pow_40, i1]) (by simp only [defM, startE, seqS_a, setS_a, bindS_ok, bindS_er, then_nx, then_rt, then_er, ifS_a, ifK_t, ifK_f, retS_a, dropS_a, asgS_a, asK_a, goG_ok, subT_a, nopS_a, getV_0, getV_s, cst_a, op2_a, o2a_ok, o2b_ok, opT_a, oTa_ok, oTb_ok, consA_a, cAa_ok, cAb_ok, nilA_a, callF_a, cFa_ok, callE_a, cEa_ok, newE_a, nwa_ok, datE_a, dta_ok, dispE_a, tupE_a, tpa_ok, asDs_a, datas, bind_ok, pur_ok, bool_b, leave_d, leave_nx, leave_er, ifE_a, ifa_t, ifa_f, notT_a, nta_ok, andT_a, ana_t, ana_f, orT_a, ora_t, ora_f, tstE_a, tsa_b, andE_a, aEa_t, aEa_f, orE_a, oEa_t, oEa_f, notE_a, nEa_ok, add_ii, sub_ii, gt_ii, lt_ii, ge_ii, le_ii, setT_a, consT_a, cTa_ok, nilT_a, tupT_a, seqT_t, seqT_l, forS_a, List.map_cons, List.map_nil, List.length_cons, List.length_nil, Nat.reduceAdd, Nat.reduceSub, Nat.zero_add, Nat.add_zero, List.replicate, List.cons_append, List.nil_append, List.append_nil, List.getElem?_cons_zero, List.getElem?_cons_succ, List.set_cons_zero, List.set_cons_succ, List.getElem?_nil, Option.map_some, Option.map_none, Option.bind_some, if_true, if_false, ite_true, ite_false, eq_self_iff_true, and_self, and_true, true_and, decide_true, decide_false, Bool.false_eq_true, Bool.not_true, Bool.not_false, sizeLine, Nat.reducePow, Nat.reduceLeDiff, Nat.zero_le, pow_7, pow_18, pow_40, j1]) rfl)]
    unfold shiftL
    rw [← zip_map]
    refine lcL_map _ _ [] (by rw [hsz, zipD_len]; simp [h.len, k.len]; omega) fun x hx => ?_
    unfold zipD at hx
    obtain ⟨⟨a, b⟩, hp, rfl⟩ := List.mem_map.mp hx
    obtain ⟨r, _, rfl⟩ := List.mem_map.mp (List.of_mem_zip hp).1
    obtain ⟨t, _, rfl⟩ := List.mem_map.mp (List.of_mem_zip hp).2
    refine ⟨[some (.d (stD ss ps)), some (.d (stD tt qs)), some (.d (.int r)), some (.d (.int t))], ?_, rfl, ?_⟩
    · show tupT 2 _ _ [some (.d (stD ss ps)), some (.d (stD tt qs)), none, none] M = _
      simp only [defM, startE, seqS_a, setS_a, bindS_ok, bindS_er, then_nx, then_rt, then_er, ifS_a, ifK_t, ifK_f, retS_a, dropS_a, asgS_a, asK_a, goG_ok, subT_a, nopS_a, getV_0, getV_s, cst_a, op2_a, o2a_ok, o2b_ok, opT_a, oTa_ok, oTb_ok, consA_a, cAa_ok, cAb_ok, nilA_a, callF_a, cFa_ok, callE_a, cEa_ok, newE_a, nwa_ok, datE_a, dta_ok, dispE_a, tupE_a, tpa_ok, asDs_a, datas, bind_ok, pur_ok, bool_b, leave_d, leave_nx, leave_er, ifE_a, ifa_t, ifa_f, notT_a, nta_ok, andT_a, ana_t, ana_f, orT_a, ora_t, ora_f, tstE_a, tsa_b, andE_a, aEa_t, aEa_f, orE_a, oEa_t, oEa_f, notE_a, nEa_ok, add_ii, sub_ii, gt_ii, lt_ii, ge_ii, le_ii, setT_a, consT_a, cTa_ok, nilT_a, tupT_a, seqT_t, seqT_l, forS_a, List.map_cons, List.map_nil, List.length_cons, List.length_nil, Nat.reduceAdd, Nat.reduceSub, Nat.zero_add, Nat.add_zero, List.replicate, List.cons_append, List.nil_append, List.append_nil, List.getElem?_cons_zero, List.getElem?_cons_succ, List.set_cons_zero, List.set_cons_succ, List.getElem?_nil, Option.map_some, Option.map_none, Option.bind_some, if_true, if_false, ite_true, ite_false, eq_self_iff_true, and_self, and_true, true_and, decide_true, decide_false, Bool.false_eq_true, Bool.not_true, Bool.not_false, sizeLine, Nat.reducePow, Nat.reduceLeDiff, Nat.zero_le, pow_7, pow_18, pow_40]
    · simp only [defM, startE, seqS_a, setS_a, bindS_ok, bindS_er, then_nx, then_rt, then_er, ifS_a, ifK_t, ifK_f, retS_a, dropS_a, asgS_a, asK_a, goG_ok, subT_a, nopS_a, getV_0, getV_s, cst_a, op2_a, o2a_ok, o2b_ok, opT_a, oTa_ok, oTb_ok, consA_a, cAa_ok, cAb_ok, nilA_a, callF_a, cFa_ok, callE_a, cEa_ok, newE_a, nwa_ok, datE_a, dta_ok, dispE_a, tupE_a, tpa_ok, asDs_a, datas, bind_ok, pur_ok, bool_b, leave_d, leave_nx, leave_er, ifE_a, ifa_t, ifa_f, notT_a, nta_ok, andT_a, ana_t, ana_f, orT_a, ora_t, ora_f, tstE_a, tsa_b, andE_a, aEa_t, aEa_f, orE_a, oEa_t, oEa_f, notE_a, nEa_ok, add_ii, sub_ii, gt_ii, lt_ii, ge_ii, le_ii, setT_a, consT_a, cTa_ok, nilT_a, tupT_a, seqT_t, seqT_l, forS_a, List.map_cons, List.map_nil, List.length_cons, List.length_nil, Nat.reduceAdd, Nat.reduceSub, Nat.zero_add, Nat.add_zero, List.replicate, List.cons_append, List.nil_append, List.append_nil, List.getElem?_cons_zero, List.getElem?_cons_succ, List.set_cons_zero, List.set_cons_succ, List.getElem?_nil, Option.map_some, Option.map_none, Option.bind_some, if_true, if_false, ite_true, ite_false, eq_self_iff_true, and_self, and_true, true_and, decide_true, decide_false, Bool.false_eq_true, Bool.not_true, Bool.not_false, sizeLine, Nat.reducePow, Nat.reduceLeDiff, Nat.zero_le, pow_7, pow_18, pow_40, onPair]
  unfold m_shifts g_shifts
  simp only [defM, startE, seqS_a, setS_a, bindS_ok, bindS_er, then_nx, then_rt, then_er, ifS_a, ifK_t, ifK_f, retS_a, dropS_a, asgS_a, asK_a, goG_ok, subT_a, nopS_a, getV_0, getV_s, cst_a, op2_a, o2a_ok, o2b_ok, opT_a, oTa_ok, oTb_ok, consA_a, cAa_ok, cAb_ok, nilA_a, callF_a, cFa_ok, callE_a, cEa_ok, newE_a, nwa_ok, datE_a, dta_ok, dispE_a, tupE_a, tpa_ok, asDs_a, datas, bind_ok, pur_ok, bool_b, leave_d, leave_nx, leave_er, ifE_a, ifa_t, ifa_f, notT_a, nta_ok, andT_a, ana_t, ana_f, orT_a, ora_t, ora_f, tstE_a, tsa_b, andE_a, aEa_t, aEa_f, orE_a, oEa_t, oEa_f, notE_a, nEa_ok, add_ii, sub_ii, gt_ii, lt_ii, ge_ii, le_ii, setT_a, consT_a, cTa_ok, nilT_a, tupT_a, seqT_t, seqT_l, forS_a, List.map_cons, List.map_nil, List.length_cons, List.length_nil, Nat.reduceAdd, Nat.reduceSub, Nat.zero_add, Nat.add_zero, List.replicate, List.cons_append, List.nil_append, List.append_nil, List.getElem?_cons_zero, List.getElem?_cons_succ, List.set_cons_zero, List.set_cons_succ, List.getElem?_nil, Option.map_some, Option.map_none, Option.bind_some, if_true, if_false, ite_true, ite_false, eq_self_iff_true, and_self, and_true, true_and, decide_true, decide_false, Bool.false_eq_true, Bool.not_true, Bool.not_false, sizeLine, Nat.reducePow, Nat.reduceLeDiff, Nat.zero_le, pow_7, pow_18, pow_40, check_leads_ok (M := M) h k L hn (.inl rfl) (.inl rfl), hlc, tup_l]
  rw [take_all (by simp)]
theorem rngI2_a {f g : Ev} {e : Env} {M M1 M2 : Mem} {i j : Int} (h : f e M = .ok (.d (.int i)) M1) (h2 : g e M1 = .ok (.d (.int j)) M2) (hi : (-(2 ^ 62) ≤ i ∧ i < 2 ^ 62) ∧ (-(2 ^ 62) ≤ j ∧ j < 2 ^ 62)) : rngI2 f g e M = .ok (rangeD i j) M2 := by
  unfold rngI2
  rw [h, bind_ok, h2, bind_ok]
  exact if_pos (by omega)
theorem rangeD_from {a n : Nat} (h : a ≤ n) : rangeD (a : Nat) (n : Int) = (List.range' a (n - a)).map nD := by
  unfold rangeD
  have : ((n : Int) - (a : Nat)).toNat = n - a := by omega
  rw [this, List.range'_eq_map_range, List.map_map]
  refine List.map_congr_left fun k _ => ?_
  show PyData.int _ = PyData.int _
  congr 1
theorem crossings_ok {n : Nat} {ss tt : List Nat} {ps qs : List Int} {M : Mem} (h : Stt n ss ps) (k : Stt n tt qs) (h0 : 0 < n) (L : Lot ss ps tt qs) (hn : n ≤ 1000) : m_crossings [.d (stD ss ps), .d (stD tt qs)] M = .ok (.d (.list (crossL n ss ps qs))) M := by
  have hsz : sizeLine = 2 ^ 24 := rfl
  have hl := h.slen
  have hlc : lcE [11, 12] (zipI (getV 3) (getV 2)) (tupT 2 (consT (setT 11) (consT (setT 12) nilT))) (fun _ M => .ok true M) (op2 addV (getV 11) (getV 12)) [some (.d (stD ss ps)), some (.d (stD tt qs)), some (.d (.tuple (intsD (shiftL ps qs)))), some (.d (.tuple (ss.map nD))), some (.d (.tuple (intsD ps))), some (.d (.int (n : Nat))), none, none, none, none, none, none, none] M = .ok (intsD (List.zipWith (fun a b => a + b) (castI ss) (shiftL ps qs))) M := by
    rw [lcE_at (zipI_a (x := .d (.tuple (ss.map nD))) (y := .d (.tuple (intsD (shiftL ps qs)))) (p := (ss.map nD, intsD (shiftL ps qs))) (M1 := M) (M2 := M) (by simp only [defM, startE, seqS_a, setS_a, bindS_ok, bindS_er, then_nx, then_rt, then_er, ifS_a, ifK_t, ifK_f, retS_a, dropS_a, asgS_a, asK_a, goG_ok, subT_a, nopS_a, getV_0, getV_s, cst_a, op2_a, o2a_ok, o2b_ok, opT_a, oTa_ok, oTb_ok, consA_a, cAa_ok, cAb_ok, nilA_a, callF_a, cFa_ok, callE_a, cEa_ok, newE_a, nwa_ok, datE_a, dta_ok, dispE_a, tupE_a, tpa_ok, asDs_a, datas, bind_ok, pur_ok, bool_b, leave_d, leave_nx, leave_er, ifE_a, ifa_t, ifa_f, notT_a, nta_ok, andT_a, ana_t, ana_f, orT_a, ora_t, ora_f, tstE_a, tsa_b, andE_a, aEa_t, aEa_f, orE_a, oEa_t, oEa_f, notE_a, nEa_ok, add_ii, sub_ii, gt_ii, lt_ii, ge_ii, le_ii, setT_a, consT_a, cTa_ok, nilT_a, tupT_a, seqT_t, seqT_l, forS_a, List.map_cons, List.map_nil, List.length_cons, List.length_nil, Nat.reduceAdd, Nat.reduceSub, Nat.zero_add, Nat.add_zero, List.replicate, List.cons_append, List.nil_append, List.append_nil, List.getElem?_cons_zero, List.getElem?_cons_succ, List.set_cons_zero, List.set_cons_succ, List.getElem?_nil, Option.map_some, Option.map_none, Option.bind_some, if_true, if_false, ite_true, ite_false, eq_self_iff_true, and_self, and_true, true_and, decide_true, decide_false, Bool.false_eq_true, Bool.not_true, Bool.not_false, sizeLine, Nat.reducePow, Nat.reduceLeDiff, Nat.zero_le, pow_7, pow_18, pow_40]) (by simp only [defM, startE, seqS_a, setS_a, bindS_ok, bindS_er, then_nx, then_rt, then_er, ifS_a, ifK_t, ifK_f, retS_a, dropS_a, asgS_a, asK_a, goG_ok, subT_a, nopS_a, getV_0, getV_s, cst_a, op2_a, o2a_ok, o2b_ok, opT_a, oTa_ok, oTb_ok, consA_a, cAa_ok, cAb_ok, nilA_a, callF_a, cFa_ok, callE_a, cEa_ok, newE_a, nwa_ok, datE_a, dta_ok, dispE_a, tupE_a, tpa_ok, asDs_a, datas, bind_ok, pur_ok, bool_b, leave_d, leave_nx, leave_er, ifE_a, ifa_t, ifa_f, notT_a, nta_ok, andT_a, ana_t, ana_f, orT_a, ora_t, ora_f, tstE_a, tsa_b, andE_a, aEa_t, aEa_f, orE_a, oEa_t, oEa_f, notE_a, nEa_ok, add_ii, sub_ii, gt_ii, lt_ii, ge_ii, le_ii, setT_a, consT_a, cTa_ok, nilT_a, tupT_a, seqT_t, seqT_l, forS_a, List.map_cons, List.map_nil, List.length_cons, List.length_nil, Nat.reduceAdd, Nat.reduceSub, Nat.zero_add, Nat.add_zero, List.replicate, List.cons_append, List.nil_append, List.append_nil, List.getElem?_cons_zero, List.getElem?_cons_succ, List.set_cons_zero, List.set_cons_succ, List.getElem?_nil, Option.map_some, Option.map_none, Option.bind_some, if_true, if_false, ite_true, ite_false, eq_self_iff_true, and_self, and_true, true_and, decide_true, decide_false, Bool.false_eq_true, Bool.not_true, Bool.not_false, sizeLine, Nat.reducePow, Nat.reduceLeDiff, Nat.zero_le, pow_7, pow_18, pow_40]) rfl)]
    rw [← zip_map, nats_ints]
    refine lcL_map _ _ [] (by rw [hsz, zipD_len]; simp [hl]; omega) fun x hx => ?_
    unfold zipD at hx
    obtain ⟨⟨a, b⟩, hp, rfl⟩ := List.mem_map.mp hx
    obtain ⟨r, _, rfl⟩ := List.mem_map.mp (List.of_mem_zip hp).1
    obtain ⟨t, _, rfl⟩ := List.mem_map.mp (List.of_mem_zip hp).2
    refine ⟨[some (.d (stD ss ps)), some (.d (stD tt qs)), some (.d (.tuple (intsD (shiftL ps qs)))), some (.d (.tuple ((castI ss).map PyData.int))), some (.d (.tuple (intsD ps))), some (.d (.int (n : Nat))), none, none, none, none, none, some (.d (.int r)), some (.d (.int t))], ?_, rfl, ?_⟩
    · show tupT 2 _ _ [some (.d (stD ss ps)), some (.d (stD tt qs)), some (.d (.tuple (intsD (shiftL ps qs)))), some (.d (.tuple _)), some (.d (.tuple (intsD ps))), some (.d (.int (n : Nat))), none, none, none, none, none, none, none] M = _
      simp only [defM, startE, seqS_a, setS_a, bindS_ok, bindS_er, then_nx, then_rt, then_er, ifS_a, ifK_t, ifK_f, retS_a, dropS_a, asgS_a, asK_a, goG_ok, subT_a, nopS_a, getV_0, getV_s, cst_a, op2_a, o2a_ok, o2b_ok, opT_a, oTa_ok, oTb_ok, consA_a, cAa_ok, cAb_ok, nilA_a, callF_a, cFa_ok, callE_a, cEa_ok, newE_a, nwa_ok, datE_a, dta_ok, dispE_a, tupE_a, tpa_ok, asDs_a, datas, bind_ok, pur_ok, bool_b, leave_d, leave_nx, leave_er, ifE_a, ifa_t, ifa_f, notT_a, nta_ok, andT_a, ana_t, ana_f, orT_a, ora_t, ora_f, tstE_a, tsa_b, andE_a, aEa_t, aEa_f, orE_a, oEa_t, oEa_f, notE_a, nEa_ok, add_ii, sub_ii, gt_ii, lt_ii, ge_ii, le_ii, setT_a, consT_a, cTa_ok, nilT_a, tupT_a, seqT_t, seqT_l, forS_a, List.map_cons, List.map_nil, List.length_cons, List.length_nil, Nat.reduceAdd, Nat.reduceSub, Nat.zero_add, Nat.add_zero, List.replicate, List.cons_append, List.nil_append, List.append_nil, List.getElem?_cons_zero, List.getElem?_cons_succ, List.set_cons_zero, List.set_cons_succ, List.getElem?_nil, Option.map_some, Option.map_none, Option.bind_some, if_true, if_false, ite_true, ite_false, eq_self_iff_true, and_self, and_true, true_and, decide_true, decide_false, Bool.false_eq_true, Bool.not_true, Bool.not_false, sizeLine, Nat.reducePow, Nat.reduceLeDiff, Nat.zero_le, pow_7, pow_18, pow_40]
    · simp only [defM, startE, seqS_a, setS_a, bindS_ok, bindS_er, then_nx, then_rt, then_er, ifS_a, ifK_t, ifK_f, retS_a, dropS_a, asgS_a, asK_a, goG_ok, subT_a, nopS_a, getV_0, getV_s, cst_a, op2_a, o2a_ok, o2b_ok, opT_a, oTa_ok, oTb_ok, consA_a, cAa_ok, cAb_ok, nilA_a, callF_a, cFa_ok, callE_a, cEa_ok, newE_a, nwa_ok, datE_a, dta_ok, dispE_a, tupE_a, tpa_ok, asDs_a, datas, bind_ok, pur_ok, bool_b, leave_d, leave_nx, leave_er, ifE_a, ifa_t, ifa_f, notT_a, nta_ok, andT_a, ana_t, ana_f, orT_a, ora_t, ora_f, tstE_a, tsa_b, andE_a, aEa_t, aEa_f, orE_a, oEa_t, oEa_f, notE_a, nEa_ok, add_ii, sub_ii, gt_ii, lt_ii, ge_ii, le_ii, setT_a, consT_a, cTa_ok, nilT_a, tupT_a, seqT_t, seqT_l, forS_a, List.map_cons, List.map_nil, List.length_cons, List.length_nil, Nat.reduceAdd, Nat.reduceSub, Nat.zero_add, Nat.add_zero, List.replicate, List.cons_append, List.nil_append, List.append_nil, List.getElem?_cons_zero, List.getElem?_cons_succ, List.set_cons_zero, List.set_cons_succ, List.getElem?_nil, Option.map_some, Option.map_none, Option.bind_some, if_true, if_false, ite_true, ite_false, eq_self_iff_true, and_self, and_true, true_and, decide_true, decide_false, Bool.false_eq_true, Bool.not_true, Bool.not_false, sizeLine, Nat.reducePow, Nat.reduceLeDiff, Nat.zero_le, pow_7, pow_18, pow_40, onPair]
  generalize hG : List.zipWith (fun a b => a + b) (castI ss) (shiftL ps qs) = G at *
  have hGx : ∀ x, x < n → G[x]? = some (sF ss x + (pF ps x - pF qs x)) := fun x hx => by
    obtain ⟨c, hc⟩ := get_some (show x < ss.length by omega)
    obtain ⟨p, hp⟩ := get_some (show x < ps.length by rw [h.len]; exact hx)
    obtain ⟨q, hq⟩ := get_some (show x < qs.length by rw [k.len]; exact hx)
    rw [← hG]
    unfold shiftL
    rw [List.getElem?_zipWith, List.getElem?_zipWith, List.getElem?_map, hc, hp, hq, sF_at hc, pF_at hp, pF_at hq]
    rfl
  have hSx : ∀ x, x < n → (ss.map nD)[x]? = some (.int (sF ss x)) := fun x hx => by
    obtain ⟨c, hc⟩ := get_some (show x < ss.length by omega)
    rw [getN hc, sF_at hc]
  -- the pairs gone through so far
  let E (v8 v9 v10 v11 v12 : Option Vl) : Env := [some (.d (stD ss ps)), some (.d (stD tt qs)), some (.d (.tuple (intsD (shiftL ps qs)))), some (.d (.tuple (ss.map nD))), some (.d (.tuple (intsD ps))), some (.d (.int (n : Nat))), some (.d (.list (intsD G))), some (.h M.length), v8, v9, v10, v11, v12]
  let row (x j : Nat) : List PyData := ((List.range' (x + 1) j).map fun y => (x, y)).filterMap (crossD n ss ps qs)
  let acc (x : Nat) : List PyData := ((List.range x).flatMap fun x => (List.range' (x + 1) (n - (x + 1))).map fun y => (x, y)).filterMap (crossD n ss ps qs)
  have row_len : ∀ x j, (row x j).length ≤ j := fun x j => by
    refine Nat.le_trans (List.length_filterMap_le _ _) (by simp)
  have acc_s : ∀ x, acc (x + 1) = acc x ++ row x (n - (x + 1)) := fun x => by
    show List.filterMap _ (List.flatMap _ (List.range (x + 1))) = _
    rw [List.range_succ, List.flatMap_append, List.filterMap_append]
    congr 1
    rw [List.flatMap_cons, List.flatMap_nil, List.append_nil]
  have acc_len : ∀ x, x ≤ n → (acc x).length ≤ 1000 * x := fun x => by
    induction x with
    | zero => intro _; exact Nat.zero_le _
    | succ x ih =>
      intro hx
      rw [acc_s, List.length_append]
      have := ih (by omega)
      have := row_len x (n - (x + 1))
      omega
  obtain ⟨e', M', el, v8, v9, v10, v11, v12, rfl, rfl⟩ := forL_all (γ := setT 8) (g := (forS (rngI2 (op2 addV (getV 8) (cst (.d (.int 1)))) (getV 5)) (setT 9) (seqS (setS 10 (callE DL.absV (consA (op2 subV (op2 fdivV (op2 subV (op2 ixV (getV 6) (getV 9)) (op2 ixV (getV 6) (getV 8))) (getV 5)) (op2 fdivV (op2 subV (op2 ixV (getV 3) (getV 9)) (op2 ixV (getV 3) (getV 8))) (getV 5))) nilA))) (ifS (opT gtV (getV 10) (cst (.d (.int 0)))) (dropS (methE appM (getV 7) (consA (tupE (consA (getV 8) (consA (getV 9) (consA (getV 10) nilA)))) nilA))) nopS))))
    (fun x e N => ∃ v8 v9 v10 v11 v12 : Option Vl, e = E v8 v9 v10 v11 v12 ∧ N = M ++ [.lst (acc x)])
    (xs := rangeD 0 (n : Int)) (e := E none none none none none) (M := M ++ [.lst []])
    (by
      rintro x z e N hz ⟨v8, v9, v10, v11, v12, rfl, rfl⟩
      have hx : x < n := by
        have := lt_of_getL hz
        rw [rangeD_nat] at this
        simpa using this
      have hzx : z = nD x := by
        rw [rangeD_nat, List.getElem?_map, List.getElem?_range hx] at hz
        exact (Option.some.inj hz).symm
      subst hzx
      obtain ⟨e2, M2, el2, w9, w10, w11, w12, rfl, rfl⟩ := forL_all (γ := setT 9) (g := (seqS (setS 10 (callE DL.absV (consA (op2 subV (op2 fdivV (op2 subV (op2 ixV (getV 6) (getV 9)) (op2 ixV (getV 6) (getV 8))) (getV 5)) (op2 fdivV (op2 subV (op2 ixV (getV 3) (getV 9)) (op2 ixV (getV 3) (getV 8))) (getV 5))) nilA))) (ifS (opT gtV (getV 10) (cst (.d (.int 0)))) (dropS (methE appM (getV 7) (consA (tupE (consA (getV 8) (consA (getV 9) (consA (getV 10) nilA)))) nilA))) nopS)))
        (fun j e N => ∃ v9 v10 v11 v12 : Option Vl, e = E (some (.d (nD x))) v9 v10 v11 v12 ∧ N = M ++ [.lst (acc x ++ row x j)])
        (xs := (List.range' (x + 1) (n - (x + 1))).map nD) (e := E (some (.d (nD x))) v9 v10 v11 v12) (M := M ++ [.lst (acc x)])
        (by
          rintro j z e N hz ⟨v9, v10, v11, v12, rfl, rfl⟩
          have hj : j < n - (x + 1) := by
            have := lt_of_getL hz
            simpa using this
          have hzy : z = nD (x + 1 + j) := by
            rw [List.getElem?_map, List.getElem?_range' hj] at hz
            simpa using (Option.some.inj hz).symm
          subst hzy
          generalize hy : x + 1 + j = y
          have hyn : y < n := by omega
          have y1 : ∀ N : Mem, ixV (.d (.list (intsD G))) (.d (nD y)) N = .ok (.d (.int (sF ss y + (pF ps y - pF qs y)))) N := fun N => ixV_l (atI_some (getI (hGx y hyn)))
          have y2 : ∀ N : Mem, ixV (.d (.list (intsD G))) (.d (nD x)) N = .ok (.d (.int (sF ss x + (pF ps x - pF qs x)))) N := fun N => ixV_l (atI_some (getI (hGx x hx)))
          have y3 : ∀ N : Mem, ixV (.d (.tuple (ss.map nD))) (.d (nD y)) N = .ok (.d (.int (sF ss y))) N := fun N => ixV_t (atI_some (hSx y hyn))
          have y4 : ∀ N : Mem, ixV (.d (.tuple (ss.map nD))) (.d (nD x)) N = .ok (.d (.int (sF ss x))) N := fun N => ixV_t (atI_some (hSx x hx))
          have hrow : row x (j + 1) = row x j ++ (crossD n ss ps qs (x, y)).toList := by
            show List.filterMap _ (List.map _ (List.range' (x + 1) (j + 1))) = _
            rw [show j + 1 = j + 1 by rfl, ← List.range'_append_1 (s := x + 1) (m := j) (n := 1), List.map_append, List.filterMap_append]
            congr 1
            rw [hy]
            show List.filterMap _ [(x, y)] = _
            cases hc : crossD n ss ps qs (x, y) with
            | none => rw [List.filterMap_cons_none hc]; rfl
            | some d => rw [List.filterMap_cons_some hc]; rfl
          have hval : (if ((sF ss y + (pF ps y - pF qs y)) - (sF ss x + (pF ps x - pF qs x))) / (n : Int) - (sF ss y - sF ss x) / (n : Int) < 0 then -(((sF ss y + (pF ps y - pF qs y)) - (sF ss x + (pF ps x - pF qs x))) / (n : Int) - (sF ss y - sF ss x) / (n : Int)) else ((sF ss y + (pF ps y - pF qs y)) - (sF ss x + (pF ps x - pF qs x))) / (n : Int) - (sF ss y - sF ss x) / (n : Int)) = crossI n ss ps qs x y := rfl
          have fd : ∀ (a : Int) (N : Mem), fdivV (.d (.int a)) (.d (.int (n : Nat))) N = .ok (.d (.int (a / (n : Nat)))) N := fun a N => fdiv_ii (by omega) (by omega)
          by_cases hc : 0 < crossI n ss ps qs x y
          · have hcd : crossD n ss ps qs (x, y) = some (.tuple [nD x, nD y, .int (crossI n ss ps qs x y)]) := if_pos hc
            rw [hcd] at hrow
            have happ : methE appM (getV 7) (consA (tupE (consA (getV 8) (consA (getV 9) (consA (getV 10) nilA)))) nilA) (E (some (.d (nD x))) (some (.d (nD y))) (some (.d (.int (crossI n ss ps qs x y)))) v11 v12) (M ++ [.lst (acc x ++ row x j)]) = .ok (.d .none) (M ++ [.lst (acc x ++ row x j ++ [.tuple [nD x, nD y, .int (crossI n ss ps qs x y)]])]) := by
              have h1 := acc_len x (by omega)
              have h2 := row_len x j
              rw [methE_at (i := M.length) (xs0 := acc x ++ row x j) (xs := acc x ++ row x j) (ys := [.d (.tuple [nD x, nD y, .int (crossI n ss ps qs x y)])]) (M2 := M ++ [.lst (acc x ++ row x j)]) (by simp only [defM, startE, seqS_a, setS_a, bindS_ok, bindS_er, then_nx, then_rt, then_er, ifS_a, ifK_t, ifK_f, retS_a, dropS_a, asgS_a, asK_a, goG_ok, subT_a, nopS_a, getV_0, getV_s, cst_a, op2_a, o2a_ok, o2b_ok, opT_a, oTa_ok, oTb_ok, consA_a, cAa_ok, cAb_ok, nilA_a, callF_a, cFa_ok, callE_a, cEa_ok, newE_a, nwa_ok, datE_a, dta_ok, dispE_a, tupE_a, tpa_ok, asDs_a, datas, bind_ok, pur_ok, bool_b, leave_d, leave_nx, leave_er, ifE_a, ifa_t, ifa_f, notT_a, nta_ok, andT_a, ana_t, ana_f, orT_a, ora_t, ora_f, tstE_a, tsa_b, andE_a, aEa_t, aEa_f, orE_a, oEa_t, oEa_f, notE_a, nEa_ok, add_ii, sub_ii, gt_ii, lt_ii, ge_ii, le_ii, setT_a, consT_a, cTa_ok, nilT_a, tupT_a, seqT_t, seqT_l, forS_a, List.map_cons, List.map_nil, List.length_cons, List.length_nil, Nat.reduceAdd, Nat.reduceSub, Nat.zero_add, Nat.add_zero, List.replicate, List.cons_append, List.nil_append, List.append_nil, List.getElem?_cons_zero, List.getElem?_cons_succ, List.set_cons_zero, List.set_cons_succ, List.getElem?_nil, Option.map_some, Option.map_none, Option.bind_some, if_true, if_false, ite_true, ite_false, eq_self_iff_true, and_self, and_true, true_and, decide_true, decide_false, Bool.false_eq_true, Bool.not_true, Bool.not_false, sizeLine, Nat.reducePow, Nat.reduceLeDiff, Nat.zero_le, pow_7, pow_18, pow_40, E]) (m1_a rfl) (by simp only [defM, startE, seqS_a, setS_a, bindS_ok, bindS_er, then_nx, then_rt, then_er, ifS_a, ifK_t, ifK_f, retS_a, dropS_a, asgS_a, asK_a, goG_ok, subT_a, nopS_a, getV_0, getV_s, cst_a, op2_a, o2a_ok, o2b_ok, opT_a, oTa_ok, oTb_ok, consA_a, cAa_ok, cAb_ok, nilA_a, callF_a, cFa_ok, callE_a, cEa_ok, newE_a, nwa_ok, datE_a, dta_ok, dispE_a, tupE_a, tpa_ok, asDs_a, datas, bind_ok, pur_ok, bool_b, leave_d, leave_nx, leave_er, ifE_a, ifa_t, ifa_f, notT_a, nta_ok, andT_a, ana_t, ana_f, orT_a, ora_t, ora_f, tstE_a, tsa_b, andE_a, aEa_t, aEa_f, orE_a, oEa_t, oEa_f, notE_a, nEa_ok, add_ii, sub_ii, gt_ii, lt_ii, ge_ii, le_ii, setT_a, consT_a, cTa_ok, nilT_a, tupT_a, seqT_t, seqT_l, forS_a, List.map_cons, List.map_nil, List.length_cons, List.length_nil, Nat.reduceAdd, Nat.reduceSub, Nat.zero_add, Nat.add_zero, List.replicate, List.cons_append, List.nil_append, List.append_nil, List.getElem?_cons_zero, List.getElem?_cons_succ, List.set_cons_zero, List.set_cons_succ, List.getElem?_nil, Option.map_some, Option.map_none, Option.bind_some, if_true, if_false, ite_true, ite_false, eq_self_iff_true, and_self, and_true, true_and, decide_true, decide_false, Bool.false_eq_true, Bool.not_true, Bool.not_false, sizeLine, Nat.reducePow, Nat.reduceLeDiff, Nat.zero_le, pow_7, pow_18, pow_40, E]) (m1_a rfl), app_at (by rw [List.length_append, hsz]; omega), m1_sa rfl]
              rfl
            refine ⟨E (some (.d (nD x))) (some (.d (nD y))) v10 v11 v12, M ++ [.lst (acc x ++ row x j)], E (some (.d (nD x))) (some (.d (nD y))) (some (.d (.int (crossI n ss ps qs x y)))) v11 v12, M ++ [.lst (acc x ++ row x j ++ [.tuple [nD x, nD y, .int (crossI n ss ps qs x y)]])], ?_, ?_, _, _, _, _, rfl, by rw [hrow, List.append_assoc]; rfl⟩
            · simp only [defM, startE, seqS_a, setS_a, bindS_ok, bindS_er, then_nx, then_rt, then_er, ifS_a, ifK_t, ifK_f, retS_a, dropS_a, asgS_a, asK_a, goG_ok, subT_a, nopS_a, getV_0, getV_s, cst_a, op2_a, o2a_ok, o2b_ok, opT_a, oTa_ok, oTb_ok, consA_a, cAa_ok, cAb_ok, nilA_a, callF_a, cFa_ok, callE_a, cEa_ok, newE_a, nwa_ok, datE_a, dta_ok, dispE_a, tupE_a, tpa_ok, asDs_a, datas, bind_ok, pur_ok, bool_b, leave_d, leave_nx, leave_er, ifE_a, ifa_t, ifa_f, notT_a, nta_ok, andT_a, ana_t, ana_f, orT_a, ora_t, ora_f, tstE_a, tsa_b, andE_a, aEa_t, aEa_f, orE_a, oEa_t, oEa_f, notE_a, nEa_ok, add_ii, sub_ii, gt_ii, lt_ii, ge_ii, le_ii, setT_a, consT_a, cTa_ok, nilT_a, tupT_a, seqT_t, seqT_l, forS_a, List.map_cons, List.map_nil, List.length_cons, List.length_nil, Nat.reduceAdd, Nat.reduceSub, Nat.zero_add, Nat.add_zero, List.replicate, List.cons_append, List.nil_append, List.append_nil, List.getElem?_cons_zero, List.getElem?_cons_succ, List.set_cons_zero, List.set_cons_succ, List.getElem?_nil, Option.map_some, Option.map_none, Option.bind_some, if_true, if_false, ite_true, ite_false, eq_self_iff_true, and_self, and_true, true_and, decide_true, decide_false, Bool.false_eq_true, Bool.not_true, Bool.not_false, sizeLine, Nat.reducePow, Nat.reduceLeDiff, Nat.zero_le, pow_7, pow_18, pow_40, E]
            · simp only [defM, startE, seqS_a, setS_a, bindS_ok, bindS_er, then_nx, then_rt, then_er, ifS_a, ifK_t, ifK_f, retS_a, dropS_a, asgS_a, asK_a, goG_ok, subT_a, nopS_a, getV_0, getV_s, cst_a, op2_a, o2a_ok, o2b_ok, opT_a, oTa_ok, oTb_ok, consA_a, cAa_ok, cAb_ok, nilA_a, callF_a, cFa_ok, callE_a, cEa_ok, newE_a, nwa_ok, datE_a, dta_ok, dispE_a, tupE_a, tpa_ok, asDs_a, datas, bind_ok, pur_ok, bool_b, leave_d, leave_nx, leave_er, ifE_a, ifa_t, ifa_f, notT_a, nta_ok, andT_a, ana_t, ana_f, orT_a, ora_t, ora_f, tstE_a, tsa_b, andE_a, aEa_t, aEa_f, orE_a, oEa_t, oEa_f, notE_a, nEa_ok, add_ii, sub_ii, gt_ii, lt_ii, ge_ii, le_ii, setT_a, consT_a, cTa_ok, nilT_a, tupT_a, seqT_t, seqT_l, forS_a, List.map_cons, List.map_nil, List.length_cons, List.length_nil, Nat.reduceAdd, Nat.reduceSub, Nat.zero_add, Nat.add_zero, List.replicate, List.cons_append, List.nil_append, List.append_nil, List.getElem?_cons_zero, List.getElem?_cons_succ, List.set_cons_zero, List.set_cons_succ, List.getElem?_nil, Option.map_some, Option.map_none, Option.bind_some, if_true, if_false, ite_true, ite_false, eq_self_iff_true, and_self, and_true, true_and, decide_true, decide_false, Bool.false_eq_true, Bool.not_true, Bool.not_false, sizeLine, Nat.reducePow, Nat.reduceLeDiff, Nat.zero_le, pow_7, pow_18, pow_40, E, y1, y2, y3, y4, fd, abs_i, hval, hc]
              simp only [E] at happ
              simp only [defM, startE, seqS_a, setS_a, bindS_ok, bindS_er, then_nx, then_rt, then_er, ifS_a, ifK_t, ifK_f, retS_a, dropS_a, asgS_a, asK_a, goG_ok, subT_a, nopS_a, getV_0, getV_s, cst_a, op2_a, o2a_ok, o2b_ok, opT_a, oTa_ok, oTb_ok, consA_a, cAa_ok, cAb_ok, nilA_a, callF_a, cFa_ok, callE_a, cEa_ok, newE_a, nwa_ok, datE_a, dta_ok, dispE_a, tupE_a, tpa_ok, asDs_a, datas, bind_ok, pur_ok, bool_b, leave_d, leave_nx, leave_er, ifE_a, ifa_t, ifa_f, notT_a, nta_ok, andT_a, ana_t, ana_f, orT_a, ora_t, ora_f, tstE_a, tsa_b, andE_a, aEa_t, aEa_f, orE_a, oEa_t, oEa_f, notE_a, nEa_ok, add_ii, sub_ii, gt_ii, lt_ii, ge_ii, le_ii, setT_a, consT_a, cTa_ok, nilT_a, tupT_a, seqT_t, seqT_l, forS_a, List.map_cons, List.map_nil, List.length_cons, List.length_nil, Nat.reduceAdd, Nat.reduceSub, Nat.zero_add, Nat.add_zero, List.replicate, List.cons_append, List.nil_append, List.append_nil, List.getElem?_cons_zero, List.getElem?_cons_succ, List.set_cons_zero, List.set_cons_succ, List.getElem?_nil, Option.map_some, Option.map_none, Option.bind_some, if_true, if_false, ite_true, ite_false, eq_self_iff_true, and_self, and_true, true_and, decide_true, decide_false, Bool.false_eq_true, Bool.not_true, Bool.not_false, sizeLine, Nat.reducePow, Nat.reduceLeDiff, Nat.zero_le, pow_7, pow_18, pow_40, happ]
          · have hcd : crossD n ss ps qs (x, y) = none := if_neg hc
            rw [hcd] at hrow
            refine ⟨E (some (.d (nD x))) (some (.d (nD y))) v10 v11 v12, M ++ [.lst (acc x ++ row x j)], E (some (.d (nD x))) (some (.d (nD y))) (some (.d (.int (crossI n ss ps qs x y)))) v11 v12, M ++ [.lst (acc x ++ row x j)], ?_, ?_, _, _, _, _, rfl, by rw [hrow]; simp⟩
            · simp only [defM, startE, seqS_a, setS_a, bindS_ok, bindS_er, then_nx, then_rt, then_er, ifS_a, ifK_t, ifK_f, retS_a, dropS_a, asgS_a, asK_a, goG_ok, subT_a, nopS_a, getV_0, getV_s, cst_a, op2_a, o2a_ok, o2b_ok, opT_a, oTa_ok, oTb_ok, consA_a, cAa_ok, cAb_ok, nilA_a, callF_a, cFa_ok, callE_a, cEa_ok, newE_a, nwa_ok, datE_a, dta_ok, dispE_a, tupE_a, tpa_ok, asDs_a, datas, bind_ok, pur_ok, bool_b, leave_d, leave_nx, leave_er, ifE_a, ifa_t, ifa_f, notT_a, nta_ok, andT_a, ana_t, ana_f, orT_a, ora_t, ora_f, tstE_a, tsa_b, andE_a, aEa_t, aEa_f, orE_a, oEa_t, oEa_f, notE_a, nEa_ok, add_ii, sub_ii, gt_ii, lt_ii, ge_ii, le_ii, setT_a, consT_a, cTa_ok, nilT_a, tupT_a, seqT_t, seqT_l, forS_a, List.map_cons, List.map_nil, List.length_cons, List.length_nil, Nat.reduceAdd, Nat.reduceSub, Nat.zero_add, Nat.add_zero, List.replicate, List.cons_append, List.nil_append, List.append_nil, List.getElem?_cons_zero, List.getElem?_cons_succ, List.set_cons_zero, List.set_cons_succ, List.getElem?_nil, Option.map_some, Option.map_none, Option.bind_some, if_true, if_false, ite_true, ite_false, eq_self_iff_true, and_self, and_true, true_and, decide_true, decide_false, Bool.false_eq_true, Bool.not_true, Bool.not_false, sizeLine, Nat.reducePow, Nat.reduceLeDiff, Nat.zero_le, pow_7, pow_18, pow_40, E]
            · simp only [defM, startE, seqS_a, setS_a, bindS_ok, bindS_er, then_nx, then_rt, then_er, ifS_a, ifK_t, ifK_f, retS_a, dropS_a, asgS_a, asK_a, goG_ok, subT_a, nopS_a, getV_0, getV_s, cst_a, op2_a, o2a_ok, o2b_ok, opT_a, oTa_ok, oTb_ok, consA_a, cAa_ok, cAb_ok, nilA_a, callF_a, cFa_ok, callE_a, cEa_ok, newE_a, nwa_ok, datE_a, dta_ok, dispE_a, tupE_a, tpa_ok, asDs_a, datas, bind_ok, pur_ok, bool_b, leave_d, leave_nx, leave_er, ifE_a, ifa_t, ifa_f, notT_a, nta_ok, andT_a, ana_t, ana_f, orT_a, ora_t, ora_f, tstE_a, tsa_b, andE_a, aEa_t, aEa_f, orE_a, oEa_t, oEa_f, notE_a, nEa_ok, add_ii, sub_ii, gt_ii, lt_ii, ge_ii, le_ii, setT_a, consT_a, cTa_ok, nilT_a, tupT_a, seqT_t, seqT_l, forS_a, List.map_cons, List.map_nil, List.length_cons, List.length_nil, Nat.reduceAdd, Nat.reduceSub, Nat.zero_add, Nat.add_zero, List.replicate, List.cons_append, List.nil_append, List.append_nil, List.getElem?_cons_zero, List.getElem?_cons_succ, List.set_cons_zero, List.set_cons_succ, List.getElem?_nil, Option.map_some, Option.map_none, Option.bind_some, if_true, if_false, ite_true, ite_false, eq_self_iff_true, and_self, and_true, true_and, decide_true, decide_false, Bool.false_eq_true, Bool.not_true, Bool.not_false, sizeLine, Nat.reducePow, Nat.reduceLeDiff, Nat.zero_le, pow_7, pow_18, pow_40, E, y1, y2, y3, y4, fd, abs_i, hval, hc])
        ⟨_, _, _, _, rfl, by simp [row]⟩
      have hr2 : rngI2 (op2 addV (getV 8) (cst (.d (.int 1)))) (getV 5) (E (some (.d (nD x))) v9 v10 v11 v12) (M ++ [.lst (acc x)]) = .ok ((List.range' (x + 1) (n - (x + 1))).map nD) (M ++ [.lst (acc x)]) := by
        rw [← rangeD_from (by omega)]
        exact rngI2_a (by simp only [defM, startE, seqS_a, setS_a, bindS_ok, bindS_er, then_nx, then_rt, then_er, ifS_a, ifK_t, ifK_f, retS_a, dropS_a, asgS_a, asK_a, goG_ok, subT_a, nopS_a, getV_0, getV_s, cst_a, op2_a, o2a_ok, o2b_ok, opT_a, oTa_ok, oTb_ok, consA_a, cAa_ok, cAb_ok, nilA_a, callF_a, cFa_ok, callE_a, cEa_ok, newE_a, nwa_ok, datE_a, dta_ok, dispE_a, tupE_a, tpa_ok, asDs_a, datas, bind_ok, pur_ok, bool_b, leave_d, leave_nx, leave_er, ifE_a, ifa_t, ifa_f, notT_a, nta_ok, andT_a, ana_t, ana_f, orT_a, ora_t, ora_f, tstE_a, tsa_b, andE_a, aEa_t, aEa_f, orE_a, oEa_t, oEa_f, notE_a, nEa_ok, add_ii, sub_ii, gt_ii, lt_ii, ge_ii, le_ii, setT_a, consT_a, cTa_ok, nilT_a, tupT_a, seqT_t, seqT_l, forS_a, List.map_cons, List.map_nil, List.length_cons, List.length_nil, Nat.reduceAdd, Nat.reduceSub, Nat.zero_add, Nat.add_zero, List.replicate, List.cons_append, List.nil_append, List.append_nil, List.getElem?_cons_zero, List.getElem?_cons_succ, List.set_cons_zero, List.set_cons_succ, List.getElem?_nil, Option.map_some, Option.map_none, Option.bind_some, if_true, if_false, ite_true, ite_false, eq_self_iff_true, and_self, and_true, true_and, decide_true, decide_false, Bool.false_eq_true, Bool.not_true, Bool.not_false, sizeLine, Nat.reducePow, Nat.reduceLeDiff, Nat.zero_le, pow_7, pow_18, pow_40, E]; rfl) (by simp only [defM, startE, seqS_a, setS_a, bindS_ok, bindS_er, then_nx, then_rt, then_er, ifS_a, ifK_t, ifK_f, retS_a, dropS_a, asgS_a, asK_a, goG_ok, subT_a, nopS_a, getV_0, getV_s, cst_a, op2_a, o2a_ok, o2b_ok, opT_a, oTa_ok, oTb_ok, consA_a, cAa_ok, cAb_ok, nilA_a, callF_a, cFa_ok, callE_a, cEa_ok, newE_a, nwa_ok, datE_a, dta_ok, dispE_a, tupE_a, tpa_ok, asDs_a, datas, bind_ok, pur_ok, bool_b, leave_d, leave_nx, leave_er, ifE_a, ifa_t, ifa_f, notT_a, nta_ok, andT_a, ana_t, ana_f, orT_a, ora_t, ora_f, tstE_a, tsa_b, andE_a, aEa_t, aEa_f, orE_a, oEa_t, oEa_f, notE_a, nEa_ok, add_ii, sub_ii, gt_ii, lt_ii, ge_ii, le_ii, setT_a, consT_a, cTa_ok, nilT_a, tupT_a, seqT_t, seqT_l, forS_a, List.map_cons, List.map_nil, List.length_cons, List.length_nil, Nat.reduceAdd, Nat.reduceSub, Nat.zero_add, Nat.add_zero, List.replicate, List.cons_append, List.nil_append, List.append_nil, List.getElem?_cons_zero, List.getElem?_cons_succ, List.set_cons_zero, List.set_cons_succ, List.getElem?_nil, Option.map_some, Option.map_none, Option.bind_some, if_true, if_false, ite_true, ite_false, eq_self_iff_true, and_self, and_true, true_and, decide_true, decide_false, Bool.false_eq_true, Bool.not_true, Bool.not_false, sizeLine, Nat.reducePow, Nat.reduceLeDiff, Nat.zero_le, pow_7, pow_18, pow_40, E]) (by omega)
      have hll : ((List.range' (x + 1) (n - (x + 1))).map nD).length = n - (x + 1) := by simp
      rw [hll, ← acc_s] at el2
      refine ⟨E (some (.d (nD x))) v9 v10 v11 v12, M ++ [.lst (acc x)], E (some (.d (nD x))) w9 w10 w11 w12, M ++ [.lst (acc (x + 1))], ?_, ?_, _, _, _, _, _, rfl, rfl⟩
      · simp only [defM, startE, seqS_a, setS_a, bindS_ok, bindS_er, then_nx, then_rt, then_er, ifS_a, ifK_t, ifK_f, retS_a, dropS_a, asgS_a, asK_a, goG_ok, subT_a, nopS_a, getV_0, getV_s, cst_a, op2_a, o2a_ok, o2b_ok, opT_a, oTa_ok, oTb_ok, consA_a, cAa_ok, cAb_ok, nilA_a, callF_a, cFa_ok, callE_a, cEa_ok, newE_a, nwa_ok, datE_a, dta_ok, dispE_a, tupE_a, tpa_ok, asDs_a, datas, bind_ok, pur_ok, bool_b, leave_d, leave_nx, leave_er, ifE_a, ifa_t, ifa_f, notT_a, nta_ok, andT_a, ana_t, ana_f, orT_a, ora_t, ora_f, tstE_a, tsa_b, andE_a, aEa_t, aEa_f, orE_a, oEa_t, oEa_f, notE_a, nEa_ok, add_ii, sub_ii, gt_ii, lt_ii, ge_ii, le_ii, setT_a, consT_a, cTa_ok, nilT_a, tupT_a, seqT_t, seqT_l, forS_a, List.map_cons, List.map_nil, List.length_cons, List.length_nil, Nat.reduceAdd, Nat.reduceSub, Nat.zero_add, Nat.add_zero, List.replicate, List.cons_append, List.nil_append, List.append_nil, List.getElem?_cons_zero, List.getElem?_cons_succ, List.set_cons_zero, List.set_cons_succ, List.getElem?_nil, Option.map_some, Option.map_none, Option.bind_some, if_true, if_false, ite_true, ite_false, eq_self_iff_true, and_self, and_true, true_and, decide_true, decide_false, Bool.false_eq_true, Bool.not_true, Bool.not_false, sizeLine, Nat.reducePow, Nat.reduceLeDiff, Nat.zero_le, pow_7, pow_18, pow_40, E]
      · rw [forS_a, hr2, bindS_ok]
        exact el2)
    ⟨none, none, none, none, none, rfl, rfl⟩
  have hrl : (rangeD 0 (n : Int)).length = n := by rw [rangeD_nat]; simp
  rw [hrl] at el
  have hacc : acc n = crossL n ss ps qs := rfl
  rw [hacc] at el
  have hr : rngI1 (getV 5) (E none none none none none) (M ++ [.lst []]) = .ok (rangeD 0 (n : Int)) (M ++ [.lst []]) := rngI1_a (by simp only [defM, startE, seqS_a, setS_a, bindS_ok, bindS_er, then_nx, then_rt, then_er, ifS_a, ifK_t, ifK_f, retS_a, dropS_a, asgS_a, asK_a, goG_ok, subT_a, nopS_a, getV_0, getV_s, cst_a, op2_a, o2a_ok, o2b_ok, opT_a, oTa_ok, oTb_ok, consA_a, cAa_ok, cAb_ok, nilA_a, callF_a, cFa_ok, callE_a, cEa_ok, newE_a, nwa_ok, datE_a, dta_ok, dispE_a, tupE_a, tpa_ok, asDs_a, datas, bind_ok, pur_ok, bool_b, leave_d, leave_nx, leave_er, ifE_a, ifa_t, ifa_f, notT_a, nta_ok, andT_a, ana_t, ana_f, orT_a, ora_t, ora_f, tstE_a, tsa_b, andE_a, aEa_t, aEa_f, orE_a, oEa_t, oEa_f, notE_a, nEa_ok, add_ii, sub_ii, gt_ii, lt_ii, ge_ii, le_ii, setT_a, consT_a, cTa_ok, nilT_a, tupT_a, seqT_t, seqT_l, forS_a, List.map_cons, List.map_nil, List.length_cons, List.length_nil, Nat.reduceAdd, Nat.reduceSub, Nat.zero_add, Nat.add_zero, List.replicate, List.cons_append, List.nil_append, List.append_nil, List.getElem?_cons_zero, List.getElem?_cons_succ, List.set_cons_zero, List.set_cons_succ, List.getElem?_nil, Option.map_some, Option.map_none, Option.bind_some, if_true, if_false, ite_true, ite_false, eq_self_iff_true, and_self, and_true, true_and, decide_true, decide_false, Bool.false_eq_true, Bool.not_true, Bool.not_false, sizeLine, Nat.reducePow, Nat.reduceLeDiff, Nat.zero_le, pow_7, pow_18, pow_40, E]) (by omega)
  have fz : freeze 7 (E v8 v9 v10 v11 v12) (M ++ [.lst (crossL n ss ps qs)]) = _ := jfz (L := M.length) (k := 0) rfl rfl rfl
  have h2 : ∀ (δ : Tgs) (e : Env) (N : Mem), seqT 2 δ (.d (stD ss ps)) e N = δ [.tuple (ss.map nD), .tuple (intsD ps)] e N := fun δ e N => seqT_t rfl
  unfold m_crossings g_crossings
  simp only [E] at hr el fz
  simp only [defM, startE, seqS_a, setS_a, bindS_ok, bindS_er, then_nx, then_rt, then_er, ifS_a, ifK_t, ifK_f, retS_a, dropS_a, asgS_a, asK_a, goG_ok, subT_a, nopS_a, getV_0, getV_s, cst_a, op2_a, o2a_ok, o2b_ok, opT_a, oTa_ok, oTb_ok, consA_a, cAa_ok, cAb_ok, nilA_a, callF_a, cFa_ok, callE_a, cEa_ok, newE_a, nwa_ok, datE_a, dta_ok, dispE_a, tupE_a, tpa_ok, asDs_a, datas, bind_ok, pur_ok, bool_b, leave_d, leave_nx, leave_er, ifE_a, ifa_t, ifa_f, notT_a, nta_ok, andT_a, ana_t, ana_f, orT_a, ora_t, ora_f, tstE_a, tsa_b, andE_a, aEa_t, aEa_f, orE_a, oEa_t, oEa_f, notE_a, nEa_ok, add_ii, sub_ii, gt_ii, lt_ii, ge_ii, le_ii, setT_a, consT_a, cTa_ok, nilT_a, tupT_a, seqT_t, seqT_l, forS_a, List.map_cons, List.map_nil, List.length_cons, List.length_nil, Nat.reduceAdd, Nat.reduceSub, Nat.zero_add, Nat.add_zero, List.replicate, List.cons_append, List.nil_append, List.append_nil, List.getElem?_cons_zero, List.getElem?_cons_succ, List.set_cons_zero, List.set_cons_succ, List.getElem?_nil, Option.map_some, Option.map_none, Option.bind_some, if_true, if_false, ite_true, ite_false, eq_self_iff_true, and_self, and_true, true_and, decide_true, decide_false, Bool.false_eq_true, Bool.not_true, Bool.not_false, sizeLine, Nat.reducePow, Nat.reduceLeDiff, Nat.zero_le, pow_7, pow_18, pow_40, shifts_ok (M := M) h k L hn, h2, len_t, List.length_map, hl, hlc, hr, el, fz]
  rw [List.take_append_of_le_length (by simp), take_all (by simp)]
theorem distance_ok {n : Nat} {ss tt : List Nat} {ps qs : List Int} {M : Mem} (h : Stt n ss ps) (k : Stt n tt qs) (h0 : 0 < n) (L : Lot ss ps tt qs) (hn : n ≤ 1000) : m_distance [.d (stD ss ps), .d (stD tt qs)] M = .ok (.d (.int (distI n ss ps qs))) M := by
  have hsz : sizeLine = 2 ^ 24 := rfl
  have hlen : (crossL n ss ps qs).length ≤ 1000 * 1000 := by
    unfold crossL
    refine Nat.le_trans (List.length_filterMap_le _ _) ?_
    unfold pairs
    have : ∀ l : List Nat, (l.flatMap fun x => (List.range' (x + 1) (n - (x + 1))).map fun y => (x, y)).length ≤ 1000 * l.length := fun l => by
      induction l with
      | nil => simp
      | cons x l ih => rw [List.flatMap_cons, List.length_append, List.length_cons, List.length_map, List.length_range']; omega
    have := this (List.range n)
    rw [List.length_range] at this
    omega
  have hlc : lcE [2] (seqI (callF 2 C.m_crossings (consA (getV 0) (consA (getV 1) nilA)))) (setT 2) (fun _ M => .ok true M) (op2 ixV (getV 2) (cst (.d (.int 2)))) [some (.d (stD ss ps)), some (.d (stD tt qs)), none] M = .ok ((crossL n ss ps qs).map fun x => match x with | .tuple [_, _, c] => c | _ => .none) M := by
    rw [lcE_at (seqI_a (x := .d (.list (crossL n ss ps qs))) (M1 := M) (by simp only [defM, startE, seqS_a, setS_a, bindS_ok, bindS_er, then_nx, then_rt, then_er, ifS_a, ifK_t, ifK_f, retS_a, dropS_a, asgS_a, asK_a, goG_ok, subT_a, nopS_a, getV_0, getV_s, cst_a, op2_a, o2a_ok, o2b_ok, opT_a, oTa_ok, oTb_ok, consA_a, cAa_ok, cAb_ok, nilA_a, callF_a, cFa_ok, callE_a, cEa_ok, newE_a, nwa_ok, datE_a, dta_ok, dispE_a, tupE_a, tpa_ok, asDs_a, datas, bind_ok, pur_ok, bool_b, leave_d, leave_nx, leave_er, ifE_a, ifa_t, ifa_f, notT_a, nta_ok, andT_a, ana_t, ana_f, orT_a, ora_t, ora_f, tstE_a, tsa_b, andE_a, aEa_t, aEa_f, orE_a, oEa_t, oEa_f, notE_a, nEa_ok, add_ii, sub_ii, gt_ii, lt_ii, ge_ii, le_ii, setT_a, consT_a, cTa_ok, nilT_a, tupT_a, seqT_t, seqT_l, forS_a, List.map_cons, List.map_nil, List.length_cons, List.length_nil, Nat.reduceAdd, Nat.reduceSub, Nat.zero_add, Nat.add_zero, List.replicate, List.cons_append, List.nil_append, List.append_nil, List.getElem?_cons_zero, List.getElem?_cons_succ, List.set_cons_zero, List.set_cons_succ, List.getElem?_nil, Option.map_some, Option.map_none, Option.bind_some, if_true, if_false, ite_true, ite_false, eq_self_iff_true, and_self, and_true, true_and, decide_true, decide_false, Bool.false_eq_true, Bool.not_true, Bool.not_false, sizeLine, Nat.reducePow, Nat.reduceLeDiff, Nat.zero_le, pow_7, pow_18, pow_40, crossings_ok (M := M) h k h0 L hn]) rfl)]
    refine lcL_map _ _ [] (by rw [hsz]; simp; omega) fun z hz => ?_
    obtain ⟨w, hw, hc⟩ := List.mem_filterMap.mp hz
    unfold crossD at hc
    split at hc
    · cases hc
      refine ⟨[some (.d (stD ss ps)), some (.d (stD tt qs)), some (.d (.tuple [nD w.1, nD w.2, .int (crossI n ss ps qs w.1 w.2)]))], rfl, rfl, ?_⟩
      have : ixV (.d (.tuple [nD w.1, nD w.2, .int (crossI n ss ps qs w.1 w.2)])) (.d (.int 2)) M = .ok (.d (.int (crossI n ss ps qs w.1 w.2))) M := ixV_t rfl
      simp only [defM, startE, seqS_a, setS_a, bindS_ok, bindS_er, then_nx, then_rt, then_er, ifS_a, ifK_t, ifK_f, retS_a, dropS_a, asgS_a, asK_a, goG_ok, subT_a, nopS_a, getV_0, getV_s, cst_a, op2_a, o2a_ok, o2b_ok, opT_a, oTa_ok, oTb_ok, consA_a, cAa_ok, cAb_ok, nilA_a, callF_a, cFa_ok, callE_a, cEa_ok, newE_a, nwa_ok, datE_a, dta_ok, dispE_a, tupE_a, tpa_ok, asDs_a, datas, bind_ok, pur_ok, bool_b, leave_d, leave_nx, leave_er, ifE_a, ifa_t, ifa_f, notT_a, nta_ok, andT_a, ana_t, ana_f, orT_a, ora_t, ora_f, tstE_a, tsa_b, andE_a, aEa_t, aEa_f, orE_a, oEa_t, oEa_f, notE_a, nEa_ok, add_ii, sub_ii, gt_ii, lt_ii, ge_ii, le_ii, setT_a, consT_a, cTa_ok, nilT_a, tupT_a, seqT_t, seqT_l, forS_a, List.map_cons, List.map_nil, List.length_cons, List.length_nil, Nat.reduceAdd, Nat.reduceSub, Nat.zero_add, Nat.add_zero, List.replicate, List.cons_append, List.nil_append, List.append_nil, List.getElem?_cons_zero, List.getElem?_cons_succ, List.set_cons_zero, List.set_cons_succ, List.getElem?_nil, Option.map_some, Option.map_none, Option.bind_some, if_true, if_false, ite_true, ite_false, eq_self_iff_true, and_self, and_true, true_and, decide_true, decide_false, Bool.false_eq_true, Bool.not_true, Bool.not_false, sizeLine, Nat.reducePow, Nat.reduceLeDiff, Nat.zero_le, pow_7, pow_18, pow_40, this]
    · cases hc
  have hsum : ∃ ns : List Int, ((crossL n ss ps qs).map fun x => match x with | .tuple [_, _, c] => c | _ => .none) = intsD ns ∧ ns.sum = distI n ss ps qs := by
    unfold crossL distI
    induction pairs n with
    | nil => exact ⟨[], rfl, rfl⟩
    | cons z l ih =>
      obtain ⟨ns, e, hs⟩ := ih
      by_cases hc : 0 < crossI n ss ps qs z.1 z.2
      · refine ⟨crossI n ss ps qs z.1 z.2 :: ns, ?_, ?_⟩
        · rw [List.filterMap_cons_some (show crossD n ss ps qs z = some _ from if_pos hc), List.map_cons, e]
          rfl
        · rw [List.sum_cons, List.map_cons, List.sum_cons, hs]
      · refine ⟨ns, ?_, ?_⟩
        · rw [List.filterMap_cons_none (show crossD n ss ps qs z = none from if_neg hc)]
          exact e
        · have : crossI n ss ps qs z.1 z.2 = 0 := by
            have := absI_nn ((sF ss z.2 + (pF ps z.2 - pF qs z.2) - (sF ss z.1 + (pF ps z.1 - pF qs z.1))) / n - (sF ss z.2 - sF ss z.1) / n)
            unfold crossI at hc ⊢
            omega
          rw [List.map_cons, List.sum_cons, this, hs]
          omega
  obtain ⟨ns, e, hs⟩ := hsum
  rw [e] at hlc
  unfold m_distance g_distance
  simp only [defM, startE, seqS_a, setS_a, bindS_ok, bindS_er, then_nx, then_rt, then_er, ifS_a, ifK_t, ifK_f, retS_a, dropS_a, asgS_a, asK_a, goG_ok, subT_a, nopS_a, getV_0, getV_s, cst_a, op2_a, o2a_ok, o2b_ok, opT_a, oTa_ok, oTb_ok, consA_a, cAa_ok, cAb_ok, nilA_a, callF_a, cFa_ok, callE_a, cEa_ok, newE_a, nwa_ok, datE_a, dta_ok, dispE_a, tupE_a, tpa_ok, asDs_a, datas, bind_ok, pur_ok, bool_b, leave_d, leave_nx, leave_er, ifE_a, ifa_t, ifa_f, notT_a, nta_ok, andT_a, ana_t, ana_f, orT_a, ora_t, ora_f, tstE_a, tsa_b, andE_a, aEa_t, aEa_f, orE_a, oEa_t, oEa_f, notE_a, nEa_ok, add_ii, sub_ii, gt_ii, lt_ii, ge_ii, le_ii, setT_a, consT_a, cTa_ok, nilT_a, tupT_a, seqT_t, seqT_l, forS_a, List.map_cons, List.map_nil, List.length_cons, List.length_nil, Nat.reduceAdd, Nat.reduceSub, Nat.zero_add, Nat.add_zero, List.replicate, List.cons_append, List.nil_append, List.append_nil, List.getElem?_cons_zero, List.getElem?_cons_succ, List.set_cons_zero, List.set_cons_succ, List.getElem?_nil, Option.map_some, Option.map_none, Option.bind_some, if_true, if_false, ite_true, ite_false, eq_self_iff_true, and_self, and_true, true_and, decide_true, decide_false, Bool.false_eq_true, Bool.not_true, Bool.not_false, sizeLine, Nat.reducePow, Nat.reduceLeDiff, Nat.zero_le, pow_7, pow_18, pow_40, hlc, sum_l, hs]
  rw [take_all (by simp)]
end C
end DL

namespace DL
open PySem PySem.Spec L2
/-! ### the program's exchanges -/
theorem augSub_a {op : Int → Int → Int} {fo fi fe : Ev} {e : Env} {M : Mem} {p k : Nat} {xs : List PyData} {a b : Int} (h1 : fo e M = .ok (.h p) M) (h2 : fi e M = .ok (.d (.int (k : Nat))) M) (h3 : M[p]? = some (.lst xs)) (h4 : xs[k]? = some (.int a)) (h5 : fe e M = .ok (.d (.int b)) M) :
    augSubS op fo fi fe e M = .go .nx e (M.set p (.lst (xs.set k (.int (op a b))))) := by
  unfold augSubS
  simp only [h1, h2, h3, atI_some h4, h5]
  rw [if_pos (by omega)]
  simp only [ixN_nat (lt_of_getL h4)]
theorem numD_map {n : Nat} {g : Nat → PyData} : numD ((List.range n).map g) = (List.range n).map fun c => .tuple [nD c, g c] := by
  apply ext_of
  intro k
  by_cases hk : k < n
  · have : ((List.range n).map g)[k]? = some (g k) := by rw [List.getElem?_map, List.getElem?_range hk]; rfl
    rw [numD_get this, List.getElem?_map, List.getElem?_range hk]
    rfl
  · rw [List.getElem?_eq_none (by rw [numD_len]; simp; omega), List.getElem?_eq_none (by simp; omega)]
namespace C
/-- seats whose people have a coin -/
def canL (ss : List Nat) (ps : List Int) : List Nat := (List.range ss.length).filter fun c => decide (0 < pF ps (ss.idxOf c))
theorem exchanges_ok {n : Nat} {x : Vl} {ss : List Nat} {ps : List Int} {M : Mem} (h : Stt n ss ps) (hn : n ≤ 1000) (hx : StV x ss ps) : m_exchanges [x] M = .ok (.d (.list ((canL ss ps).map nD))) M := by
  have hsz : sizeLine = 2 ^ 24 := rfl
  obtain ⟨a, b, h0, h1, h2, h3⟩ := hx.two
  have hl := h.slen
  have hbk : (backL ss).map nD = (List.range n).map fun c => nD (ss.idxOf c) := by unfold backL; rw [List.map_map, hl]; rfl
  let B : PyData → Bool := fun z => match z with
    | .tuple [_, .int j] => decide (0 < pF ps j.toNat)
    | _ => false
  let F : PyData → PyData := fun z => match z with
    | .tuple [c, _] => c
    | _ => .none
  have hlc : ∀ (v1 : Option Vl), lcE [3, 4] (enumI (callF 1 C.m_sitting (consA (getV 0) nilA))) (tupT 2 (consT (setT 3) (consT (setT 4) nilT))) (opT gtV (op2 ixV (getV 2) (getV 4)) (cst (.d (.int 0)))) (getV 3) [some x, v1, some (.d b), none, none] M = .ok ((canL ss ps).map nD) M := fun v1 => by
    rw [lcE_at (C.enumI_a (x := .d (.tuple ((backL ss).map nD))) (M1 := M) (by simp only [defM, startE, seqS_a, setS_a, bindS_ok, bindS_er, then_nx, then_rt, then_er, ifS_a, ifK_t, ifK_f, retS_a, dropS_a, asgS_a, asK_a, goG_ok, subT_a, nopS_a, getV_0, getV_s, cst_a, op2_a, o2a_ok, o2b_ok, opT_a, oTa_ok, oTb_ok, consA_a, cAa_ok, cAb_ok, nilA_a, callF_a, cFa_ok, callE_a, cEa_ok, newE_a, nwa_ok, datE_a, dta_ok, dispE_a, tupE_a, tpa_ok, asDs_a, datas, bind_ok, pur_ok, bool_b, leave_d, leave_nx, leave_er, ifE_a, ifa_t, ifa_f, notT_a, nta_ok, andT_a, ana_t, ana_f, orT_a, ora_t, ora_f, tstE_a, tsa_b, andE_a, aEa_t, aEa_f, orE_a, oEa_t, oEa_f, notE_a, nEa_ok, add_ii, sub_ii, gt_ii, lt_ii, ge_ii, le_ii, setT_a, consT_a, cTa_ok, nilT_a, tupT_a, seqT_t, seqT_l, forS_a, List.map_cons, List.map_nil, List.length_cons, List.length_nil, Nat.reduceAdd, Nat.reduceSub, Nat.zero_add, Nat.add_zero, List.replicate, List.cons_append, List.nil_append, List.append_nil, List.getElem?_cons_zero, List.getElem?_cons_succ, List.set_cons_zero, List.set_cons_succ, List.getElem?_nil, Option.map_some, Option.map_none, Option.bind_some, if_true, if_false, ite_true, ite_false, eq_self_iff_true, and_self, and_true, true_and, decide_true, decide_false, Bool.false_eq_true, Bool.not_true, Bool.not_false, sizeLine, Nat.reducePow, Nat.reduceLeDiff, Nat.zero_le, pow_7, pow_18, pow_40, sitting_ok (M := M) h hn hx]) rfl (by simp [backL_len, hl]; omega)), hbk, numD_map]
    rw [lcL_filter B F _ _ (by simp; omega) (fun z hz => by
      obtain ⟨c, hc, rfl⟩ := List.mem_map.mp hz
      have hc := List.mem_range.mp hc
      obtain ⟨j, hj⟩ := h.onto hc
      have hb := back_at h hj
      have hid : ss.idxOf c = j := by
        unfold backL at hb
        rw [List.getElem?_map, hl, List.getElem?_range hc] at hb
        simpa using hb
      obtain ⟨p, hp, _⟩ := h.purse hj
      have hix : ixV (.d b) (.d (nD j)) M = .ok (.d (.int p)) M := by rcases h2 with h2 | h2 <;> cases h2 <;> first | exact ixV_l (atI_some (getI hp)) | exact ixV_t (atI_some (getI hp))
      have hB : B (.tuple [nD c, nD (ss.idxOf c)]) = decide (0 < p) := by
        show decide (0 < pF ps ((ss.idxOf c : Nat) : Int).toNat) = _
        rw [Int.toNat_natCast, hid, pF_at hp]
      refine ⟨[some x, v1, some (.d b), some (.d (nD c)), some (.d (nD (ss.idxOf c)))], ?_, ?_, fun _ => ?_⟩
      · show tupT 2 _ _ [some x, v1, some (.d b), none, none] M = _
        simp only [defM, startE, seqS_a, setS_a, bindS_ok, bindS_er, then_nx, then_rt, then_er, ifS_a, ifK_t, ifK_f, retS_a, dropS_a, asgS_a, asK_a, goG_ok, subT_a, nopS_a, getV_0, getV_s, cst_a, op2_a, o2a_ok, o2b_ok, opT_a, oTa_ok, oTb_ok, consA_a, cAa_ok, cAb_ok, nilA_a, callF_a, cFa_ok, callE_a, cEa_ok, newE_a, nwa_ok, datE_a, dta_ok, dispE_a, tupE_a, tpa_ok, asDs_a, datas, bind_ok, pur_ok, bool_b, leave_d, leave_nx, leave_er, ifE_a, ifa_t, ifa_f, notT_a, nta_ok, andT_a, ana_t, ana_f, orT_a, ora_t, ora_f, tstE_a, tsa_b, andE_a, aEa_t, aEa_f, orE_a, oEa_t, oEa_f, notE_a, nEa_ok, add_ii, sub_ii, gt_ii, lt_ii, ge_ii, le_ii, setT_a, consT_a, cTa_ok, nilT_a, tupT_a, seqT_t, seqT_l, forS_a, List.map_cons, List.map_nil, List.length_cons, List.length_nil, Nat.reduceAdd, Nat.reduceSub, Nat.zero_add, Nat.add_zero, List.replicate, List.cons_append, List.nil_append, List.append_nil, List.getElem?_cons_zero, List.getElem?_cons_succ, List.set_cons_zero, List.set_cons_succ, List.getElem?_nil, Option.map_some, Option.map_none, Option.bind_some, if_true, if_false, ite_true, ite_false, eq_self_iff_true, and_self, and_true, true_and, decide_true, decide_false, Bool.false_eq_true, Bool.not_true, Bool.not_false, sizeLine, Nat.reducePow, Nat.reduceLeDiff, Nat.zero_le, pow_7, pow_18, pow_40]
      · rw [hB, hid]
        simp only [defM, startE, seqS_a, setS_a, bindS_ok, bindS_er, then_nx, then_rt, then_er, ifS_a, ifK_t, ifK_f, retS_a, dropS_a, asgS_a, asK_a, goG_ok, subT_a, nopS_a, getV_0, getV_s, cst_a, op2_a, o2a_ok, o2b_ok, opT_a, oTa_ok, oTb_ok, consA_a, cAa_ok, cAb_ok, nilA_a, callF_a, cFa_ok, callE_a, cEa_ok, newE_a, nwa_ok, datE_a, dta_ok, dispE_a, tupE_a, tpa_ok, asDs_a, datas, bind_ok, pur_ok, bool_b, leave_d, leave_nx, leave_er, ifE_a, ifa_t, ifa_f, notT_a, nta_ok, andT_a, ana_t, ana_f, orT_a, ora_t, ora_f, tstE_a, tsa_b, andE_a, aEa_t, aEa_f, orE_a, oEa_t, oEa_f, notE_a, nEa_ok, add_ii, sub_ii, gt_ii, lt_ii, ge_ii, le_ii, setT_a, consT_a, cTa_ok, nilT_a, tupT_a, seqT_t, seqT_l, forS_a, List.map_cons, List.map_nil, List.length_cons, List.length_nil, Nat.reduceAdd, Nat.reduceSub, Nat.zero_add, Nat.add_zero, List.replicate, List.cons_append, List.nil_append, List.append_nil, List.getElem?_cons_zero, List.getElem?_cons_succ, List.set_cons_zero, List.set_cons_succ, List.getElem?_nil, Option.map_some, Option.map_none, Option.bind_some, if_true, if_false, ite_true, ite_false, eq_self_iff_true, and_self, and_true, true_and, decide_true, decide_false, Bool.false_eq_true, Bool.not_true, Bool.not_false, sizeLine, Nat.reducePow, Nat.reduceLeDiff, Nat.zero_le, pow_7, pow_18, pow_40, hix]
      · simp only [defM, startE, seqS_a, setS_a, bindS_ok, bindS_er, then_nx, then_rt, then_er, ifS_a, ifK_t, ifK_f, retS_a, dropS_a, asgS_a, asK_a, goG_ok, subT_a, nopS_a, getV_0, getV_s, cst_a, op2_a, o2a_ok, o2b_ok, opT_a, oTa_ok, oTb_ok, consA_a, cAa_ok, cAb_ok, nilA_a, callF_a, cFa_ok, callE_a, cEa_ok, newE_a, nwa_ok, datE_a, dta_ok, dispE_a, tupE_a, tpa_ok, asDs_a, datas, bind_ok, pur_ok, bool_b, leave_d, leave_nx, leave_er, ifE_a, ifa_t, ifa_f, notT_a, nta_ok, andT_a, ana_t, ana_f, orT_a, ora_t, ora_f, tstE_a, tsa_b, andE_a, aEa_t, aEa_f, orE_a, oEa_t, oEa_f, notE_a, nEa_ok, add_ii, sub_ii, gt_ii, lt_ii, ge_ii, le_ii, setT_a, consT_a, cTa_ok, nilT_a, tupT_a, seqT_t, seqT_l, forS_a, List.map_cons, List.map_nil, List.length_cons, List.length_nil, Nat.reduceAdd, Nat.reduceSub, Nat.zero_add, Nat.add_zero, List.replicate, List.cons_append, List.nil_append, List.append_nil, List.getElem?_cons_zero, List.getElem?_cons_succ, List.set_cons_zero, List.set_cons_succ, List.getElem?_nil, Option.map_some, Option.map_none, Option.bind_some, if_true, if_false, ite_true, ite_false, eq_self_iff_true, and_self, and_true, true_and, decide_true, decide_false, Bool.false_eq_true, Bool.not_true, Bool.not_false, sizeLine, Nat.reducePow, Nat.reduceLeDiff, Nat.zero_le, pow_7, pow_18, pow_40]
        rfl)]
    rw [List.nil_append, List.filter_map, List.map_map]
    unfold canL
    rw [hl]
    have e1 : (B ∘ fun c => .tuple [nD c, nD (ss.idxOf c)]) = fun c => decide (0 < pF ps (ss.idxOf c)) := by
      funext c
      show decide (0 < pF ps ((ss.idxOf c : Nat) : Int).toNat) = _
      rw [Int.toNat_natCast]
    have e2 : (F ∘ fun c => .tuple [nD c, nD (ss.idxOf c)]) = nD := by funext c; rfl
    rw [e1, e2]
  unfold m_exchanges g_exchanges
  simp only [defM, startE, seqS_a, setS_a, bindS_ok, bindS_er, then_nx, then_rt, then_er, ifS_a, ifK_t, ifK_f, retS_a, dropS_a, asgS_a, asK_a, goG_ok, subT_a, nopS_a, getV_0, getV_s, cst_a, op2_a, o2a_ok, o2b_ok, opT_a, oTa_ok, oTb_ok, consA_a, cAa_ok, cAb_ok, nilA_a, callF_a, cFa_ok, callE_a, cEa_ok, newE_a, nwa_ok, datE_a, dta_ok, dispE_a, tupE_a, tpa_ok, asDs_a, datas, bind_ok, pur_ok, bool_b, leave_d, leave_nx, leave_er, ifE_a, ifa_t, ifa_f, notT_a, nta_ok, andT_a, ana_t, ana_f, orT_a, ora_t, ora_f, tstE_a, tsa_b, andE_a, aEa_t, aEa_f, orE_a, oEa_t, oEa_f, notE_a, nEa_ok, add_ii, sub_ii, gt_ii, lt_ii, ge_ii, le_ii, setT_a, consT_a, cTa_ok, nilT_a, tupT_a, seqT_t, seqT_l, forS_a, List.map_cons, List.map_nil, List.length_cons, List.length_nil, Nat.reduceAdd, Nat.reduceSub, Nat.zero_add, Nat.add_zero, List.replicate, List.cons_append, List.nil_append, List.append_nil, List.getElem?_cons_zero, List.getElem?_cons_succ, List.set_cons_zero, List.set_cons_succ, List.getElem?_nil, Option.map_some, Option.map_none, Option.bind_some, if_true, if_false, ite_true, ite_false, eq_self_iff_true, and_self, and_true, true_and, decide_true, decide_false, Bool.false_eq_true, Bool.not_true, Bool.not_false, sizeLine, Nat.reducePow, Nat.reduceLeDiff, Nat.zero_le, pow_7, pow_18, pow_40, h0, hlc]
  rw [take_all (by simp)]
theorem after_ok {n c j k : Nat} {x : Vl} {ss : List Nat} {ps : List Int} {p q : Int} {M : Mem} (h : Stt n ss ps) (hn : n ≤ 1000) (hx : StV x ss ps) (hj : ss[j]? = some c) (hk : ss[k]? = some ((c + 1) % n)) (hp : ps[j]? = some p) (hq : ps[k]? = some q) (hjk : j ≠ k) :
    m_after_toll [x, .d (.int (j : Nat)), .d (.int (k : Nat))] M = .ok (.d (stD ((ss.set j ((c + 1) % n)).set k c) ((ps.set j (p - 1)).set k (q + 1)))) M := by
  have hsz : sizeLine = 2 ^ 24 := rfl
  obtain ⟨a, b, i0, i1, h1, h2, h3⟩ := hx.ix
  have lj := lt_of_getL hj
  have lk := lt_of_getL hk
  have lpj := lt_of_getL hp
  have lpk := lt_of_getL hq
  have sa : ∀ N : Mem, seqOf N a = some (ss.map nD) := fun N => by rcases h1 with h1 | h1 <;> cases h1 <;> rfl
  have sb : ∀ N : Mem, seqOf N b = some (intsD ps) := fun N => by rcases h2 with h2 | h2 <;> cases h2 <;> rfl
  have hl0 : listE (op2 ixV (getV 0) (cst (.d (.int 0)))) [some x, some (.d (.int (j : Nat))), some (.d (.int (k : Nat))), none, none] M = .ok (ss.map nD) M := listE_a (x := a) (by simp only [defM, startE, seqS_a, setS_a, bindS_ok, bindS_er, then_nx, then_rt, then_er, ifS_a, ifK_t, ifK_f, retS_a, dropS_a, asgS_a, asK_a, goG_ok, subT_a, nopS_a, getV_0, getV_s, cst_a, op2_a, o2a_ok, o2b_ok, opT_a, oTa_ok, oTb_ok, consA_a, cAa_ok, cAb_ok, nilA_a, callF_a, cFa_ok, callE_a, cEa_ok, newE_a, nwa_ok, datE_a, dta_ok, dispE_a, tupE_a, tpa_ok, asDs_a, datas, bind_ok, pur_ok, bool_b, leave_d, leave_nx, leave_er, ifE_a, ifa_t, ifa_f, notT_a, nta_ok, andT_a, ana_t, ana_f, orT_a, ora_t, ora_f, tstE_a, tsa_b, andE_a, aEa_t, aEa_f, orE_a, oEa_t, oEa_f, notE_a, nEa_ok, add_ii, sub_ii, gt_ii, lt_ii, ge_ii, le_ii, setT_a, consT_a, cTa_ok, nilT_a, tupT_a, seqT_t, seqT_l, forS_a, List.map_cons, List.map_nil, List.length_cons, List.length_nil, Nat.reduceAdd, Nat.reduceSub, Nat.zero_add, Nat.add_zero, List.replicate, List.cons_append, List.nil_append, List.append_nil, List.getElem?_cons_zero, List.getElem?_cons_succ, List.set_cons_zero, List.set_cons_succ, List.getElem?_nil, Option.map_some, Option.map_none, Option.bind_some, if_true, if_false, ite_true, ite_false, eq_self_iff_true, and_self, and_true, true_and, decide_true, decide_false, Bool.false_eq_true, Bool.not_true, Bool.not_false, sizeLine, Nat.reducePow, Nat.reduceLeDiff, Nat.zero_le, pow_7, pow_18, pow_40, i0]) (sa _)
  have hl1 : listE (op2 ixV (getV 0) (cst (.d (.int 1)))) [some x, some (.d (.int (j : Nat))), some (.d (.int (k : Nat))), none, none] (M ++ [.lst (ss.map nD)]) = .ok (intsD ps) (M ++ [.lst (ss.map nD)]) := listE_a (x := b) (by simp only [defM, startE, seqS_a, setS_a, bindS_ok, bindS_er, then_nx, then_rt, then_er, ifS_a, ifK_t, ifK_f, retS_a, dropS_a, asgS_a, asK_a, goG_ok, subT_a, nopS_a, getV_0, getV_s, cst_a, op2_a, o2a_ok, o2b_ok, opT_a, oTa_ok, oTb_ok, consA_a, cAa_ok, cAb_ok, nilA_a, callF_a, cFa_ok, callE_a, cEa_ok, newE_a, nwa_ok, datE_a, dta_ok, dispE_a, tupE_a, tpa_ok, asDs_a, datas, bind_ok, pur_ok, bool_b, leave_d, leave_nx, leave_er, ifE_a, ifa_t, ifa_f, notT_a, nta_ok, andT_a, ana_t, ana_f, orT_a, ora_t, ora_f, tstE_a, tsa_b, andE_a, aEa_t, aEa_f, orE_a, oEa_t, oEa_f, notE_a, nEa_ok, add_ii, sub_ii, gt_ii, lt_ii, ge_ii, le_ii, setT_a, consT_a, cTa_ok, nilT_a, tupT_a, seqT_t, seqT_l, forS_a, List.map_cons, List.map_nil, List.length_cons, List.length_nil, Nat.reduceAdd, Nat.reduceSub, Nat.zero_add, Nat.add_zero, List.replicate, List.cons_append, List.nil_append, List.append_nil, List.getElem?_cons_zero, List.getElem?_cons_succ, List.set_cons_zero, List.set_cons_succ, List.getElem?_nil, Option.map_some, Option.map_none, Option.bind_some, if_true, if_false, ite_true, ite_false, eq_self_iff_true, and_self, and_true, true_and, decide_true, decide_false, Bool.false_eq_true, Bool.not_true, Bool.not_false, sizeLine, Nat.reducePow, Nat.reduceLeDiff, Nat.zero_le, pow_7, pow_18, pow_40, i1]) (sb _)
  have y2 : ixV (.h M.length) (.d (.int (k : Nat))) (M ++ [.lst (ss.map nD), .lst (intsD ps)]) = _ := jx (k := 0) rfl rfl (getN hk)
  have y3 : ixV (.h M.length) (.d (.int (j : Nat))) (M ++ [.lst (ss.map nD), .lst (intsD ps)]) = _ := jx (k := 0) rfl rfl (getN hj)
  have p1 : ∀ e : Env, putV (.h M.length) (.d (.int (j : Nat))) (.d (nD ((c + 1) % n))) e (M ++ [.lst (ss.map nD), .lst (intsD ps)]) = _ := fun e => jput (k := 0) rfl rfl (by simpa using lj)
  have p2 : ∀ e : Env, putV (.h M.length) (.d (.int (k : Nat))) (.d (nD c)) e (M ++ [.lst ((ss.map nD).set j (nD ((c + 1) % n))), .lst (intsD ps)]) = _ := fun e => jput (k := 0) rfl rfl (by simpa using lk)
  have f1 : freeze 3 [some x, some (.d (.int (j : Nat))), some (.d (.int (k : Nat))), some (.h M.length), some (.h (M.length + 1))] (M ++ [.lst (((ss.map nD).set j (nD ((c + 1) % n))).set k (nD c)), .lst (intsD ps)]) = _ := jfz (k := 0) rfl rfl rfl
  generalize hS : ((ss.map nD).set j (nD ((c + 1) % n))).set k (nD c) = S at *
  have a1 : augSubS (fun i j => i - j) (getV 4) (getV 1) (cst (.d (.int 1))) [some x, some (.d (.int (j : Nat))), some (.d (.int (k : Nat))), some (.d (.list S)), some (.h (M.length + 1))] (M ++ [.gone, .lst (intsD ps)]) = .go .nx [some x, some (.d (.int (j : Nat))), some (.d (.int (k : Nat))), some (.d (.list S)), some (.h (M.length + 1))] (M ++ [.gone, .lst (intsD (ps.set j (p - 1)))]) := by
    rw [augSub_a (p := M.length + 1) (k := j) (xs := intsD ps) (a := p) (b := 1) (by simp only [defM, startE, seqS_a, setS_a, bindS_ok, bindS_er, then_nx, then_rt, then_er, ifS_a, ifK_t, ifK_f, retS_a, dropS_a, asgS_a, asK_a, goG_ok, subT_a, nopS_a, getV_0, getV_s, cst_a, op2_a, o2a_ok, o2b_ok, opT_a, oTa_ok, oTb_ok, consA_a, cAa_ok, cAb_ok, nilA_a, callF_a, cFa_ok, callE_a, cEa_ok, newE_a, nwa_ok, datE_a, dta_ok, dispE_a, tupE_a, tpa_ok, asDs_a, datas, bind_ok, pur_ok, bool_b, leave_d, leave_nx, leave_er, ifE_a, ifa_t, ifa_f, notT_a, nta_ok, andT_a, ana_t, ana_f, orT_a, ora_t, ora_f, tstE_a, tsa_b, andE_a, aEa_t, aEa_f, orE_a, oEa_t, oEa_f, notE_a, nEa_ok, add_ii, sub_ii, gt_ii, lt_ii, ge_ii, le_ii, setT_a, consT_a, cTa_ok, nilT_a, tupT_a, seqT_t, seqT_l, forS_a, List.map_cons, List.map_nil, List.length_cons, List.length_nil, Nat.reduceAdd, Nat.reduceSub, Nat.zero_add, Nat.add_zero, List.replicate, List.cons_append, List.nil_append, List.append_nil, List.getElem?_cons_zero, List.getElem?_cons_succ, List.set_cons_zero, List.set_cons_succ, List.getElem?_nil, Option.map_some, Option.map_none, Option.bind_some, if_true, if_false, ite_true, ite_false, eq_self_iff_true, and_self, and_true, true_and, decide_true, decide_false, Bool.false_eq_true, Bool.not_true, Bool.not_false, sizeLine, Nat.reducePow, Nat.reduceLeDiff, Nat.zero_le, pow_7, pow_18, pow_40]) (by simp only [defM, startE, seqS_a, setS_a, bindS_ok, bindS_er, then_nx, then_rt, then_er, ifS_a, ifK_t, ifK_f, retS_a, dropS_a, asgS_a, asK_a, goG_ok, subT_a, nopS_a, getV_0, getV_s, cst_a, op2_a, o2a_ok, o2b_ok, opT_a, oTa_ok, oTb_ok, consA_a, cAa_ok, cAb_ok, nilA_a, callF_a, cFa_ok, callE_a, cEa_ok, newE_a, nwa_ok, datE_a, dta_ok, dispE_a, tupE_a, tpa_ok, asDs_a, datas, bind_ok, pur_ok, bool_b, leave_d, leave_nx, leave_er, ifE_a, ifa_t, ifa_f, notT_a, nta_ok, andT_a, ana_t, ana_f, orT_a, ora_t, ora_f, tstE_a, tsa_b, andE_a, aEa_t, aEa_f, orE_a, oEa_t, oEa_f, notE_a, nEa_ok, add_ii, sub_ii, gt_ii, lt_ii, ge_ii, le_ii, setT_a, consT_a, cTa_ok, nilT_a, tupT_a, seqT_t, seqT_l, forS_a, List.map_cons, List.map_nil, List.length_cons, List.length_nil, Nat.reduceAdd, Nat.reduceSub, Nat.zero_add, Nat.add_zero, List.replicate, List.cons_append, List.nil_append, List.append_nil, List.getElem?_cons_zero, List.getElem?_cons_succ, List.set_cons_zero, List.set_cons_succ, List.getElem?_nil, Option.map_some, Option.map_none, Option.bind_some, if_true, if_false, ite_true, ite_false, eq_self_iff_true, and_self, and_true, true_and, decide_true, decide_false, Bool.false_eq_true, Bool.not_true, Bool.not_false, sizeLine, Nat.reducePow, Nat.reduceLeDiff, Nat.zero_le, pow_7, pow_18, pow_40]) (j_get (k := 1) rfl rfl) (getI hp) (by simp only [defM, startE, seqS_a, setS_a, bindS_ok, bindS_er, then_nx, then_rt, then_er, ifS_a, ifK_t, ifK_f, retS_a, dropS_a, asgS_a, asK_a, goG_ok, subT_a, nopS_a, getV_0, getV_s, cst_a, op2_a, o2a_ok, o2b_ok, opT_a, oTa_ok, oTb_ok, consA_a, cAa_ok, cAb_ok, nilA_a, callF_a, cFa_ok, callE_a, cEa_ok, newE_a, nwa_ok, datE_a, dta_ok, dispE_a, tupE_a, tpa_ok, asDs_a, datas, bind_ok, pur_ok, bool_b, leave_d, leave_nx, leave_er, ifE_a, ifa_t, ifa_f, notT_a, nta_ok, andT_a, ana_t, ana_f, orT_a, ora_t, ora_f, tstE_a, tsa_b, andE_a, aEa_t, aEa_f, orE_a, oEa_t, oEa_f, notE_a, nEa_ok, add_ii, sub_ii, gt_ii, lt_ii, ge_ii, le_ii, setT_a, consT_a, cTa_ok, nilT_a, tupT_a, seqT_t, seqT_l, forS_a, List.map_cons, List.map_nil, List.length_cons, List.length_nil, Nat.reduceAdd, Nat.reduceSub, Nat.zero_add, Nat.add_zero, List.replicate, List.cons_append, List.nil_append, List.append_nil, List.getElem?_cons_zero, List.getElem?_cons_succ, List.set_cons_zero, List.set_cons_succ, List.getElem?_nil, Option.map_some, Option.map_none, Option.bind_some, if_true, if_false, ite_true, ite_false, eq_self_iff_true, and_self, and_true, true_and, decide_true, decide_false, Bool.false_eq_true, Bool.not_true, Bool.not_false, sizeLine, Nat.reducePow, Nat.reduceLeDiff, Nat.zero_le, pow_7, pow_18, pow_40]), j_set (L := M.length + 1) (k := 1) rfl, setI]
    rfl
  have hq2 : (ps.set j (p - 1))[k]? = some q := by rw [List.getElem?_set_ne hjk]; exact hq
  have a2 : augSubS (fun i j => i + j) (getV 4) (getV 2) (cst (.d (.int 1))) [some x, some (.d (.int (j : Nat))), some (.d (.int (k : Nat))), some (.d (.list S)), some (.h (M.length + 1))] (M ++ [.gone, .lst (intsD (ps.set j (p - 1)))]) = .go .nx [some x, some (.d (.int (j : Nat))), some (.d (.int (k : Nat))), some (.d (.list S)), some (.h (M.length + 1))] (M ++ [.gone, .lst (intsD ((ps.set j (p - 1)).set k (q + 1)))]) := by
    rw [augSub_a (p := M.length + 1) (k := k) (xs := intsD (ps.set j (p - 1))) (a := q) (b := 1) (by simp only [defM, startE, seqS_a, setS_a, bindS_ok, bindS_er, then_nx, then_rt, then_er, ifS_a, ifK_t, ifK_f, retS_a, dropS_a, asgS_a, asK_a, goG_ok, subT_a, nopS_a, getV_0, getV_s, cst_a, op2_a, o2a_ok, o2b_ok, opT_a, oTa_ok, oTb_ok, consA_a, cAa_ok, cAb_ok, nilA_a, callF_a, cFa_ok, callE_a, cEa_ok, newE_a, nwa_ok, datE_a, dta_ok, dispE_a, tupE_a, tpa_ok, asDs_a, datas, bind_ok, pur_ok, bool_b, leave_d, leave_nx, leave_er, ifE_a, ifa_t, ifa_f, notT_a, nta_ok, andT_a, ana_t, ana_f, orT_a, ora_t, ora_f, tstE_a, tsa_b, andE_a, aEa_t, aEa_f, orE_a, oEa_t, oEa_f, notE_a, nEa_ok, add_ii, sub_ii, gt_ii, lt_ii, ge_ii, le_ii, setT_a, consT_a, cTa_ok, nilT_a, tupT_a, seqT_t, seqT_l, forS_a, List.map_cons, List.map_nil, List.length_cons, List.length_nil, Nat.reduceAdd, Nat.reduceSub, Nat.zero_add, Nat.add_zero, List.replicate, List.cons_append, List.nil_append, List.append_nil, List.getElem?_cons_zero, List.getElem?_cons_succ, List.set_cons_zero, List.set_cons_succ, List.getElem?_nil, Option.map_some, Option.map_none, Option.bind_some, if_true, if_false, ite_true, ite_false, eq_self_iff_true, and_self, and_true, true_and, decide_true, decide_false, Bool.false_eq_true, Bool.not_true, Bool.not_false, sizeLine, Nat.reducePow, Nat.reduceLeDiff, Nat.zero_le, pow_7, pow_18, pow_40]) (by simp only [defM, startE, seqS_a, setS_a, bindS_ok, bindS_er, then_nx, then_rt, then_er, ifS_a, ifK_t, ifK_f, retS_a, dropS_a, asgS_a, asK_a, goG_ok, subT_a, nopS_a, getV_0, getV_s, cst_a, op2_a, o2a_ok, o2b_ok, opT_a, oTa_ok, oTb_ok, consA_a, cAa_ok, cAb_ok, nilA_a, callF_a, cFa_ok, callE_a, cEa_ok, newE_a, nwa_ok, datE_a, dta_ok, dispE_a, tupE_a, tpa_ok, asDs_a, datas, bind_ok, pur_ok, bool_b, leave_d, leave_nx, leave_er, ifE_a, ifa_t, ifa_f, notT_a, nta_ok, andT_a, ana_t, ana_f, orT_a, ora_t, ora_f, tstE_a, tsa_b, andE_a, aEa_t, aEa_f, orE_a, oEa_t, oEa_f, notE_a, nEa_ok, add_ii, sub_ii, gt_ii, lt_ii, ge_ii, le_ii, setT_a, consT_a, cTa_ok, nilT_a, tupT_a, seqT_t, seqT_l, forS_a, List.map_cons, List.map_nil, List.length_cons, List.length_nil, Nat.reduceAdd, Nat.reduceSub, Nat.zero_add, Nat.add_zero, List.replicate, List.cons_append, List.nil_append, List.append_nil, List.getElem?_cons_zero, List.getElem?_cons_succ, List.set_cons_zero, List.set_cons_succ, List.getElem?_nil, Option.map_some, Option.map_none, Option.bind_some, if_true, if_false, ite_true, ite_false, eq_self_iff_true, and_self, and_true, true_and, decide_true, decide_false, Bool.false_eq_true, Bool.not_true, Bool.not_false, sizeLine, Nat.reducePow, Nat.reduceLeDiff, Nat.zero_le, pow_7, pow_18, pow_40]) (j_get (k := 1) rfl rfl) (getI hq2) (by simp only [defM, startE, seqS_a, setS_a, bindS_ok, bindS_er, then_nx, then_rt, then_er, ifS_a, ifK_t, ifK_f, retS_a, dropS_a, asgS_a, asK_a, goG_ok, subT_a, nopS_a, getV_0, getV_s, cst_a, op2_a, o2a_ok, o2b_ok, opT_a, oTa_ok, oTb_ok, consA_a, cAa_ok, cAb_ok, nilA_a, callF_a, cFa_ok, callE_a, cEa_ok, newE_a, nwa_ok, datE_a, dta_ok, dispE_a, tupE_a, tpa_ok, asDs_a, datas, bind_ok, pur_ok, bool_b, leave_d, leave_nx, leave_er, ifE_a, ifa_t, ifa_f, notT_a, nta_ok, andT_a, ana_t, ana_f, orT_a, ora_t, ora_f, tstE_a, tsa_b, andE_a, aEa_t, aEa_f, orE_a, oEa_t, oEa_f, notE_a, nEa_ok, add_ii, sub_ii, gt_ii, lt_ii, ge_ii, le_ii, setT_a, consT_a, cTa_ok, nilT_a, tupT_a, seqT_t, seqT_l, forS_a, List.map_cons, List.map_nil, List.length_cons, List.length_nil, Nat.reduceAdd, Nat.reduceSub, Nat.zero_add, Nat.add_zero, List.replicate, List.cons_append, List.nil_append, List.append_nil, List.getElem?_cons_zero, List.getElem?_cons_succ, List.set_cons_zero, List.set_cons_succ, List.getElem?_nil, Option.map_some, Option.map_none, Option.bind_some, if_true, if_false, ite_true, ite_false, eq_self_iff_true, and_self, and_true, true_and, decide_true, decide_false, Bool.false_eq_true, Bool.not_true, Bool.not_false, sizeLine, Nat.reducePow, Nat.reduceLeDiff, Nat.zero_le, pow_7, pow_18, pow_40]), j_set (L := M.length + 1) (k := 1) rfl, setI]
    rfl
  have f2 : freeze 4 [some x, some (.d (.int (j : Nat))), some (.d (.int (k : Nat))), some (.d (.list S)), some (.h (M.length + 1))] (M ++ [.gone, .lst (intsD ((ps.set j (p - 1)).set k (q + 1)))]) = _ := jfz (k := 1) rfl rfl rfl
  unfold m_after_toll g_after_toll
  simp only [defM, startE, seqS_a, setS_a, bindS_ok, bindS_er, then_nx, then_rt, then_er, ifS_a, ifK_t, ifK_f, retS_a, dropS_a, asgS_a, asK_a, goG_ok, subT_a, nopS_a, getV_0, getV_s, cst_a, op2_a, o2a_ok, o2b_ok, opT_a, oTa_ok, oTb_ok, consA_a, cAa_ok, cAb_ok, nilA_a, callF_a, cFa_ok, callE_a, cEa_ok, newE_a, nwa_ok, datE_a, dta_ok, dispE_a, tupE_a, tpa_ok, asDs_a, datas, bind_ok, pur_ok, bool_b, leave_d, leave_nx, leave_er, ifE_a, ifa_t, ifa_f, notT_a, nta_ok, andT_a, ana_t, ana_f, orT_a, ora_t, ora_f, tstE_a, tsa_b, andE_a, aEa_t, aEa_f, orE_a, oEa_t, oEa_f, notE_a, nEa_ok, add_ii, sub_ii, gt_ii, lt_ii, ge_ii, le_ii, setT_a, consT_a, cTa_ok, nilT_a, tupT_a, seqT_t, seqT_l, forS_a, List.map_cons, List.map_nil, List.length_cons, List.length_nil, Nat.reduceAdd, Nat.reduceSub, Nat.zero_add, Nat.add_zero, List.replicate, List.cons_append, List.nil_append, List.append_nil, List.getElem?_cons_zero, List.getElem?_cons_succ, List.set_cons_zero, List.set_cons_succ, List.getElem?_nil, Option.map_some, Option.map_none, Option.bind_some, if_true, if_false, ite_true, ite_false, eq_self_iff_true, and_self, and_true, true_and, decide_true, decide_false, Bool.false_eq_true, Bool.not_true, Bool.not_false, sizeLine, Nat.reducePow, Nat.reduceLeDiff, Nat.zero_le, pow_7, pow_18, pow_40, parS_a, hl0, hl1, List.append_assoc, List.length_append, y2, y3, p1, p2, hS, f1, a1, a2, f2, tup_l]
  rw [List.take_append_of_le_length (by simp), take_all (by simp)]
  unfold stD
  rw [← set_nD, ← set_nD, ← hS]
theorem exchanged_ok {n c : Nat} {x : Vl} {ss : List Nat} {ps : List Int} {M : Mem} (h : Stt n ss ps) (h2 : 2 ≤ n) (hn : n ≤ 1000) (hx : StV x ss ps) {ss' : List Nat} {ps' : List Int} (E : Ex n ss ps c ss' ps') :
    m_exchanged [x, .d (.int (c : Nat))] M = .ok (.d (stD ss' ps')) M := by
  obtain ⟨j, k, p, q, hj, hk, hp, hp0, hq, rfl, rfl⟩ := E.ex
  obtain ⟨a, b, s0, s1, s2, s3⟩ := hx.two
  have hc := h.lt hj
  have hl := h.slen
  obtain ⟨hne, hlt⟩ := next_ne h2 hc
  have hjk : j ≠ k := fun e => hne (by rw [e, hk] at hj; exact Option.some.inj hj)
  have hlen : lenV [.d (.tuple ((backL ss).map nD))] M = .ok (.d (.int (n : Nat))) M := by rw [len_t, List.length_map, backL_len, hl]
  have y1 : ixV (.d (.tuple ((backL ss).map nD))) (.d (.int (c : Nat))) M = .ok (.d (.int (j : Nat))) M := ixV_t (atI_some (getN (back_at h hj)))
  have y2 : ixV (.d (.tuple ((backL ss).map nD))) (.d (.int (((c : Int) + 1) % (n : Nat)))) M = .ok (.d (.int (k : Nat))) M := by
    have e : ((c : Int) + 1) % (n : Nat) = (((c + 1) % n : Nat) : Int) := by simp
    rw [e]
    exact ixV_t (atI_some (getN (back_at h hk)))
  have hix : ixV (.d b) (.d (.int (j : Nat))) M = .ok (.d (.int p)) M := by rcases s2 with h2 | h2 <;> cases h2 <;> first | exact ixV_l (atI_some (getI hp)) | exact ixV_t (atI_some (getI hp))
  have c1 : ¬ ((c : Int) < 0) := by omega
  have c2 : ¬ ((n : Int) ≤ (c : Int)) := by omega
  have c3 : (p == 0) = false := by simp; omega
  unfold m_exchanged g_exchanged
  simp only [defM, startE, seqS_a, setS_a, bindS_ok, bindS_er, then_nx, then_rt, then_er, ifS_a, ifK_t, ifK_f, retS_a, dropS_a, asgS_a, asK_a, goG_ok, subT_a, nopS_a, getV_0, getV_s, cst_a, op2_a, o2a_ok, o2b_ok, opT_a, oTa_ok, oTb_ok, consA_a, cAa_ok, cAb_ok, nilA_a, callF_a, cFa_ok, callE_a, cEa_ok, newE_a, nwa_ok, datE_a, dta_ok, dispE_a, tupE_a, tpa_ok, asDs_a, datas, bind_ok, pur_ok, bool_b, leave_d, leave_nx, leave_er, ifE_a, ifa_t, ifa_f, notT_a, nta_ok, andT_a, ana_t, ana_f, orT_a, ora_t, ora_f, tstE_a, tsa_b, andE_a, aEa_t, aEa_f, orE_a, oEa_t, oEa_f, notE_a, nEa_ok, add_ii, sub_ii, gt_ii, lt_ii, ge_ii, le_ii, setT_a, consT_a, cTa_ok, nilT_a, tupT_a, seqT_t, seqT_l, forS_a, List.map_cons, List.map_nil, List.length_cons, List.length_nil, Nat.reduceAdd, Nat.reduceSub, Nat.zero_add, Nat.add_zero, List.replicate, List.cons_append, List.nil_append, List.append_nil, List.getElem?_cons_zero, List.getElem?_cons_succ, List.set_cons_zero, List.set_cons_succ, List.getElem?_nil, Option.map_some, Option.map_none, Option.bind_some, if_true, if_false, ite_true, ite_false, eq_self_iff_true, and_self, and_true, true_and, decide_true, decide_false, Bool.false_eq_true, Bool.not_true, Bool.not_false, sizeLine, Nat.reducePow, Nat.reduceLeDiff, Nat.zero_le, pow_7, pow_18, pow_40, sitting_ok (M := M) h hn hx, hlen, c1, c2, y1, s0, hix, eq_ii, c3, mod_ii (show (0 : Int) < (n : Nat) by omega), y2, after_ok (M := M) h hn hx hj hk hp hq hjk]
  rw [take_all (by simp)]
/-- an exchange is possible where the one who sits there has a coin -/
theorem can_ex {n c : Nat} {ss : List Nat} {ps : List Int} (h : Stt n ss ps) (h2 : 2 ≤ n) (hc : c ∈ canL ss ps) : ∃ ss' ps', Ex n ss ps c ss' ps' := by
  unfold canL at hc
  obtain ⟨h1, h3⟩ := List.mem_filter.mp hc
  have hl := h.slen
  have hcn := List.mem_range.mp h1
  rw [hl] at hcn
  obtain ⟨j, hj⟩ := h.onto hcn
  have hb := back_at h hj
  have hid : ss.idxOf c = j := by
    unfold backL at hb
    rw [List.getElem?_map, hl, List.getElem?_range hcn] at hb
    simpa using hb
  obtain ⟨p, hp, _⟩ := h.purse hj
  obtain ⟨hne, hlt⟩ := next_ne h2 hcn
  obtain ⟨k, hk⟩ := h.onto hlt
  obtain ⟨q, hq, _⟩ := h.purse hk
  rw [hid, pF_at hp] at h3
  exact ⟨_, _, j, k, p, q, hj, hk, hp, by simpa using h3, hq, rfl, rfl⟩
end C
/-- an exchange, on the line -/
theorem Ex.q {n c : Nat} {ss ss' : List Nat} {ps ps' : List Int} (h : Stt n ss ps) (h2 : 2 ≤ n) (x : Ex n ss ps c ss' ps') : ∃ j k t, ss[j]? = some c ∧ ss[k]? = some ((c + 1) % n) ∧ ExQ n (qF ss ps) (qF ss' ps') j k t := by
  obtain ⟨h', L⟩ := x.ok h h2
  obtain ⟨j, k, p, q, hj, hk, hp, hp0, hq, rfl, rfl⟩ := x.ex
  have hc := h.lt hj
  have hl := h.slen
  obtain ⟨hne, hlt⟩ := next_ne h2 hc
  have hjk : j ≠ k := fun e => hne (by rw [e, hk] at hj; exact Option.some.inj hj)
  have P := h.pl (by omega)
  have jn : j < n := by have := lt_of_getL hj; omega
  have kn : k < n := by have := lt_of_getL hk; omega
  have lpj := lt_of_getL hp
  have lpk := lt_of_getL hq
  have mj := P.mod j jn
  have mk := P.mod k kn
  rw [sF_at hj] at mj
  rw [sF_at hk] at mk
  have e1 := Int.emod_add_mul_ediv (qF ss ps j) n
  have e2 := Int.emod_add_mul_ediv (qF ss ps k) n
  have hd : ∃ u : Int, (((c + 1) % n : Nat) : Int) + n * u = (c : Int) + 1 := by
    refine ⟨((c + 1) / n : Nat), ?_⟩
    have := Nat.mod_add_div (c + 1) n
    exact_mod_cast this
  obtain ⟨u, hu⟩ := hd
  refine ⟨j, k, qF ss ps j / n - qF ss ps k / n + u, hj, hk, jn, kn, hjk, ?_, ?_, ?_, ?_⟩
  · rw [Int.mul_add, Int.mul_sub]
    omega
  · show pF (resI _ _) j - pF _ j = pF (resI ss ps) j - pF ps j + 1
    rw [← L.res, pF_at hp, pF_at (show ((ps.set j (p - 1)).set k (q + 1))[j]? = some (p - 1) by rw [List.getElem?_set_ne (Ne.symm hjk), List.getElem?_set_self lpj])]
    omega
  · show pF (resI _ _) k - pF _ k = pF (resI ss ps) k - pF ps k - 1
    rw [← L.res, pF_at hq, pF_at (show ((ps.set j (p - 1)).set k (q + 1))[k]? = some (q + 1) by rw [List.getElem?_set_self (by simpa using lpk)])]
    omega
  · intro y hy hyj hyk
    show pF (resI _ _) y - pF _ y = pF (resI ss ps) y - pF ps y
    rw [← L.res]
    unfold pF
    rw [List.getD_eq_getElem?_getD (l := (ps.set j (p - 1)).set k (q + 1)), List.getElem?_set_ne (Ne.symm hyk), List.getElem?_set_ne (Ne.symm hyj), ← List.getD_eq_getElem?_getD]
end DL

namespace DL
open PySem PySem.Spec L2
/-! ### equality of states, of lists of whole numbers -/
theorem eqvAll_ints : ∀ xs ys : List Int, PyData.eqvAll (intsD xs) (intsD ys) = decide (xs = ys)
  | [], [] => by show PyData.eqvAll [] [] = _; rw [PyData.eqvAll]; rfl
  | [], y :: ys => by show PyData.eqvAll [] (.int y :: intsD ys) = _; simp [PyData.eqvAll]
  | x :: xs, [] => by show PyData.eqvAll (.int x :: intsD xs) [] = _; simp [PyData.eqvAll]
  | x :: xs, y :: ys => by
    show PyData.eqvAll (.int x :: intsD xs) (.int y :: intsD ys) = _
    rw [PyData.eqvAll, eqvAll_ints xs ys]
    show ((x == y) && decide (xs = ys)) = _
    rw [Bool.eq_iff_iff]
    simp
theorem castI_inj {ss tt : List Nat} : castI ss = castI tt ↔ ss = tt := by
  constructor
  · intro h
    have := congrArg (List.map Int.toNat) h
    unfold castI at this
    rw [List.map_map, List.map_map] at this
    have e : (Int.toNat ∘ fun s : Nat => (s : Int)) = id := by funext s; simp
    rw [e, List.map_id, List.map_id] at this
    exact this
  · rintro rfl; rfl
theorem eqv_st {ss tt : List Nat} {ps qs : List Int} : PyData.eqv (stD ss ps) (stD tt qs) = decide (ss = tt ∧ ps = qs) := by
  unfold stD
  rw [PyData.eqv, PyData.eqvAll, PyData.eqvAll, PyData.eqvAll, PyData.eqv, PyData.eqv, nats_ints, nats_ints, eqvAll_ints, eqvAll_ints]
  rw [Bool.eq_iff_iff]
  simp [castI_inj]
theorem eq_st {n : Nat} {ss tt : List Nat} {ps qs : List Int} {M : Mem} (h : Stt n ss ps) (k : Stt n tt qs) (hn : n ≤ 1000) (hS : ps.sum ≤ 10 ^ 60) (kS : qs.sum ≤ 10 ^ 60) : eqV (.d (stD ss ps)) (.d (stD tt qs)) M = .ok (.d (.bool (decide (ss = tt ∧ ps = qs)))) M := by
  obtain ⟨h1, _, _, h2⟩ := gd_all (by decide) (gd_st h hn hS).1
  obtain ⟨k1, _, _, k2⟩ := gd_all (by decide) (gd_st k hn kS).1
  show eqD (stD ss ps) (stD tt qs) M = _
  refine (if_pos (by unfold eqOk; rw [h1, k1]; simp; omega)).trans ?_
  rw [eqv_st]
theorem ints_lay (xs : List Int) : (PyData.list (intsD xs)).canLay0 = true ∧ (PyData.list (intsD xs)).depth ≤ 1 := by
  refine ⟨?_, ?_⟩
  · rw [PyData.canLay0]
    exact (canLayAll_iff _).mpr fun x hx => by obtain ⟨i, _, rfl⟩ := List.mem_map.mp hx; rfl
  · rw [PyData.depth, depth_leaves _ fun x hx => by obtain ⟨i, _, rfl⟩ := List.mem_map.mp hx; rfl]
    exact Nat.le_refl _
theorem ne_intsL {xs ys : List Int} {M : Mem} : neV (.d (.list (intsD xs))) (.d (.list (intsD ys))) M = .ok (.d (.bool (!decide (xs = ys)))) M := by
  show neD (.list (intsD xs)) (.list (intsD ys)) M = _
  refine (if_pos (by unfold eqOk; rw [(ints_lay xs).1, (ints_lay ys).1]; simp; have := (ints_lay xs).2; omega)).trans ?_
  rw [PyData.eqv, eqvAll_ints]
theorem pF_range {n : Nat} {ps : List Int} (h : ps.length = n) : (List.range n).map (pF ps) = ps := by
  apply ext_of
  intro k
  by_cases hk : k < n
  · obtain ⟨p, hp⟩ := get_some (show k < ps.length by omega)
    rw [List.getElem?_map, List.getElem?_range hk, hp]
    show some (pF ps k) = _
    rw [pF_at hp]
  · rw [List.getElem?_eq_none (by simp; omega), List.getElem?_eq_none (by omega)]
theorem sum_pF {n : Nat} {ps : List Int} (h : ps.length = n) : ((List.range n).map (pF ps)).sum = ps.sum := by rw [pF_range h]
theorem sum_map_sub {α : Type} (f g : α → Int) : ∀ l : List α, (l.map fun z => f z - g z).sum = (l.map f).sum - (l.map g).sum
  | [] => rfl
  | x :: l => by
    rw [List.map_cons, List.map_cons, List.map_cons, List.sum_cons, List.sum_cons, List.sum_cons, sum_map_sub f g l]
    omega
theorem ext_pF {n : Nat} {ps qs : List Int} (h : ps.length = n) (k : qs.length = n) (e : ∀ x, x < n → pF ps x = pF qs x) : ps = qs := by
  rw [← pF_range h, ← pF_range k]
  exact List.map_congr_left fun x hx => e x (List.mem_range.mp hx)
/-- of one lot: the same place on the line, the same state -/
theorem lot_eq {n : Nat} {ss tt : List Nat} {ps qs : List Int} (h : Stt n ss ps) (k : Stt n tt qs) (h0 : 0 < n) (L : Lot ss ps tt qs) (e : ∀ x, x < n → qF tt qs x = qF ss ps x) : ss = tt ∧ ps = qs := by
  have hp : ps = qs := ext_pF h.len k.len fun x hx => by
    have := e x hx
    unfold qF at this
    rw [L.res] at this
    omega
  refine ⟨castI_inj.mp ?_, hp⟩
  have P := h.pl h0
  have Q := k.pl h0
  have hs : ∀ x, x < n → sF ss x = sF tt x := fun x hx => by rw [← P.mod x hx, ← Q.mod x hx, e x hx]
  apply ext_of
  intro x
  have hl := h.slen
  have kl := k.slen
  by_cases hx : x < n
  · obtain ⟨c, hc⟩ := get_some (show x < ss.length by omega)
    obtain ⟨d, hd⟩ := get_some (show x < tt.length by omega)
    have := hs x hx
    rw [sF_at hc, sF_at hd] at this
    unfold castI
    rw [List.getElem?_map, List.getElem?_map, hc, hd]
    simpa using this
  · rw [List.getElem?_eq_none (by simp; omega), List.getElem?_eq_none (by simp; omega)]
theorem dist_zero_iff {n : Nat} {ss tt : List Nat} {ps qs : List Int} (h : Stt n ss ps) (k : Stt n tt qs) (h0 : 0 < n) (L : Lot ss ps tt qs) : distI n ss ps qs = 0 ↔ (ss = tt ∧ ps = qs) := by
  rw [distI_W h h0 L]
  constructor
  · intro hd
    refine lot_eq h k h0 L (dist_zero (h.pl h0) (k.pl h0) ?_ hd)
    have : (fun x => qF tt qs x - qF ss ps x) = fun x => pF ps x - pF qs x := by
      funext x
      unfold qF
      rw [L.res]
      omega
    rw [this, sum_map_sub, sum_pF h.len, sum_pF k.len, L.sum]
    omega
  · rintro ⟨rfl, rfl⟩
    exact distW_self _ _
theorem distI_symm {n : Nat} {ss tt : List Nat} {ps qs : List Int} (h : Stt n ss ps) (k : Stt n tt qs) (h0 : 0 < n) (L : Lot ss ps tt qs) : distI n tt qs ps = distI n ss ps qs := by
  rw [distI_W h h0 L, distI_W k h0 L.symm, distW_symm]
theorem distI_nn {n : Nat} {ss tt : List Nat} {ps qs : List Int} (h : Stt n ss ps) (h0 : 0 < n) (L : Lot ss ps tt qs) : 0 ≤ distI n ss ps qs := by
  rw [distI_W h h0 L]
  exact distW_nn _ _ _
theorem Ex.dist {n c : Nat} {ss ss' tt : List Nat} {ps ps' qs : List Int} (h : Stt n ss ps) (h2 : 2 ≤ n) (x : Ex n ss ps c ss' ps') (k : Stt n tt qs) (L : Lot ss ps tt qs) : distI n ss' ps' qs = distI n ss ps qs + 1 ∨ distI n ss' ps' qs = distI n ss ps qs - 1 := by
  obtain ⟨h', L'⟩ := x.ok h h2
  obtain ⟨j, kk, t, _, _, E⟩ := x.q h h2
  rw [distI_W h (by omega) L, distI_W h' (by omega) (L'.symm.trans L)]
  exact (E.dist (h.pl (by omega)) (h'.pl (by omega)) h2 (k.pl (by omega))).1
theorem Ex.one {n c : Nat} {ss ss' : List Nat} {ps ps' : List Int} (h : Stt n ss ps) (h2 : 2 ≤ n) (x : Ex n ss ps c ss' ps') : distI n ss ps ps' = 1 := by
  obtain ⟨h', L'⟩ := x.ok h h2
  have h0 : 0 < n := by omega
  have e := x.dist h h2 h .rfl'
  have z := (dist_zero_iff h h h0 .rfl').mpr ⟨rfl, rfl⟩
  have nn := distI_nn h' h0 L'.symm
  have s := distI_symm h h' h0 L'
  omega
theorem shift_len {ps qs : List Int} : (C.shiftL ps qs).length = min ps.length qs.length := by unfold C.shiftL; simp
theorem shift_at {ps qs : List Int} {x : Nat} {p q : Int} (h : ps[x]? = some p) (k : qs[x]? = some q) : (C.shiftL ps qs)[x]? = some (p - q) := by
  unfold C.shiftL
  rw [List.getElem?_zipWith, h, k]
/-- steps of one exchange -/
theorem Ex.shift {n c : Nat} {ss ss' : List Nat} {ps ps' : List Int} (h : Stt n ss ps) (h2 : 2 ≤ n) (x : Ex n ss ps c ss' ps') : ∃ j k, ss[j]? = some c ∧ ss[k]? = some ((c + 1) % n) ∧ j < n ∧ k < n ∧ C.shiftL ps ps' = ((List.replicate n (0 : Int)).set j 1).set k (-1) := by
  obtain ⟨j, k, p, q, hj, hk, hp, hp0, hq, rfl, rfl⟩ := x.ex
  have hc := h.lt hj
  have hl := h.slen
  obtain ⟨hne, hlt⟩ := next_ne h2 hc
  have hjk : j ≠ k := fun e => hne (by rw [e, hk] at hj; exact Option.some.inj hj)
  have jn : j < n := by have := lt_of_getL hj; omega
  have kn : k < n := by have := lt_of_getL hk; omega
  refine ⟨j, k, hj, hk, jn, kn, ?_⟩
  have hpl := h.len
  apply ext_of
  intro y
  by_cases hy : y < n
  · obtain ⟨a, ha⟩ := get_some (show y < ps.length by omega)
    by_cases hyk : y = k
    · subst hyk
      rw [hq] at ha; cases ha
      rw [shift_at hq (show ((ps.set j (p - 1)).set y (q + 1))[y]? = some (q + 1) by rw [List.getElem?_set_self (by simp; omega)]), List.getElem?_set_self (by simp; omega)]
      congr 1
      omega
    · by_cases hyj : y = j
      · subst hyj
        rw [hp] at ha; cases ha
        rw [shift_at hp (show ((ps.set y (p - 1)).set k (q + 1))[y]? = some (p - 1) by rw [List.getElem?_set_ne (Ne.symm hyk), List.getElem?_set_self (by omega)]), List.getElem?_set_ne (Ne.symm hyk), List.getElem?_set_self (by simp; omega)]
        congr 1
        omega
      · rw [shift_at ha (show ((ps.set j (p - 1)).set k (q + 1))[y]? = some a by rw [List.getElem?_set_ne (Ne.symm hyk), List.getElem?_set_ne (Ne.symm hyj), ha]), List.getElem?_set_ne (Ne.symm hyk), List.getElem?_set_ne (Ne.symm hyj), List.getElem?_replicate, if_pos hy]
        congr 1
        omega
  · rw [List.getElem?_eq_none (by rw [shift_len]; simp; omega), List.getElem?_eq_none (by simp; omega)]
theorem shift_add {n : Nat} {a b c : List Int} (ha : a.length = n) (hb : b.length = n) (hc : c.length = n) : List.zipWith (fun x y => x + y) (C.shiftL a b) (C.shiftL b c) = C.shiftL a c := by
  apply ext_of
  intro y
  by_cases hy : y < n
  · obtain ⟨p, hp⟩ := get_some (show y < a.length by omega)
    obtain ⟨q, hq⟩ := get_some (show y < b.length by omega)
    obtain ⟨r, hr⟩ := get_some (show y < c.length by omega)
    rw [List.getElem?_zipWith, shift_at hp hq, shift_at hq hr, shift_at hp hr]
    show some _ = some _
    congr 1
    omega
  · rw [List.getElem?_eq_none (by simp [shift_len]; omega), List.getElem?_eq_none (by rw [shift_len]; omega)]
theorem shift_sum {a b : List Int} (h : a.length = b.length) : (C.shiftL a b).sum = a.sum - b.sum := zw_sum_sub a b h
end DL

namespace DL
open PySem PySem.Spec L2
/-! ### how many states a lot has -/
namespace C
def g_rounds_of : Sv := (seqS (setS 2 (callE lenV (consA (getV 0) nilA))) (seqS (setS 3 (op2 addV (op2 subV (getV 1) (callE sumTV (consA (getV 0) nilA))) (op2 fdivV (op2 mulV (getV 2) (op2 subV (getV 2) (cst (.d (.int 1))))) (cst (.d (.int 2)))))) (seqS (ifS (orT (opT ltV (getV 3) (cst (.d (.int 0)))) (opT neV (op2 modV (getV 3) (getV 2)) (cst (.d (.int 0))))) (retS (cst (.d .none))) nopS) (retS (op2 fdivV (getV 3) (getV 2))))))
def m_rounds_of : Fn := defM 4 0 g_rounds_of
def g_up_to_rounds : Sv := (seqS (setS 2 (cst (.d (.int 1)))) (seqS (forS (enumI (datE (sortE (getV 0)))) (tupT 2 (consT (setT 3) (consT (setT 4) nilT))) (setS 2 (op2 mulV (getV 2) (op2 subV (op2 addV (op2 addV (getV 1) (cst (.d (.int 1)))) (getV 4)) (getV 3))))) (retS (getV 2))))
def m_up_to_rounds : Fn := defM 5 0 g_up_to_rounds
def g_many_with : Sv := (seqS (setS 2 (callF 2 C.m_rounds_of (consA (getV 0) (consA (getV 1) nilA)))) (seqS (ifS (opT isV (getV 2) (cst (.d .none))) (retS (cst (.d (.int 0)))) nopS) (retS (op2 subV (callF 2 C.m_up_to_rounds (consA (getV 0) (consA (getV 2) nilA))) (callF 2 C.m_up_to_rounds (consA (getV 0) (consA (op2 subV (getV 2) (cst (.d (.int 1)))) nilA)))))))
def m_many_with : Fn := defM 3 0 g_many_with
def g_lot_many : Sv := (seqS (asgS (callF 1 C.m_kept (consA (getV 0) nilA)) (seqT 2 (consT (setT 1) (consT (setT 2) nilT)))) (retS (callF 2 C.m_many_with (consA (getV 1) (consA (getV 2) nilA)))))
def m_lot_many : Fn := defM 3 0 g_lot_many
end C
/-- the product, from the index i on -/
def prodA (z : Int) : Int → List Int → Int
  | _, [] => 1
  | i, k :: ks => (z + 1 + k - i) * prodA z (i + 1) ks
def upI (rs : List Int) (z : Int) : Int := prodA z 0 (sortI rs)
theorem prodA_app (z : Int) : ∀ (as bs : List Int) (i : Int), prodA z i (as ++ bs) = prodA z i as * prodA z (i + as.length) bs
  | [], bs, i => by simp [prodA]
  | a :: as, bs, i => by
    rw [List.cons_append, prodA, prodA, prodA_app z as bs (i + 1), Int.mul_assoc, List.length_cons]
    congr 3
    push_cast
    omega
theorem prodA_shift (z z' : Int) (d : Int) : ∀ (as : List Int) (i i' : Int), z + 1 - i = z' + 1 + d - i' → prodA z i as = prodA z' i' (as.map (· + d))
  | [], _, _, _ => rfl
  | a :: as, i, i', h => by
    rw [List.map_cons, prodA, prodA, prodA_shift z z' d as (i + 1) (i' + 1) (by omega)]
    congr 1
    omega
/-- a bound of the product -/
theorem prodA_le {B : Nat} (z : Int) : ∀ (as : List Int) (i : Int), (∀ (j : Nat) (a : Int), as[j]? = some a → (z + 1 + a - (i + j)).natAbs ≤ B) → (prodA z i as).natAbs ≤ B ^ as.length
  | [], _, _ => by simp [prodA]
  | a :: as, i, h => by
    rw [prodA, Int.natAbs_mul, List.length_cons, Nat.pow_succ, Nat.mul_comm (B ^ as.length)]
    refine Nat.mul_le_mul (by simpa using h 0 a rfl) (prodA_le z as (i + 1) fun j x hx => ?_)
    have := h (j + 1) x (by simpa using hx)
    push_cast at this
    rw [show i + 1 + (j : Int) = i + (j + 1) by omega]
    exact this
theorem sortI_len (rs : List Int) : (sortI rs).length = rs.length := (sortI_perm rs).length_eq
theorem sortI_congr {rs rs' : List Int} (h : rs.Perm rs') : sortI rs = sortI rs' := asc_unique ((sortI_perm rs).trans (h.trans (sortI_perm rs').symm)) (sortI_asc rs) (sortI_asc rs')
theorem sortE_a {f : Ev} {e : Env} {M M1 : Mem} {x : Vl} {ns : List Int} (h : f e M = .ok x M1) (hx : seqOf M1 x = some (intsD ns)) : sortE f e M = .ok (intsD (sortI ns)) M1 := by
  unfold sortE
  rw [h, bind_ok]
  simp only [hx, Option.bind_some, intsOf_map]
theorem mul_big {i j : Int} {M : Mem} (h1 : i.natAbs < 2 ^ 400000) (h2 : j.natAbs < 2 ^ 400000) : mulV (.d (.int i)) (.d (.int j)) M = .ok (.d (.int (i * j))) M := by
  have hl : ∀ z : Int, z.natAbs < 2 ^ 400000 → z.natAbs.log2 < 400000 := fun z hz => by
    by_cases h0 : z.natAbs = 0
    · rw [h0]; decide
    · exact (Nat.log2_lt h0).mpr hz
  have a := hl i h1
  have b := hl j h2
  exact if_pos (.inr (.inr (by omega)))
namespace C
theorem up_ok {x : Vl} {rs : List Int} {z : Int} {M : Mem} (hx : SeqV x (intsD rs)) (hl : rs.length ≤ 1000) (hr : ∀ r ∈ rs, 0 ≤ r ∧ r < 1000) (hz : z.natAbs ≤ 2 ^ 250) : m_up_to_rounds [x, .d (.int z)] M = .ok (.d (.int (upI rs z))) M := by
  have hsz : sizeLine = 2 ^ 24 := rfl
  have hs : seqOf M x = some (intsD rs) := by rcases hx with rfl | rfl <;> rfl
  have hso : ∀ v2 v3 v4 : Option Vl, sortE (getV 0) [some x, some (.d (.int z)), v2, v3, v4] M = .ok (intsD (sortI rs)) M := fun v2 v3 v4 => sortE_a (x := x) (by simp only [defM, startE, seqS_a, setS_a, bindS_ok, bindS_er, then_nx, then_rt, then_er, ifS_a, ifK_t, ifK_f, retS_a, dropS_a, asgS_a, asK_a, goG_ok, subT_a, nopS_a, getV_0, getV_s, cst_a, op2_a, o2a_ok, o2b_ok, opT_a, oTa_ok, oTb_ok, consA_a, cAa_ok, cAb_ok, nilA_a, callF_a, cFa_ok, callE_a, cEa_ok, newE_a, nwa_ok, datE_a, dta_ok, dispE_a, tupE_a, tpa_ok, asDs_a, datas, bind_ok, pur_ok, bool_b, leave_d, leave_nx, leave_er, ifE_a, ifa_t, ifa_f, notT_a, nta_ok, andT_a, ana_t, ana_f, orT_a, ora_t, ora_f, tstE_a, tsa_b, andE_a, aEa_t, aEa_f, orE_a, oEa_t, oEa_f, notE_a, nEa_ok, add_ii, sub_ii, gt_ii, lt_ii, ge_ii, le_ii, setT_a, consT_a, cTa_ok, nilT_a, tupT_a, seqT_t, seqT_l, forS_a, List.map_cons, List.map_nil, List.length_cons, List.length_nil, Nat.reduceAdd, Nat.reduceSub, Nat.zero_add, Nat.add_zero, List.replicate, List.cons_append, List.nil_append, List.append_nil, List.getElem?_cons_zero, List.getElem?_cons_succ, List.set_cons_zero, List.set_cons_succ, List.getElem?_nil, Option.map_some, Option.map_none, Option.bind_some, if_true, if_false, ite_true, ite_false, eq_self_iff_true, and_self, and_true, true_and, decide_true, decide_false, Bool.false_eq_true, Bool.not_true, Bool.not_false, sizeLine, Nat.reducePow, Nat.reduceLeDiff, Nat.zero_le, pow_7, pow_18, pow_40]) hs
  have hen : enumI (datE (sortE (getV 0))) [some x, some (.d (.int z)), some (.d (.int 1)), none, none] M = .ok (numD (intsD (sortI rs))) M := C.enumI_a (x := .d (.list (intsD (sortI rs)))) (M1 := M) (by simp only [defM, startE, seqS_a, setS_a, bindS_ok, bindS_er, then_nx, then_rt, then_er, ifS_a, ifK_t, ifK_f, retS_a, dropS_a, asgS_a, asK_a, goG_ok, subT_a, nopS_a, getV_0, getV_s, cst_a, op2_a, o2a_ok, o2b_ok, opT_a, oTa_ok, oTb_ok, consA_a, cAa_ok, cAb_ok, nilA_a, callF_a, cFa_ok, callE_a, cEa_ok, newE_a, nwa_ok, datE_a, dta_ok, dispE_a, tupE_a, tpa_ok, asDs_a, datas, bind_ok, pur_ok, bool_b, leave_d, leave_nx, leave_er, ifE_a, ifa_t, ifa_f, notT_a, nta_ok, andT_a, ana_t, ana_f, orT_a, ora_t, ora_f, tstE_a, tsa_b, andE_a, aEa_t, aEa_f, orE_a, oEa_t, oEa_f, notE_a, nEa_ok, add_ii, sub_ii, gt_ii, lt_ii, ge_ii, le_ii, setT_a, consT_a, cTa_ok, nilT_a, tupT_a, seqT_t, seqT_l, forS_a, List.map_cons, List.map_nil, List.length_cons, List.length_nil, Nat.reduceAdd, Nat.reduceSub, Nat.zero_add, Nat.add_zero, List.replicate, List.cons_append, List.nil_append, List.append_nil, List.getElem?_cons_zero, List.getElem?_cons_succ, List.set_cons_zero, List.set_cons_succ, List.getElem?_nil, Option.map_some, Option.map_none, Option.bind_some, if_true, if_false, ite_true, ite_false, eq_self_iff_true, and_self, and_true, true_and, decide_true, decide_false, Bool.false_eq_true, Bool.not_true, Bool.not_false, sizeLine, Nat.reducePow, Nat.reduceLeDiff, Nat.zero_le, pow_7, pow_18, pow_40, hso]) rfl (by simp [sortI_len]; omega)
  have hmem : ∀ (j : Nat) (a : Int), (sortI rs)[j]? = some a → 0 ≤ a ∧ a < 1000 := fun j a ha => hr a ((sortI_perm rs).mem_iff.mp (List.mem_of_getElem? ha))
  have hB : ∀ (j : Nat) (a : Int), (sortI rs)[j]? = some a → (z + 1 + a - (0 + (j : Int))).natAbs ≤ 2 ^ 251 := fun j a ha => by
    have := hmem j a ha
    have hj := lt_of_getL ha
    rw [sortI_len] at hj
    omega
  have hpre : ∀ j : Nat, (prodA z 0 ((sortI rs).take j)).natAbs < 2 ^ 400000 := fun j => by
    have h1 := prodA_le (B := 2 ^ 251) z ((sortI rs).take j) 0 fun i a ha => hB i a (by
      rw [List.getElem?_take] at ha
      split at ha
      · exact ha
      · cases ha)
    have h2 : ((sortI rs).take j).length ≤ 1000 := by
      rw [List.length_take, sortI_len]
      omega
    refine Nat.lt_of_le_of_lt h1 ?_
    rw [← Nat.pow_mul]
    exact Nat.pow_lt_pow_right (by decide) (by omega)
  obtain ⟨e', M', el, v3, v4, rfl, rfl⟩ := forL_all (γ := tupT 2 (consT (setT 3) (consT (setT 4) nilT))) (g := setS 2 (op2 mulV (getV 2) (op2 subV (op2 addV (op2 addV (getV 1) (cst (.d (.int 1)))) (getV 4)) (getV 3))))
    (fun j e N => ∃ v3 v4 : Option Vl, e = [some x, some (.d (.int z)), some (.d (.int (prodA z 0 ((sortI rs).take j)))), v3, v4] ∧ N = M)
    (xs := numD (intsD (sortI rs))) (e := [some x, some (.d (.int z)), some (.d (.int 1)), none, none]) (M := M)
    (by
      rintro j y e N hy ⟨v3, v4, rfl, rfl⟩
      obtain ⟨d, hd, rfl⟩ := C.numD_get hy
      rw [List.getElem?_map] at hd
      obtain ⟨a, ha, rfl⟩ := Option.map_eq_some_iff.mp hd
      have hm := hmem j a ha
      have hj := lt_of_getL ha
      have hj2 := hj
      rw [sortI_len] at hj2
      have ht : prodA z 0 ((sortI rs).take (j + 1)) = prodA z 0 ((sortI rs).take j) * (z + 1 + a - (j : Nat)) := by
        rw [List.take_succ, ha, Option.toList_some, prodA_app]
        simp [prodA, List.length_take]
        rw [Nat.min_eq_left (by omega)]
      refine ⟨[some x, some (.d (.int z)), some (.d (.int (prodA z 0 ((sortI rs).take j)))), some (.d (nD j)), some (.d (.int a))], N, [some x, some (.d (.int z)), some (.d (.int (prodA z 0 ((sortI rs).take (j + 1))))), some (.d (nD j)), some (.d (.int a))], N, ?_, ?_, _, _, rfl, rfl⟩
      · simp only [defM, startE, seqS_a, setS_a, bindS_ok, bindS_er, then_nx, then_rt, then_er, ifS_a, ifK_t, ifK_f, retS_a, dropS_a, asgS_a, asK_a, goG_ok, subT_a, nopS_a, getV_0, getV_s, cst_a, op2_a, o2a_ok, o2b_ok, opT_a, oTa_ok, oTb_ok, consA_a, cAa_ok, cAb_ok, nilA_a, callF_a, cFa_ok, callE_a, cEa_ok, newE_a, nwa_ok, datE_a, dta_ok, dispE_a, tupE_a, tpa_ok, asDs_a, datas, bind_ok, pur_ok, bool_b, leave_d, leave_nx, leave_er, ifE_a, ifa_t, ifa_f, notT_a, nta_ok, andT_a, ana_t, ana_f, orT_a, ora_t, ora_f, tstE_a, tsa_b, andE_a, aEa_t, aEa_f, orE_a, oEa_t, oEa_f, notE_a, nEa_ok, add_ii, sub_ii, gt_ii, lt_ii, ge_ii, le_ii, setT_a, consT_a, cTa_ok, nilT_a, tupT_a, seqT_t, seqT_l, forS_a, List.map_cons, List.map_nil, List.length_cons, List.length_nil, Nat.reduceAdd, Nat.reduceSub, Nat.zero_add, Nat.add_zero, List.replicate, List.cons_append, List.nil_append, List.append_nil, List.getElem?_cons_zero, List.getElem?_cons_succ, List.set_cons_zero, List.set_cons_succ, List.getElem?_nil, Option.map_some, Option.map_none, Option.bind_some, if_true, if_false, ite_true, ite_false, eq_self_iff_true, and_self, and_true, true_and, decide_true, decide_false, Bool.false_eq_true, Bool.not_true, Bool.not_false, sizeLine, Nat.reducePow, Nat.reduceLeDiff, Nat.zero_le, pow_7, pow_18, pow_40]
      · have : (z + 1 + a - (j : Int)).natAbs < 2 ^ 400000 := Nat.lt_of_le_of_lt (show (z + 1 + a - (j : Int)).natAbs ≤ 2 ^ 251 by omega) (Nat.pow_lt_pow_right (by decide) (by decide))
        simp only [defM, startE, seqS_a, setS_a, bindS_ok, bindS_er, then_nx, then_rt, then_er, ifS_a, ifK_t, ifK_f, retS_a, dropS_a, asgS_a, asK_a, goG_ok, subT_a, nopS_a, getV_0, getV_s, cst_a, op2_a, o2a_ok, o2b_ok, opT_a, oTa_ok, oTb_ok, consA_a, cAa_ok, cAb_ok, nilA_a, callF_a, cFa_ok, callE_a, cEa_ok, newE_a, nwa_ok, datE_a, dta_ok, dispE_a, tupE_a, tpa_ok, asDs_a, datas, bind_ok, pur_ok, bool_b, leave_d, leave_nx, leave_er, ifE_a, ifa_t, ifa_f, notT_a, nta_ok, andT_a, ana_t, ana_f, orT_a, ora_t, ora_f, tstE_a, tsa_b, andE_a, aEa_t, aEa_f, orE_a, oEa_t, oEa_f, notE_a, nEa_ok, add_ii, sub_ii, gt_ii, lt_ii, ge_ii, le_ii, setT_a, consT_a, cTa_ok, nilT_a, tupT_a, seqT_t, seqT_l, forS_a, List.map_cons, List.map_nil, List.length_cons, List.length_nil, Nat.reduceAdd, Nat.reduceSub, Nat.zero_add, Nat.add_zero, List.replicate, List.cons_append, List.nil_append, List.append_nil, List.getElem?_cons_zero, List.getElem?_cons_succ, List.set_cons_zero, List.set_cons_succ, List.getElem?_nil, Option.map_some, Option.map_none, Option.bind_some, if_true, if_false, ite_true, ite_false, eq_self_iff_true, and_self, and_true, true_and, decide_true, decide_false, Bool.false_eq_true, Bool.not_true, Bool.not_false, sizeLine, Nat.reducePow, Nat.reduceLeDiff, Nat.zero_le, pow_7, pow_18, pow_40, mul_big (M := N) (hpre j) this, ht])
    ⟨none, none, rfl, rfl⟩
  rw [numD_len, List.length_map] at el
  rw [List.take_of_length_le (Nat.le_refl _)] at el
  unfold m_up_to_rounds g_up_to_rounds upI
  simp only [defM, startE, seqS_a, setS_a, bindS_ok, bindS_er, then_nx, then_rt, then_er, ifS_a, ifK_t, ifK_f, retS_a, dropS_a, asgS_a, asK_a, goG_ok, subT_a, nopS_a, getV_0, getV_s, cst_a, op2_a, o2a_ok, o2b_ok, opT_a, oTa_ok, oTb_ok, consA_a, cAa_ok, cAb_ok, nilA_a, callF_a, cFa_ok, callE_a, cEa_ok, newE_a, nwa_ok, datE_a, dta_ok, dispE_a, tupE_a, tpa_ok, asDs_a, datas, bind_ok, pur_ok, bool_b, leave_d, leave_nx, leave_er, ifE_a, ifa_t, ifa_f, notT_a, nta_ok, andT_a, ana_t, ana_f, orT_a, ora_t, ora_f, tstE_a, tsa_b, andE_a, aEa_t, aEa_f, orE_a, oEa_t, oEa_f, notE_a, nEa_ok, add_ii, sub_ii, gt_ii, lt_ii, ge_ii, le_ii, setT_a, consT_a, cTa_ok, nilT_a, tupT_a, seqT_t, seqT_l, forS_a, List.map_cons, List.map_nil, List.length_cons, List.length_nil, Nat.reduceAdd, Nat.reduceSub, Nat.zero_add, Nat.add_zero, List.replicate, List.cons_append, List.nil_append, List.append_nil, List.getElem?_cons_zero, List.getElem?_cons_succ, List.set_cons_zero, List.set_cons_succ, List.getElem?_nil, Option.map_some, Option.map_none, Option.bind_some, if_true, if_false, ite_true, ite_false, eq_self_iff_true, and_self, and_true, true_and, decide_true, decide_false, Bool.false_eq_true, Bool.not_true, Bool.not_false, sizeLine, Nat.reducePow, Nat.reduceLeDiff, Nat.zero_le, pow_7, pow_18, pow_40, hen, el]
  rw [take_all (by simp)]
/-- how many states have these residues and this total -/
def manyI (rs : List Int) (K : Int) : Int :=
  if K - rs.sum + (rs.length : Int) * ((rs.length : Int) - 1) / 2 < 0 ∨ (K - rs.sum + (rs.length : Int) * ((rs.length : Int) - 1) / 2) % (rs.length : Int) ≠ 0 then 0
  else upI rs ((K - rs.sum + (rs.length : Int) * ((rs.length : Int) - 1) / 2) / (rs.length : Int)) - upI rs ((K - rs.sum + (rs.length : Int) * ((rs.length : Int) - 1) / 2) / (rs.length : Int) - 1)
theorem many_ok {x : Vl} {rs : List Int} {K : Int} {M : Mem} (hx : SeqV x (intsD rs)) (h0 : 0 < rs.length) (hl : rs.length ≤ 1000) (hr : ∀ r ∈ rs, 0 ≤ r ∧ r < 1000) (hK : K.natAbs ≤ 2 ^ 240) : m_many_with [x, .d (.int K)] M = .ok (.d (.int (manyI rs K))) M := by
  have hlen : lenV [x] M = _ := hx.len
  rw [List.length_map] at hlen
  have hsum : sumTV [x] M = .ok (.d (.int rs.sum)) M := by rcases hx with rfl | rfl; exact sum_l; exact sum_t
  have hs := sum_nn rs fun r h => (hr r h).1
  have hs2 : rs.sum ≤ rs.length * 1000 := by
    have : ∀ l : List Int, (∀ r ∈ l, r ≤ 1000) → l.sum ≤ l.length * 1000 := fun l => by
      induction l with
      | nil => intro _; simp
      | cons a l ih =>
        intro h
        have := ih fun r hr => h r (List.mem_cons_of_mem _ hr)
        have := h a List.mem_cons_self
        rw [List.sum_cons, List.length_cons]
        push_cast
        omega
    exact this rs fun r h => by have := hr r h; omega
  generalize hn : rs.length = n at *
  have hmul : mulV (.d (.int (n : Nat))) (.d (.int ((n : Int) - 1))) M = .ok (.d (.int ((n : Int) * ((n : Int) - 1)))) M := mul_ii (.inl (by omega))
  have hnn : (n : Int) * ((n : Int) - 1) ≤ 1000 * 1000 := Int.mul_le_mul (by omega) (by omega) (by omega) (by omega)
  have hnn0 : 0 ≤ (n : Int) * ((n : Int) - 1) := Int.mul_nonneg (by omega) (by omega)
  have fd2 : ∀ a : Int, fdivV (.d (.int a)) (.d (.int 2)) M = .ok (.d (.int (a / 2))) M := fun a => fdiv_ii (by decide) (by decide)
  have fdn : ∀ a : Int, fdivV (.d (.int a)) (.d (.int (n : Nat))) M = .ok (.d (.int (a / (n : Nat)))) M := fun a => fdiv_ii (by omega) (by omega)
  unfold manyI
  rw [hn]
  generalize hov : K - rs.sum + (n : Int) * ((n : Int) - 1) / 2 = ov
  have hq : (ov / (n : Int)).natAbs ≤ 2 ^ 249 := by
    have h1 : (ov / (n : Int)).natAbs ≤ ov.natAbs := Int.natAbs_ediv_le_natAbs _ _
    omega
  have hr1 : m_rounds_of [x, .d (.int K)] M = .ok (if ov < 0 ∨ ov % (n : Int) ≠ 0 then .d .none else .d (.int (ov / (n : Int)))) M := by
    unfold m_rounds_of g_rounds_of
    by_cases hneg : ov < 0
    · simp only [defM, startE, seqS_a, setS_a, bindS_ok, bindS_er, then_nx, then_rt, then_er, ifS_a, ifK_t, ifK_f, retS_a, dropS_a, asgS_a, asK_a, goG_ok, subT_a, nopS_a, getV_0, getV_s, cst_a, op2_a, o2a_ok, o2b_ok, opT_a, oTa_ok, oTb_ok, consA_a, cAa_ok, cAb_ok, nilA_a, callF_a, cFa_ok, callE_a, cEa_ok, newE_a, nwa_ok, datE_a, dta_ok, dispE_a, tupE_a, tpa_ok, asDs_a, datas, bind_ok, pur_ok, bool_b, leave_d, leave_nx, leave_er, ifE_a, ifa_t, ifa_f, notT_a, nta_ok, andT_a, ana_t, ana_f, orT_a, ora_t, ora_f, tstE_a, tsa_b, andE_a, aEa_t, aEa_f, orE_a, oEa_t, oEa_f, notE_a, nEa_ok, add_ii, sub_ii, gt_ii, lt_ii, ge_ii, le_ii, setT_a, consT_a, cTa_ok, nilT_a, tupT_a, seqT_t, seqT_l, forS_a, List.map_cons, List.map_nil, List.length_cons, List.length_nil, Nat.reduceAdd, Nat.reduceSub, Nat.zero_add, Nat.add_zero, List.replicate, List.cons_append, List.nil_append, List.append_nil, List.getElem?_cons_zero, List.getElem?_cons_succ, List.set_cons_zero, List.set_cons_succ, List.getElem?_nil, Option.map_some, Option.map_none, Option.bind_some, if_true, if_false, ite_true, ite_false, eq_self_iff_true, and_self, and_true, true_and, decide_true, decide_false, Bool.false_eq_true, Bool.not_true, Bool.not_false, sizeLine, Nat.reducePow, Nat.reduceLeDiff, Nat.zero_le, pow_7, pow_18, pow_40, hlen, hsum, hmul, fd2, hov, hneg]
      rw [take_all (by simp), if_pos (.inl trivial)]
    · by_cases hm : ov % (n : Int) = 0
      · have hb : (ov % (n : Int) == 0) = true := by simp [hm]
        simp only [defM, startE, seqS_a, setS_a, bindS_ok, bindS_er, then_nx, then_rt, then_er, ifS_a, ifK_t, ifK_f, retS_a, dropS_a, asgS_a, asK_a, goG_ok, subT_a, nopS_a, getV_0, getV_s, cst_a, op2_a, o2a_ok, o2b_ok, opT_a, oTa_ok, oTb_ok, consA_a, cAa_ok, cAb_ok, nilA_a, callF_a, cFa_ok, callE_a, cEa_ok, newE_a, nwa_ok, datE_a, dta_ok, dispE_a, tupE_a, tpa_ok, asDs_a, datas, bind_ok, pur_ok, bool_b, leave_d, leave_nx, leave_er, ifE_a, ifa_t, ifa_f, notT_a, nta_ok, andT_a, ana_t, ana_f, orT_a, ora_t, ora_f, tstE_a, tsa_b, andE_a, aEa_t, aEa_f, orE_a, oEa_t, oEa_f, notE_a, nEa_ok, add_ii, sub_ii, gt_ii, lt_ii, ge_ii, le_ii, setT_a, consT_a, cTa_ok, nilT_a, tupT_a, seqT_t, seqT_l, forS_a, List.map_cons, List.map_nil, List.length_cons, List.length_nil, Nat.reduceAdd, Nat.reduceSub, Nat.zero_add, Nat.add_zero, List.replicate, List.cons_append, List.nil_append, List.append_nil, List.getElem?_cons_zero, List.getElem?_cons_succ, List.set_cons_zero, List.set_cons_succ, List.getElem?_nil, Option.map_some, Option.map_none, Option.bind_some, if_true, if_false, ite_true, ite_false, eq_self_iff_true, and_self, and_true, true_and, decide_true, decide_false, Bool.false_eq_true, Bool.not_true, Bool.not_false, sizeLine, Nat.reducePow, Nat.reduceLeDiff, Nat.zero_le, pow_7, pow_18, pow_40, hlen, hsum, hmul, fd2, hov, hneg, mod_ii (show (0 : Int) < (n : Nat) by omega), ne_ii, hb, fdn]
        rw [take_all (by simp), if_neg (by simp [hm])]
      · have hb : (ov % (n : Int) == 0) = false := by simp [hm]
        simp only [defM, startE, seqS_a, setS_a, bindS_ok, bindS_er, then_nx, then_rt, then_er, ifS_a, ifK_t, ifK_f, retS_a, dropS_a, asgS_a, asK_a, goG_ok, subT_a, nopS_a, getV_0, getV_s, cst_a, op2_a, o2a_ok, o2b_ok, opT_a, oTa_ok, oTb_ok, consA_a, cAa_ok, cAb_ok, nilA_a, callF_a, cFa_ok, callE_a, cEa_ok, newE_a, nwa_ok, datE_a, dta_ok, dispE_a, tupE_a, tpa_ok, asDs_a, datas, bind_ok, pur_ok, bool_b, leave_d, leave_nx, leave_er, ifE_a, ifa_t, ifa_f, notT_a, nta_ok, andT_a, ana_t, ana_f, orT_a, ora_t, ora_f, tstE_a, tsa_b, andE_a, aEa_t, aEa_f, orE_a, oEa_t, oEa_f, notE_a, nEa_ok, add_ii, sub_ii, gt_ii, lt_ii, ge_ii, le_ii, setT_a, consT_a, cTa_ok, nilT_a, tupT_a, seqT_t, seqT_l, forS_a, List.map_cons, List.map_nil, List.length_cons, List.length_nil, Nat.reduceAdd, Nat.reduceSub, Nat.zero_add, Nat.add_zero, List.replicate, List.cons_append, List.nil_append, List.append_nil, List.getElem?_cons_zero, List.getElem?_cons_succ, List.set_cons_zero, List.set_cons_succ, List.getElem?_nil, Option.map_some, Option.map_none, Option.bind_some, if_true, if_false, ite_true, ite_false, eq_self_iff_true, and_self, and_true, true_and, decide_true, decide_false, Bool.false_eq_true, Bool.not_true, Bool.not_false, sizeLine, Nat.reducePow, Nat.reduceLeDiff, Nat.zero_le, pow_7, pow_18, pow_40, hlen, hsum, hmul, fd2, hov, hneg, mod_ii (show (0 : Int) < (n : Nat) by omega), ne_ii, hb]
        rw [take_all (by simp), if_pos (.inr hm)]
  unfold m_many_with g_many_with
  by_cases hc : ov < 0 ∨ ov % (n : Int) ≠ 0
  · rw [if_pos hc] at hr1 ⊢
    simp only [defM, startE, seqS_a, setS_a, bindS_ok, bindS_er, then_nx, then_rt, then_er, ifS_a, ifK_t, ifK_f, retS_a, dropS_a, asgS_a, asK_a, goG_ok, subT_a, nopS_a, getV_0, getV_s, cst_a, op2_a, o2a_ok, o2b_ok, opT_a, oTa_ok, oTb_ok, consA_a, cAa_ok, cAb_ok, nilA_a, callF_a, cFa_ok, callE_a, cEa_ok, newE_a, nwa_ok, datE_a, dta_ok, dispE_a, tupE_a, tpa_ok, asDs_a, datas, bind_ok, pur_ok, bool_b, leave_d, leave_nx, leave_er, ifE_a, ifa_t, ifa_f, notT_a, nta_ok, andT_a, ana_t, ana_f, orT_a, ora_t, ora_f, tstE_a, tsa_b, andE_a, aEa_t, aEa_f, orE_a, oEa_t, oEa_f, notE_a, nEa_ok, add_ii, sub_ii, gt_ii, lt_ii, ge_ii, le_ii, setT_a, consT_a, cTa_ok, nilT_a, tupT_a, seqT_t, seqT_l, forS_a, List.map_cons, List.map_nil, List.length_cons, List.length_nil, Nat.reduceAdd, Nat.reduceSub, Nat.zero_add, Nat.add_zero, List.replicate, List.cons_append, List.nil_append, List.append_nil, List.getElem?_cons_zero, List.getElem?_cons_succ, List.set_cons_zero, List.set_cons_succ, List.getElem?_nil, Option.map_some, Option.map_none, Option.bind_some, if_true, if_false, ite_true, ite_false, eq_self_iff_true, and_self, and_true, true_and, decide_true, decide_false, Bool.false_eq_true, Bool.not_true, Bool.not_false, sizeLine, Nat.reducePow, Nat.reduceLeDiff, Nat.zero_le, pow_7, pow_18, pow_40, hr1, is_nn]
    rw [take_all (by simp)]
  · rw [if_neg hc] at hr1 ⊢
    have hisn : ∀ i : Int, isV (.d (.int i)) (.d .none) M = .ok (.d (.bool false)) M := fun i => is_n
    simp only [defM, startE, seqS_a, setS_a, bindS_ok, bindS_er, then_nx, then_rt, then_er, ifS_a, ifK_t, ifK_f, retS_a, dropS_a, asgS_a, asK_a, goG_ok, subT_a, nopS_a, getV_0, getV_s, cst_a, op2_a, o2a_ok, o2b_ok, opT_a, oTa_ok, oTb_ok, consA_a, cAa_ok, cAb_ok, nilA_a, callF_a, cFa_ok, callE_a, cEa_ok, newE_a, nwa_ok, datE_a, dta_ok, dispE_a, tupE_a, tpa_ok, asDs_a, datas, bind_ok, pur_ok, bool_b, leave_d, leave_nx, leave_er, ifE_a, ifa_t, ifa_f, notT_a, nta_ok, andT_a, ana_t, ana_f, orT_a, ora_t, ora_f, tstE_a, tsa_b, andE_a, aEa_t, aEa_f, orE_a, oEa_t, oEa_f, notE_a, nEa_ok, add_ii, sub_ii, gt_ii, lt_ii, ge_ii, le_ii, setT_a, consT_a, cTa_ok, nilT_a, tupT_a, seqT_t, seqT_l, forS_a, List.map_cons, List.map_nil, List.length_cons, List.length_nil, Nat.reduceAdd, Nat.reduceSub, Nat.zero_add, Nat.add_zero, List.replicate, List.cons_append, List.nil_append, List.append_nil, List.getElem?_cons_zero, List.getElem?_cons_succ, List.set_cons_zero, List.set_cons_succ, List.getElem?_nil, Option.map_some, Option.map_none, Option.bind_some, if_true, if_false, ite_true, ite_false, eq_self_iff_true, and_self, and_true, true_and, decide_true, decide_false, Bool.false_eq_true, Bool.not_true, Bool.not_false, sizeLine, Nat.reducePow, Nat.reduceLeDiff, Nat.zero_le, pow_7, pow_18, pow_40, hr1, hisn, up_ok (M := M) (z := ov / (n : Int)) hx (by omega) hr (by omega), up_ok (M := M) (z := ov / (n : Int) - 1) hx (by omega) hr (by omega)]
    rw [take_all (by simp)]
theorem lot_ok {n : Nat} {x : Vl} {ss : List Nat} {ps : List Int} {M : Mem} (h : Stt n ss ps) (h0 : 0 < n) (hn : n ≤ 1000) (hS : ps.sum ≤ 10 ^ 60) (hx : StV x ss ps) : m_lot_many [x] M = .ok (.d (.int (manyI (resI ss ps) ps.sum))) M := by
  have hl := h.slen
  have hrl : (resI ss ps).length = n := by rw [resI_len, hl, h.len]; simp
  have hS0 := (sum_nn ps h.nn).1
  have hm := many_ok (M := M) (x := .d (.tuple (intsD (resI ss ps)))) (rs := resI ss ps) (K := ps.sum) (.inr rfl) (by omega) (by omega) (fun r hr => by
    obtain ⟨k, hk⟩ := List.getElem?_of_mem hr
    have := resI_lt hl h0 hk
    omega) (by omega)
  unfold m_lot_many g_lot_many
  simp only [defM, startE, seqS_a, setS_a, bindS_ok, bindS_er, then_nx, then_rt, then_er, ifS_a, ifK_t, ifK_f, retS_a, dropS_a, asgS_a, asK_a, goG_ok, subT_a, nopS_a, getV_0, getV_s, cst_a, op2_a, o2a_ok, o2b_ok, opT_a, oTa_ok, oTb_ok, consA_a, cAa_ok, cAb_ok, nilA_a, callF_a, cFa_ok, callE_a, cEa_ok, newE_a, nwa_ok, datE_a, dta_ok, dispE_a, tupE_a, tpa_ok, asDs_a, datas, bind_ok, pur_ok, bool_b, leave_d, leave_nx, leave_er, ifE_a, ifa_t, ifa_f, notT_a, nta_ok, andT_a, ana_t, ana_f, orT_a, ora_t, ora_f, tstE_a, tsa_b, andE_a, aEa_t, aEa_f, orE_a, oEa_t, oEa_f, notE_a, nEa_ok, add_ii, sub_ii, gt_ii, lt_ii, ge_ii, le_ii, setT_a, consT_a, cTa_ok, nilT_a, tupT_a, seqT_t, seqT_l, forS_a, List.map_cons, List.map_nil, List.length_cons, List.length_nil, Nat.reduceAdd, Nat.reduceSub, Nat.zero_add, Nat.add_zero, List.replicate, List.cons_append, List.nil_append, List.append_nil, List.getElem?_cons_zero, List.getElem?_cons_succ, List.set_cons_zero, List.set_cons_succ, List.getElem?_nil, Option.map_some, Option.map_none, Option.bind_some, if_true, if_false, ite_true, ite_false, eq_self_iff_true, and_self, and_true, true_and, decide_true, decide_false, Bool.false_eq_true, Bool.not_true, Bool.not_false, sizeLine, Nat.reducePow, Nat.reduceLeDiff, Nat.zero_le, pow_7, pow_18, pow_40, kept_ok (M := M) hx (by omega), hm]
  rw [take_all (by simp)]
end C
end DL

namespace DL
open PySem PySem.Spec L2
/-! ### a table turned round, people renamed: plain -/
theorem mod_sum_nn (n : Int) (h0 : 0 < n) : ∀ l : List Int, (∀ x ∈ l, 0 ≤ x) → ∃ q, 0 ≤ q ∧ l.sum = (l.map (· % n)).sum + n * q
  | [], _ => ⟨0, Int.le_refl _, by simp⟩
  | x :: l, h => by
    obtain ⟨q, hq, e⟩ := mod_sum_nn n h0 l fun y hy => h y (List.mem_cons_of_mem _ hy)
    have hx := h x List.mem_cons_self
    refine ⟨x / n + q, by have := Int.ediv_nonneg hx (show 0 ≤ n by omega); omega, ?_⟩
    rw [List.map_cons, List.sum_cons, List.sum_cons, e, Int.mul_add]
    have := Int.emod_add_mul_ediv x n
    omega
theorem sum_range : ∀ n : Nat, (castI (List.range n)).sum = (n : Int) * ((n : Int) - 1) / 2
  | 0 => by simp
  | n + 1 => by
    have ih := sum_range n
    have he : ((n : Int) * ((n : Int) - 1)) % 2 = 0 := by
      rcases Int.emod_two_eq (n : Int) with h | h
      · rw [Int.mul_emod, h]; simp
      · rw [Int.mul_emod, Int.sub_emod, h]; simp
    unfold castI at ih ⊢
    rw [List.range_succ, List.map_append, List.sum_append, ih]
    have e : ((n + 1 : Nat) : Int) * (((n + 1 : Nat) : Int) - 1) = (n : Int) * ((n : Int) - 1) + 2 * n := by
      push_cast
      rw [show (n : Int) + 1 - 1 = n by omega, Int.add_mul, Int.mul_sub]
      omega
    rw [e]
    simp
    omega
/-- the rounds of a state's lot -/
theorem rounds_at {n : Nat} {ss : List Nat} {ps : List Int} (h : Stt n ss ps) (h0 : 0 < n) : ∃ Q, 0 ≤ Q ∧ ps.sum - (resI ss ps).sum + (n : Int) * ((n : Int) - 1) / 2 = n * Q := by
  have hl := h.slen
  have e1 := zw_sum_add (castI ss) ps (by simp [hl, h.len])
  obtain ⟨q, hq, e2⟩ := mod_sum_nn (n : Int) (by omega) (List.zipWith (fun a b => a + b) (castI ss) ps) (fun x hx => by
    rw [List.mem_iff_getElem?] at hx
    obtain ⟨k, hk⟩ := hx
    rw [List.getElem?_zipWith] at hk
    split at hk
    · rename_i a b ha hb
      cases hk
      rw [List.getElem?_map] at ha
      obtain ⟨s, _, rfl⟩ := Option.map_eq_some_iff.mp ha
      have := h.nn b (List.mem_of_getElem? hb)
      omega
    · cases hk)
  have hr : resI ss ps = (List.zipWith (fun a b => a + b) (castI ss) ps).map (· % (n : Int)) := by rw [resI_add, hl]
  rw [← hr] at e2
  have e3 : (castI ss).sum = (n : Int) * ((n : Int) - 1) / 2 := by rw [← sum_range]; exact perm_sum (h.perm.map _)
  exact ⟨q, hq, by omega⟩
theorem many_st {n : Nat} {ss : List Nat} {ps : List Int} (h : Stt n ss ps) (h0 : 0 < n) {Q : Int} (hQ : 0 ≤ Q) (e : ps.sum - (resI ss ps).sum + (n : Int) * ((n : Int) - 1) / 2 = n * Q) : C.manyI (resI ss ps) ps.sum = upI (resI ss ps) Q - upI (resI ss ps) (Q - 1) := by
  have hrl : (resI ss ps).length = n := by rw [resI_len, h.slen, h.len]; simp
  unfold C.manyI
  rw [hrl, e]
  have h1 : ¬ ((n : Int) * Q < 0 ∨ (n : Int) * Q % n ≠ 0) := by
    have := Int.mul_nonneg (show (0 : Int) ≤ n by omega) hQ
    rintro (a | a)
    · omega
    · exact a (Int.mul_emod_right ..)
  rw [if_neg h1, Int.mul_ediv_cancel_left _ (by omega)]
/-! one seat further -/
abbrev pu (n : Nat) (r : Int) : Int := (r + 1) % (n : Int)
theorem pw_rep (k : Nat) (a : Int) : (List.replicate k a).Pairwise (· ≤ ·) := by
  induction k with
  | zero => exact List.Pairwise.nil
  | succ k ih => exact List.Pairwise.cons (fun b hb => by rw [(List.mem_replicate.mp hb).2]; exact Int.le_refl _) ih
theorem upI_push {n : Nat} (h0 : 0 < n) {rs : List Int} (hl : rs.length = n) (hr : ∀ r ∈ rs, 0 ≤ r ∧ r < n) : ∃ c : Nat, (rs.map (pu n)).sum = rs.sum + n - n * c ∧ ∀ z, upI (rs.map (pu n)) (z - 1 + c) = upI rs z := by
  let p : Int → Bool := fun r => r != (n : Int) - 1
  let as := (sortI rs).filter p
  let c := ((sortI rs).filter fun r => !p r).length
  have hmem : ∀ r ∈ sortI rs, 0 ≤ r ∧ r < n := fun r hx => hr r ((sortI_perm rs).mem_iff.mp hx)
  have hbs : (sortI rs).filter (fun r => !p r) = List.replicate c ((n : Int) - 1) := by
    refine List.eq_replicate_iff.mpr ⟨rfl, fun b hb => ?_⟩
    have := (List.mem_filter.mp hb).2
    simpa [p] using this
  have hperm : (as ++ List.replicate c ((n : Int) - 1)).Perm rs := by
    rw [← hbs]
    exact (List.filter_append_perm p (sortI rs)).trans (sortI_perm rs)
  have hasm : ∀ a ∈ as, 0 ≤ a ∧ a < (n : Int) - 1 := fun a ha => by
    obtain ⟨h1, h2⟩ := List.mem_filter.mp ha
    have := hmem a h1
    have h2 : a ≠ (n : Int) - 1 := by simpa [p] using h2
    omega
  have hasc : as.Pairwise (· ≤ ·) := (sortI_asc rs).filter _
  have hs1 : sortI rs = as ++ List.replicate c ((n : Int) - 1) := by
    refine asc_unique ((sortI_perm rs).trans hperm.symm) (sortI_asc rs) ?_
    rw [List.pairwise_append]
    refine ⟨hasc, pw_rep _ _, fun a ha b hb => ?_⟩
    have := hasm a ha
    have := (List.mem_replicate.mp hb).2
    omega
  have hpa : ∀ a ∈ as, pu n a = a + 1 := fun a ha => by
    have := hasm a ha
    exact Int.emod_eq_of_lt (by omega) (by omega)
  have hpn : pu n ((n : Int) - 1) = 0 := by
    show ((n : Int) - 1 + 1) % n = 0
    rw [show (n : Int) - 1 + 1 = n by omega]
    exact Int.emod_self
  have hperm2 : (rs.map (pu n)).Perm (List.replicate c 0 ++ as.map (· + 1)) := by
    have h1 := (hperm.map (pu n)).symm
    rw [List.map_append, List.map_replicate, hpn, List.map_congr_left hpa] at h1
    exact h1.trans List.perm_append_comm
  have hs2 : sortI (rs.map (pu n)) = List.replicate c 0 ++ as.map (· + 1) := by
    refine asc_unique ((sortI_perm _).trans hperm2) (sortI_asc _) ?_
    rw [List.pairwise_append]
    refine ⟨pw_rep _ _, ?_, fun a ha b hb => ?_⟩
    · rw [List.pairwise_map]
      exact hasc.imp fun h => by omega
    · have := (List.mem_replicate.mp ha).2
      obtain ⟨x, hx, rfl⟩ := List.mem_map.mp hb
      have := hasm x hx
      omega
  have hlen : as.length + c = n := by
    have := hperm.length_eq
    rw [List.length_append, List.length_replicate, hl] at this
    exact this
  have hrep : ∀ (k : Nat) (z z' i i' a a' : Int), z + a - i = z' + a' - i' → prodA z i (List.replicate k a) = prodA z' i' (List.replicate k a') := fun k => by
    induction k with
    | zero => intros; rfl
    | succ k ih =>
      intro z z' i i' a a' h
      rw [List.replicate_succ, List.replicate_succ, prodA, prodA, ih z z' (i + 1) (i' + 1) a a' (by omega)]
      congr 1
      omega
  refine ⟨c, ?_, fun z => ?_⟩
  · rw [perm_sum hperm2, ← perm_sum hperm, List.sum_append, List.sum_append]
    have s1 : ∀ (k : Nat) (a : Int), (List.replicate k a).sum = k * a := fun k a => by
      induction k with
      | zero => simp
      | succ k ih => rw [List.replicate_succ, List.sum_cons, ih]; push_cast; rw [Int.add_mul]; omega
    have s2 : ∀ l : List Int, (l.map (· + 1)).sum = l.sum + l.length := fun l => by
      induction l with
      | nil => rfl
      | cons a l ih => rw [List.map_cons, List.sum_cons, List.sum_cons, ih, List.length_cons]; push_cast; omega
    rw [s1, s1, s2, Int.mul_sub]
    have : (as.length : Int) + c = n := by exact_mod_cast hlen
    have e : (c : Int) * n = n * c := Int.mul_comm _ _
    omega
  · unfold upI
    rw [hs1, hs2, prodA_app, prodA_app, Int.mul_comm]
    congr 1
    · rw [← prodA_shift z (z - 1 + c) 1 as 0 (0 + (List.replicate c (0 : Int)).length) (by simp; omega)]
    · refine hrep c _ _ _ _ _ _ ?_
      have : (as.length : Int) + c = n := by exact_mod_cast hlen
      omega
def pushL (n b : Nat) (ss : List Nat) : List Nat := ss.map fun c => (c + b) % n
theorem pushL_succ {n b : Nat} {ss : List Nat} : pushL n (b + 1) ss = pushL n 1 (pushL n b ss) := by
  unfold pushL
  rw [List.map_map]
  refine List.map_congr_left fun c _ => ?_
  show (c + (b + 1)) % n = ((c + b) % n + 1) % n
  rw [Nat.mod_add_mod]
  rfl
theorem pushL_zero {n : Nat} {ss : List Nat} {ps : List Int} (h : Stt n ss ps) : pushL n 0 ss = ss := by
  unfold pushL
  have : ∀ c ∈ ss, (c + 0) % n = c := fun c hc => Nat.mod_eq_of_lt (List.mem_range.mp (h.perm.mem_iff.mp hc))
  rw [List.map_congr_left this, List.map_id']
theorem push_range (n : Nat) : ((List.range n).map fun c => (c + 1) % n).Perm (List.range n) := by
  cases n with
  | zero => exact List.Perm.refl _
  | succ m =>
    have e : (List.range (m + 1)).map (fun c => (c + 1) % (m + 1)) = (List.range m).map Nat.succ ++ [0] := by
      rw [List.range_succ, List.map_append]
      congr 1
      · refine List.map_congr_left fun c hc => ?_
        have := List.mem_range.mp hc
        exact Nat.mod_eq_of_lt (by omega)
      · show [(m + 1) % (m + 1)] = [0]
        rw [Nat.mod_self]
    rw [e, List.range_succ_eq_map]
    exact List.perm_append_comm
theorem Stt.push1 {n : Nat} {ss : List Nat} {ps : List Int} (h : Stt n ss ps) : Stt n (pushL n 1 ss) ps := ⟨(h.perm.map _).trans (push_range n), h.len, h.nn⟩
theorem Stt.push {n b : Nat} {ss : List Nat} {ps : List Int} (h : Stt n ss ps) : Stt n (pushL n b ss) ps := by
  induction b with
  | zero => rw [pushL_zero h]; exact h
  | succ b ih => rw [pushL_succ]; exact ih.push1
theorem res_push {n b : Nat} {ss : List Nat} {ps : List Int} (h : Stt n ss ps) : resI (pushL n b ss) ps = (resI ss ps).map fun r => (r + b) % (n : Int) := by
  have hl := h.slen
  unfold resI pushL
  rw [List.length_map, hl, List.zipWith_map_left, List.map_zipWith]
  refine congrArg (fun f => List.zipWith f ss ps) ?_
  funext c p
  have : (((c + b) % n : Nat) : Int) = ((c : Int) + b) % n := by simp
  rw [this, Int.emod_add_emod, Int.emod_add_emod]
  congr 1
  omega
theorem many_push {n b : Nat} {ss : List Nat} {ps : List Int} (h : Stt n ss ps) (h0 : 0 < n) : C.manyI (resI (pushL n b ss) ps) ps.sum = C.manyI (resI ss ps) ps.sum := by
  have one : ∀ {ss : List Nat}, Stt n ss ps → C.manyI (resI (pushL n 1 ss) ps) ps.sum = C.manyI (resI ss ps) ps.sum := fun {ss} h => by
    have hl := h.slen
    have hrl : (resI ss ps).length = n := by rw [resI_len, hl, h.len]; simp
    obtain ⟨Q, hQ, e⟩ := rounds_at h h0
    obtain ⟨Q', hQ', e'⟩ := rounds_at h.push1 h0
    have hr := res_push (b := 1) h
    have hr : resI (pushL n 1 ss) ps = (resI ss ps).map (pu n) := hr
    rw [many_st h h0 hQ e, many_st h.push1 h0 hQ' e']
    rw [hr] at e' ⊢
    obtain ⟨c, hs, hu⟩ := upI_push h0 hrl (fun r hx => by
      obtain ⟨k, hk⟩ := List.getElem?_of_mem hx
      have := resI_lt hl h0 hk
      omega)
    rw [hs] at e'
    have : Q' = Q - 1 + c := by
      have : (n : Int) * Q' = n * (Q - 1 + c) := by rw [Int.mul_add, Int.mul_sub]; omega
      exact Int.eq_of_mul_eq_mul_left (by omega) this
    rw [this, hu Q, show Q - 1 + (c : Int) - 1 = (Q - 1) - 1 + c by omega, hu (Q - 1)]
  induction b with
  | zero => rw [pushL_zero h]
  | succ b ih => rw [pushL_succ, one h.push, ih]
theorem cross_push {n b : Nat} {ss : List Nat} {ps qs : List Int} (h : Stt n ss ps) (h0 : 0 < n) {x y : Nat} (hx : x < n) (hy : y < n) : crossI n (pushL n b ss) ps qs x y = crossI n ss ps qs x y := by
  have hl := h.slen
  have key : ∀ x, x < n → ∃ e : Int, sF (pushL n b ss) x = sF ss x + b - n * e := fun x hx => by
    obtain ⟨c, hc⟩ := get_some (show x < ss.length by omega)
    have hp : (pushL n b ss)[x]? = some ((c + b) % n) := by unfold pushL; rw [List.getElem?_map, hc]; rfl
    rw [sF_at hc, sF_at hp]
    refine ⟨((c + b) / n : Nat), ?_⟩
    have := Nat.mod_add_div (c + b) n
    have e : (((c + b) % n : Nat) : Int) + n * (((c + b) / n : Nat) : Int) = c + b := by exact_mod_cast this
    omega
  obtain ⟨ex, hx'⟩ := key x hx
  obtain ⟨ey, hy'⟩ := key y hy
  unfold crossI
  rw [hx', hy']
  generalize sF ss x = a
  generalize sF ss y = d
  generalize pF ps y - pF qs y = u
  generalize pF ps x - pF qs x = v
  have e1 : d + b - n * ey + u - (a + b - n * ex + v) = (d + u - (a + v)) + n * (ex - ey) := by rw [Int.mul_sub]; omega
  have e2 : d + b - n * ey - (a + b - n * ex) = (d - a) + n * (ex - ey) := by rw [Int.mul_sub]; omega
  rw [e1, e2, Int.add_mul_ediv_left _ _ (by omega), Int.add_mul_ediv_left _ _ (by omega)]
  congr 1
  omega
theorem dist_push {n b : Nat} {ss : List Nat} {ps qs : List Int} (h : Stt n ss ps) (h0 : 0 < n) : distI n (pushL n b ss) ps qs = distI n ss ps qs := by
  unfold distI
  refine sum_map_congr fun z hz => ?_
  have := mem_pairs.mp hz
  exact cross_push h h0 (by omega) this.2
theorem Lot.push {n b : Nat} {ss tt : List Nat} {ps qs : List Int} (h : Stt n ss ps) (k : Stt n tt qs) (L : Lot ss ps tt qs) : Lot (pushL n b ss) ps (pushL n b tt) qs := ⟨by rw [res_push h, res_push k, L.res], L.sum⟩
/-! sums over all pairs -/
theorem sum_flatMap {α β : Type} (g : α → List β) (F : β → Int) : ∀ l : List α, ((l.flatMap g).map F).sum = (l.map fun x => ((g x).map F).sum).sum
  | [] => rfl
  | x :: l => by rw [List.flatMap_cons, List.map_append, List.sum_append, sum_flatMap g F l, List.map_cons, List.sum_cons]
def sumR (n : Nat) (f : Nat → Int) : Int := ((List.range n).map f).sum
theorem sumR_succ (n : Nat) (f : Nat → Int) : sumR (n + 1) f = sumR n f + f n := by
  unfold sumR
  rw [List.range_succ, List.map_append, List.sum_append]
  simp
theorem sumR_add (n : Nat) (f g : Nat → Int) : sumR n (fun x => f x + g x) = sumR n f + sumR n g := sum_map_add f g _
theorem sumR_congr {n : Nat} {f g : Nat → Int} (h : ∀ x, x < n → f x = g x) : sumR n f = sumR n g := sum_map_congr fun z hz => h z (List.mem_range.mp hz)
theorem pairs_sum (f : Nat → Nat → Int) : ∀ n : Nat, ((pairs n).map fun z => f z.1 z.2).sum = sumR n fun x => sumR x fun y => f y x := by
  have row : ∀ n : Nat, ((pairs n).map fun z => f z.1 z.2).sum = sumR n fun x => ((List.range' (x + 1) (n - (x + 1))).map (f x)).sum := fun n => by
    unfold pairs sumR
    rw [sum_flatMap]
    simp only [List.map_map]
    rfl
  intro n
  induction n with
  | zero => rfl
  | succ n ih =>
    rw [row, sumR_succ, sumR_succ, ← ih, row]
    have last : ((List.range' (n + 1) (n + 1 - (n + 1))).map (f n)).sum = 0 := by simp
    rw [last, Int.add_zero, ← sumR_add]
    refine sumR_congr fun x hx => ?_
    rw [show n + 1 - (x + 1) = (n - (x + 1)) + 1 by omega, ← List.range'_append_1, List.map_append, List.sum_append]
    simp
    congr 1
    omega
theorem full_sum {f : Nat → Nat → Int} : ∀ n : Nat, (∀ x y, x < n → y < n → f x y = f y x) → (sumR n fun x => sumR n fun y => f x y) = 2 * ((pairs n).map fun z => f z.1 z.2).sum + sumR n fun x => f x x := by
  intro n hs
  rw [pairs_sum]
  induction n with
  | zero => rfl
  | succ n ih =>
    have ih := ih fun x y hx hy => hs x y (by omega) (by omega)
    rw [sumR_succ, sumR_succ, sumR_succ, sumR_succ]
    have e1 : (sumR n fun x => sumR (n + 1) fun y => f x y) = (sumR n fun x => sumR n fun y => f x y) + sumR n fun x => f x n := by
      rw [← sumR_add]
      exact sumR_congr fun x _ => sumR_succ n _
    have e2 : (sumR n fun y => f n y) = sumR n fun x => f x n := sumR_congr fun x hx => hs n x (by omega) (by omega)
    rw [e1, ih, e2]
    omega
theorem sumR_perm {n : Nat} {t : List Nat} (ht : t.Perm (List.range n)) (G : Nat → Int) : sumR n (fun w => G (t.getD w 0)) = sumR n G := by
  have hl : t.length = n := by rw [ht.length_eq, List.length_range]
  have : (List.range n).map (fun w => t.getD w 0) = t := by
    apply ext_of
    intro k
    by_cases hk : k < n
    · obtain ⟨x, hx⟩ := get_some (show k < t.length by omega)
      rw [List.getElem?_map, List.getElem?_range hk, hx]
      show some (t.getD k 0) = _
      rw [List.getD_eq_getElem?_getD, hx]
      rfl
    · rw [List.getElem?_eq_none (by simp; omega), List.getElem?_eq_none (by omega)]
  unfold sumR
  have e : (List.range n).map (fun w => G (t.getD w 0)) = ((List.range n).map fun w => t.getD w 0).map G := by rw [List.map_map]; rfl
  rw [e, this]
  exact perm_sum (ht.map G)
/-- names changed: who is w becomes t[w] -/
structure Named {α : Type} (t : List Nat) (xs ys : List α) : Prop where
  len : ys.length = xs.length
  at_ : ∀ (w x : Nat), t[w]? = some x → ys[x]? = xs[w]?
theorem Named.perm {α : Type} {t : List Nat} {xs ys : List α} {n : Nat} (h : Named t xs ys) (ht : t.Perm (List.range n)) (hl : xs.length = n) : ys.Perm xs := by
  have htl : t.length = n := by rw [ht.length_eq, List.length_range]
  cases n with
  | zero =>
    have : xs = [] := List.eq_nil_of_length_eq_zero hl
    have h2 : ys = [] := List.eq_nil_of_length_eq_zero (by rw [h.len, hl])
    rw [this, h2]
  | succ m =>
    obtain ⟨d, hd⟩ := get_some (show 0 < ys.length by rw [h.len, hl]; omega)
    have e1 : t.map (fun x => ys.getD x d) = xs := by
      apply ext_of
      intro w
      by_cases hw : w < m + 1
      · obtain ⟨x, hx⟩ := get_some (show w < t.length by omega)
        have hy := h.at_ w x hx
        obtain ⟨a, ha⟩ := get_some (show w < xs.length by omega)
        rw [List.getElem?_map, hx, ha]
        show some (ys.getD x d) = _
        rw [List.getD_eq_getElem?_getD, hy, ha]
        rfl
      · rw [List.getElem?_eq_none (by simp; omega), List.getElem?_eq_none (by omega)]
    have e2 : (List.range (m + 1)).map (fun x => ys.getD x d) = ys := by
      apply ext_of
      intro x
      by_cases hx : x < m + 1
      · obtain ⟨a, ha⟩ := get_some (show x < ys.length by rw [h.len, hl]; omega)
        rw [List.getElem?_map, List.getElem?_range hx, ha]
        show some (ys.getD x d) = _
        rw [List.getD_eq_getElem?_getD, ha]
        rfl
      · rw [List.getElem?_eq_none (by simp; omega), List.getElem?_eq_none (by rw [h.len]; omega)]
    rw [← e1]
    conv => lhs; rw [← e2]
    exact (ht.map _).symm
theorem Named.stt {n : Nat} {t ss ss' : List Nat} {ps ps' : List Int} (a : Named t ss ss') (b : Named t ps ps') (ht : t.Perm (List.range n)) (h : Stt n ss ps) : Stt n ss' ps' :=
  ⟨(a.perm ht h.slen).trans h.perm, by rw [b.len]; exact h.len, fun p hp => h.nn p ((b.perm ht h.len).mem_iff.mp hp)⟩
theorem Named.res {n : Nat} {t ss ss' : List Nat} {ps ps' : List Int} (a : Named t ss ss') (b : Named t ps ps') (ht : t.Perm (List.range n)) (h : Stt n ss ps) : Named t (resI ss ps) (resI ss' ps') := by
  have h' := a.stt b ht h
  have htl : t.length = n := by rw [ht.length_eq, List.length_range]
  refine ⟨by rw [resI_len, resI_len, a.len, b.len], fun w x hx => ?_⟩
  have hw := lt_of_getL hx
  obtain ⟨c, hc⟩ := get_some (show w < ss.length by rw [h.slen]; omega)
  obtain ⟨p, hp⟩ := get_some (show w < ps.length by rw [h.len]; omega)
  rw [resI_get hc hp, resI_get ((a.at_ w x hx).trans hc) ((b.at_ w x hx).trans hp), a.len]
theorem Named.uniq {α : Type} {t : List Nat} {xs ys zs : List α} {n : Nat} (h : Named t xs ys) (k : Named t xs zs) (ht : t.Perm (List.range n)) (hl : xs.length = n) : ys = zs := by
  apply ext_of
  intro x
  by_cases hx : x < n
  · obtain ⟨w, hw⟩ := List.getElem?_of_mem (ht.mem_iff.mpr (List.mem_range.mpr hx))
    rw [h.at_ w x hw, k.at_ w x hw]
  · rw [List.getElem?_eq_none (by rw [h.len]; omega), List.getElem?_eq_none (by rw [k.len]; omega)]
theorem many_congr {rs rs' : List Int} {K : Int} (h : rs'.Perm rs) : C.manyI rs' K = C.manyI rs K := by
  unfold C.manyI upI
  rw [perm_sum h, h.length_eq, sortI_congr h]
theorem Named.pF {t : List Nat} {ps ps' : List Int} (b : Named t ps ps') {w x : Nat} (h : t[w]? = some x) : pF ps' x = pF ps w := by
  unfold DL.pF
  rw [List.getD_eq_getElem?_getD, List.getD_eq_getElem?_getD, b.at_ w x h]
theorem Named.sF {t ss ss' : List Nat} (b : Named t ss ss') {w x : Nat} (h : t[w]? = some x) : sF ss' x = sF ss w := by
  unfold DL.sF
  rw [List.getD_eq_getElem?_getD, List.getD_eq_getElem?_getD, b.at_ w x h]
theorem cross_symm {n : Nat} {ss tt : List Nat} {ps qs : List Int} (h : Stt n ss ps) (k : Stt n tt qs) (h0 : 0 < n) (L : Lot ss ps tt qs) {x y : Nat} (hx : x < n) (hy : y < n) : crossI n ss ps qs x y = crossI n ss ps qs y x := by
  by_cases hxy : x = y
  · rw [hxy]
  · rw [crossI_W h h0 L hx hy, crossI_W h h0 L hy hx, Wn_swap (h.pl h0) hx hy hxy, Wn_swap (k.pl h0) hx hy hxy]
    unfold absI
    split <;> split <;> omega
theorem dist_named {n : Nat} {t ss ss' tt tt' : List Nat} {ps ps' qs qs' : List Int} (ht : t.Perm (List.range n)) (h : Stt n ss ps) (k : Stt n tt qs) (h0 : 0 < n) (L : Lot ss ps tt qs) (L' : Lot ss' ps' tt' qs') (a : Named t ss ss') (b : Named t ps ps') (c : Named t tt tt') (d : Named t qs qs') : distI n ss' ps' qs' = distI n ss ps qs := by
  have h' := a.stt b ht h
  have k' := c.stt d ht k
  have htl : t.length = n := by rw [ht.length_eq, List.length_range]
  have f1 := full_sum (f := fun x y => crossI n ss ps qs x y) n fun x y hx hy => cross_symm h k h0 L hx hy
  have f2 := full_sum (f := fun x y => crossI n ss' ps' qs' x y) n fun x y hx hy => cross_symm h' k' h0 L' hx hy
  have z : ∀ (s : List Nat) (p q : List Int) (x : Nat), crossI n s p q x x = 0 := fun s p q x => by
    unfold crossI
    rw [show sF s x + (DL.pF p x - DL.pF q x) - (sF s x + (DL.pF p x - DL.pF q x)) = 0 by omega, show sF s x - sF s x = 0 by omega]
    simp [absI]
  have z0 : ∀ (s : List Nat) (p q : List Int), (sumR n fun x => crossI n s p q x x) = 0 := fun s p q => by
    rw [sumR_congr (g := fun _ => 0) fun x _ => z s p q x]
    have := sum_const_range (f := fun _ => 0) (n := n) (c := 0) fun _ _ => rfl
    unfold sumR
    omega
  rw [z0] at f1 f2
  have key : ∀ w v, w < n → v < n → crossI n ss' ps' qs' (t.getD w 0) (t.getD v 0) = crossI n ss ps qs w v := fun w v hw hv => by
    obtain ⟨x, hx⟩ := get_some (show w < t.length by omega)
    obtain ⟨y, hy⟩ := get_some (show v < t.length by omega)
    have e1 : t.getD w 0 = x := by rw [List.getD_eq_getElem?_getD, hx]; rfl
    have e2 : t.getD v 0 = y := by rw [List.getD_eq_getElem?_getD, hy]; rfl
    unfold crossI
    rw [e1, e2, a.sF hx, a.sF hy, b.pF hx, b.pF hy, d.pF hx, d.pF hy]
  have e : (sumR n fun x => sumR n fun y => crossI n ss' ps' qs' x y) = sumR n fun x => sumR n fun y => crossI n ss ps qs x y := by
    rw [← sumR_perm ht (fun x => sumR n fun y => crossI n ss' ps' qs' x y)]
    refine sumR_congr fun w hw => ?_
    rw [← sumR_perm ht (fun y => crossI n ss' ps' qs' (t.getD w 0) y)]
    exact sumR_congr fun v hv => key w v hw hv
  unfold distI
  omega
theorem Named.lot {n : Nat} {t ss ss' tt tt' : List Nat} {ps ps' qs qs' : List Int} (ht : t.Perm (List.range n)) (h : Stt n ss ps) (k : Stt n tt qs) (L : Lot ss ps tt qs) (a : Named t ss ss') (b : Named t ps ps') (c : Named t tt tt') (d : Named t qs qs') : Lot ss' ps' tt' qs' := by
  have r1 := a.res b ht h
  have r2 := c.res d ht k
  rw [← L.res] at r2
  refine ⟨r1.uniq r2 ht (by rw [resI_len, h.slen, h.len]; simp), ?_⟩
  rw [perm_sum (b.perm ht h.len), perm_sum (d.perm ht k.len), L.sum]
/-- seats with a coin, ascending -/
theorem mem_can {n : Nat} {ss : List Nat} {ps : List Int} (h : Stt n ss ps) {c : Nat} : c ∈ C.canL ss ps ↔ ∃ (j : Nat) (p : Int), ss[j]? = some c ∧ ps[j]? = some p ∧ 0 < p := by
  have hl := h.slen
  unfold C.canL
  rw [List.mem_filter, List.mem_range, hl]
  constructor
  · rintro ⟨hc, hp⟩
    obtain ⟨j, hj⟩ := h.onto hc
    have hb := C.back_at h hj
    unfold C.backL at hb
    rw [List.getElem?_map, hl, List.getElem?_range hc] at hb
    have hid : ss.idxOf c = j := by simpa using hb
    obtain ⟨p, hq, _⟩ := h.purse hj
    rw [hid, pF_at hq] at hp
    exact ⟨j, p, hj, hq, by simpa using hp⟩
  · rintro ⟨j, p, hj, hq, hp⟩
    have hc := h.lt hj
    have hb := C.back_at h hj
    unfold C.backL at hb
    rw [List.getElem?_map, hl, List.getElem?_range hc] at hb
    have hid : ss.idxOf c = j := by simpa using hb
    exact ⟨hc, by rw [hid, pF_at hq]; simpa using hp⟩
theorem can_asc (ss : List Nat) (ps : List Int) : (C.canL ss ps).Pairwise (· < ·) := by
  unfold C.canL
  exact (List.pairwise_lt_range).filter _
theorem asc_ext {l l' : List Nat} (h : l.Pairwise (· < ·)) (h' : l'.Pairwise (· < ·)) (e : ∀ c, c ∈ l ↔ c ∈ l') : l = l' := by
  induction l generalizing l' with
  | nil =>
    cases l' with
    | nil => rfl
    | cons b l' => exact absurd ((e b).mpr List.mem_cons_self) (by simp)
  | cons a l ih =>
    cases l' with
    | nil => exact absurd ((e a).mp List.mem_cons_self) (by simp)
    | cons b l' =>
      obtain ⟨h1, h2⟩ := List.pairwise_cons.mp h
      obtain ⟨k1, k2⟩ := List.pairwise_cons.mp h'
      have hab : a = b := by
        rcases List.mem_cons.mp ((e a).mp List.mem_cons_self) with x | x
        · exact x
        · rcases List.mem_cons.mp ((e b).mpr List.mem_cons_self) with y | y
          · exact y.symm
          · have := h1 b y
            have := k1 a x
            omega
      subst hab
      rw [ih h2 k2 fun c => ?_]
      constructor
      · intro hc
        rcases List.mem_cons.mp ((e c).mp (List.mem_cons_of_mem _ hc)) with x | x
        · subst x
          have := h1 c hc
          omega
        · exact x
      · intro hc
        rcases List.mem_cons.mp ((e c).mpr (List.mem_cons_of_mem _ hc)) with x | x
        · subst x
          have := k1 c hc
          omega
        · exact x
theorem can_named {n : Nat} {t ss ss' : List Nat} {ps ps' : List Int} (ht : t.Perm (List.range n)) (h : Stt n ss ps) (a : Named t ss ss') (b : Named t ps ps') : C.canL ss' ps' = C.canL ss ps := by
  have h' := a.stt b ht h
  have htl : t.length = n := by rw [ht.length_eq, List.length_range]
  refine asc_ext (can_asc _ _) (can_asc _ _) fun c => ?_
  rw [mem_can h, mem_can h']
  constructor
  · rintro ⟨x, p, hx, hp, h0⟩
    have hxn : x < n := by have := lt_of_getL hx; rw [h'.slen] at this; exact this
    obtain ⟨w, hw⟩ := List.getElem?_of_mem (ht.mem_iff.mpr (List.mem_range.mpr hxn))
    exact ⟨w, p, by rw [← a.at_ w x hw]; exact hx, by rw [← b.at_ w x hw]; exact hp, h0⟩
  · rintro ⟨w, p, hw, hp, h0⟩
    have hwn := lt_of_getL hw
    rw [h.slen] at hwn
    obtain ⟨x, hx⟩ := get_some (show w < t.length by omega)
    exact ⟨x, p, by rw [a.at_ w x hx]; exact hw, by rw [b.at_ w x hx]; exact hp, h0⟩
theorem sorted_nats {l l' : List Nat} (h : l.Pairwise (· < ·)) (p : l'.Perm l) : sortI (castI l') = castI l := by
  refine asc_unique ((sortI_perm _).trans (p.map _)) (sortI_asc _) ?_
  unfold castI
  rw [List.pairwise_map]
  exact h.imp fun x => by omega
theorem can_push {n b : Nat} {ss : List Nat} {ps : List Int} (h : Stt n ss ps) (h0 : 0 < n) : ((C.canL ss ps).map fun c => (c + b) % n).Perm (C.canL (pushL n b ss) ps) := by
  have inj : ∀ x y, x < n → y < n → (x + b) % n = (y + b) % n → x = y := fun x y hx hy e => by
    have e2 : ((x : Int) + b) % n = ((y : Int) + b) % n := by exact_mod_cast e
    have e3 := Int.emod_eq_emod_iff_emod_sub_eq_zero.mp e2
    rw [show (x : Int) + b - (y + b) = x - y by omega] at e3
    have e4 := Int.emod_eq_emod_iff_emod_sub_eq_zero.mpr e3
    rw [Int.emod_eq_of_lt (by omega) (by omega), Int.emod_eq_of_lt (by omega) (by omega)] at e4
    omega
  have nd1 : ((C.canL ss ps).map fun c => (c + b) % n).Nodup := by
    rw [List.nodup_iff_pairwise_ne, List.pairwise_map]
    have hm : ∀ c ∈ C.canL ss ps, c < n := fun c hc => by
      obtain ⟨j, _, hj, _⟩ := (mem_can h).mp hc
      exact h.lt hj
    have hp := can_asc ss ps
    generalize C.canL ss ps = l at *
    induction l with
    | nil => exact List.Pairwise.nil
    | cons a l ih =>
      obtain ⟨h1, h2⟩ := List.pairwise_cons.mp hp
      refine List.Pairwise.cons (fun x hx e => ?_) (ih (fun c hc => hm c (List.mem_cons_of_mem _ hc)) h2)
      have := inj a x (hm a List.mem_cons_self) (hm x (List.mem_cons_of_mem _ hx)) e
      have := h1 x hx
      omega
  have nd2 : (C.canL (pushL n b ss) ps).Nodup := by
    rw [List.nodup_iff_pairwise_ne]
    exact (can_asc _ _).imp fun x e => by omega
  refine (List.perm_ext_iff_of_nodup nd1 nd2).mpr fun c => ?_
  rw [mem_can h.push, List.mem_map]
  constructor
  · rintro ⟨d, hd, rfl⟩
    obtain ⟨j, p, hj, hp, h0⟩ := (mem_can h).mp hd
    exact ⟨j, p, by unfold pushL; rw [List.getElem?_map, hj]; rfl, hp, h0⟩
  · rintro ⟨j, p, hj, hp, h0⟩
    unfold pushL at hj
    rw [List.getElem?_map] at hj
    obtain ⟨d, hd, rfl⟩ := Option.map_eq_some_iff.mp hj
    exact ⟨d, (mem_can h).mpr ⟨j, p, hd, hp, h0⟩, rfl⟩
theorem Ex.push {n b c : Nat} {ss ss' : List Nat} {ps ps' : List Int} (x : Ex n ss ps c ss' ps') : Ex n (pushL n b ss) ps ((c + b) % n) (pushL n b ss') ps' := by
  obtain ⟨j, k, p, q, hj, hk, hp, hp0, hq, rfl, rfl⟩ := x.ex
  have e : ((c + 1) % n + b) % n = ((c + b) % n + 1) % n := by
    rw [Nat.mod_add_mod, Nat.mod_add_mod]
    congr 1
    omega
  refine ⟨j, k, p, q, ?_, ?_, hp, hp0, hq, ?_, rfl⟩
  · unfold pushL; rw [List.getElem?_map, hj]; rfl
  · unfold pushL; rw [List.getElem?_map, hk, ← e]; rfl
  · unfold pushL
    rw [List.map_set, List.map_set, e]
end DL

namespace DL
open PySem PySem.Spec L2 PyProof.Rows PySem.W
/-! ### max of a tuple of whole numbers; a module's number -/
def maxI (n : Int) (ns : List Int) : Int := ns.foldl (fun a b => if a < b then b else a) n
theorem maxI_le : ∀ (ns : List Int) (n : Int), n ≤ maxI n ns ∧ ∀ x ∈ ns, x ≤ maxI n ns
  | [], n => ⟨Int.le_refl _, fun x hx => by cases hx⟩
  | a :: ns, n => by
    obtain ⟨h1, h2⟩ := maxI_le ns (if n < a then a else n)
    have e : maxI n (a :: ns) = maxI (if n < a then a else n) ns := rfl
    rw [e]
    have : n ≤ (if n < a then a else n) ∧ a ≤ (if n < a then a else n) := by split <;> omega
    refine ⟨by omega, fun x hx => ?_⟩
    rcases List.mem_cons.mp hx with rfl | hx
    · omega
    · exact h2 x hx
theorem maxI_mem : ∀ (ns : List Int) (n : Int), maxI n ns = n ∨ maxI n ns ∈ ns
  | [], n => .inl rfl
  | a :: ns, n => by
    have e : maxI n (a :: ns) = maxI (if n < a then a else n) ns := rfl
    rw [e]
    rcases maxI_mem ns (if n < a then a else n) with h | h
    · rw [h]
      split
      · exact .inr List.mem_cons_self
      · exact .inl rfl
    · exact .inr (List.mem_cons_of_mem _ h)
theorem maxD_int : ∀ (ns : List Int) (n : Int), maxD (.int n) (ns.map PyData.int) = .int (maxI n ns)
  | [], n => rfl
  | a :: ns, n => by
    have e : maxI n (a :: ns) = maxI (if n < a then a else n) ns := rfl
    rw [e, ← maxD_int ns]
    show maxD (if dataLt (.int n) (.int a) then PyData.int a else .int n) (ns.map PyData.int) = _
    have : dataLt (.int n) (.int a) = decide (n < a) := dataLt_int n a
    rw [this]
    by_cases h : n < a <;> simp [h]
section
variable {X : Cx} {W : WX}
def maxTV : List Vl → Mem → Res Vl
  | [.d (.tuple xs)], M => match intsOf xs with
    | some (n :: ns) => .ok (.d (.int (maxI n ns))) M
    | _ => .st
  | xs, M => maxV xs M
theorem reads_of_ints {h : Heap} : ∀ {ns : List Int} {us : List Value}, Vals (ns.map V.int) us → ReadsAll h us (ns.map PyData.int) []
  | [], _, .nil => .nil
  | n :: ns, _, .cons r t => by
    obtain ⟨k, rfl⟩ := r
    exact .cons (.int _ _) (reads_of_ints t)
theorem cd_maxT (hc : X.calm = true) (hu : X.A.units + 64 < cLine) : CallD X (.builtin "max") maxTV := by
  rintro pins s σ H vs us Q I rv ⟨w, M, xs, r, rx, p⟩
  unfold maxTV at p
  split at p
  · split at p
    · rename_i n ns hq
      obtain ⟨v, rfl, hv⟩ := rvs1 rx
      obtain ⟨q, ws, rfl, hs, d⟩ := tup_at r hv (show tupOf _ = some _ from rfl)
      have e := ints_at d hq
      subst e
      have eu := rv.ref1
      subst eu
      obtain ⟨its, rt, ht, _⟩ := I.tuple hs
      refine max_tuple_data (x := .int n) (xs := ns.map PyData.int) (I.ok.hd hc) (show s.heap.IsTuple q its.toArray from ht) (as := []) (by have := reads_of_ints (h := s.heap) rt; simpa using this) ⟨fun x hx y hy => ?_, fun x hx => ?_⟩ ?_ fun i v h' tk bs hi hr k => ?_
      · have hx : ∃ a, x = .int a := by
          rcases List.mem_cons.mp hx with rfl | hx
          · exact ⟨_, rfl⟩
          · obtain ⟨a, _, rfl⟩ := List.mem_map.mp hx; exact ⟨_, rfl⟩
        have hy : ∃ a, y = .int a := by
          rcases List.mem_cons.mp hy with rfl | hy
          · exact ⟨_, rfl⟩
          · obtain ⟨a, _, rfl⟩ := List.mem_map.mp hy; exact ⟨_, rfl⟩
        obtain ⟨a, rfl⟩ := hx
        obtain ⟨b, rfl⟩ := hy
        rfl
      · rcases List.mem_cons.mp hx with rfl | hx
        · exact fun z => by cases z
        · obtain ⟨a, _, rfl⟩ := List.mem_map.mp hx
          exact fun z => by cases z
      · have : PyData.depthAll (PyData.int n :: ns.map PyData.int) = 0 := depth_leaves _ fun x hx => by
          rcases List.mem_cons.mp hx with rfl | hx
          · rfl
          · obtain ⟨a, _, rfl⟩ := List.mem_map.mp hx; rfl
        omega
      · rw [maxD_int] at hr
        obtain ⟨t, rfl, -⟩ := reads_int_inv hr
        exact ⟨.int _, H, I.kept (t' := tk) k, ⟨t, rfl⟩, p.at r (.int _)⟩
    · exact p.elim
  · exact cd_max2 hc pins s σ H vs us Q I rv ⟨w, M, xs, r, rx, p⟩
theorem de_gint {x : Str} {i : Int} {pos : Pos} (hg : Gl X x) (hm : ∃ t, X.mg x = some (.int i t)) (hd : (x == ("__debug__" : Str)) = false := by decide) : DE X W (.Name x pos) (cst (.d (.int i))) := by
  obtain ⟨t, hm⟩ := hm
  exact de_c (pe_glob (v := .int i) hg hm ⟨t, rfl⟩ hd) fun _ => .int i
end
end DL

namespace DL
open PySem PySem.Spec L2
/-! ### rows, and the exchange that comes nearer -/
namespace C
def g_as_tuples : Sv := (seqS (asgS (getV 0) (seqT 2 (consT (setT 1) (consT (setT 2) nilT)))) (retS (tupE (consA (callE tupleV (consA (getV 1) nilA)) (consA (callE tupleV (consA (getV 2) nilA)) nilA)))))
def m_as_tuples : Fn := defM 3 0 g_as_tuples
def g_run : Sv := (seqS (setS 2 (callF 1 C.m_as_tuples (consA (getV 0) nilA))) (seqS (forS (seqI (getV 1)) (setT 3) (setS 2 (callF 2 C.m_exchanged (consA (getV 2) (consA (getV 3) nilA))))) (retS (getV 2))))
def m_run : Fn := defM 4 0 g_run
def g_nearer : Sv := (seqS (setS 2 (callF 2 C.m_shifts (consA (getV 0) (consA (getV 1) nilA)))) (seqS (setS 3 (callE maxTV (consA (getV 2) nilA))) (seqS (setS 4 (callF 1 C.m_sitting (consA (getV 0) nilA))) (seqS (forS (enumI (getV 4)) (tupT 2 (consT (setT 5) (consT (setT 6) nilT))) (seqS (setS 7 (op2 ixV (getV 4) (op2 modV (op2 addV (getV 5) (cst (.d (.int 1)))) (callE lenV (consA (getV 4) nilA))))) (ifS (andT (opT eqV (op2 ixV (getV 2) (getV 6)) (getV 3)) (opT ltV (op2 ixV (getV 2) (getV 7)) (getV 3))) (retS (getV 5)) nopS))) (retS (cst (.d .none)))))))
def m_nearer : Fn := defM 8 0 g_nearer
def g_plan : Sv := (seqS (setS 2 (callF 2 C.m_distance (consA (getV 0) (consA (getV 1) nilA)))) (seqS (ifS (opT gtV (getV 2) (cst (.d (.int 1000)))) (fun _ _ => .st) nopS) (seqS (setS 3 (getV 0)) (seqS (setS 4 (newE (dispE nilA))) (seqS (forS (rngI1 (getV 2)) (setT 5) (seqS (setS 6 (callF 2 C.m_nearer (consA (getV 3) (consA (getV 1) nilA)))) (seqS (dropS (methE appM (getV 4) (consA (getV 6) nilA))) (setS 3 (callF 2 C.m_exchanged (consA (getV 3) (consA (getV 6) nilA))))))) (seqS (freeze 4) (retS (getV 4))))))))
def m_plan : Fn := defM 7 0 g_plan
end C
theorem Run.last {n : Nat} {ss ss' l : List Nat} {ps ps' : List Int} {c : Nat} (R : Run n ss ps (l ++ [c]) ss' ps') : ∃ s1 p1, Run n ss ps l s1 p1 ∧ Ex n s1 p1 c ss' ps' := by
  generalize h : l ++ [c] = m at R
  cases R with
  | nil => simp at h
  | snoc r x =>
    obtain ⟨h1, h2⟩ := List.append_inj' h rfl
    cases h2
    subst h1
    exact ⟨_, _, r, x⟩
theorem Ex.det {n c : Nat} {ss s1 s2 : List Nat} {ps p1 p2 : List Int} (h : Stt n ss ps) (x : Ex n ss ps c s1 p1) (y : Ex n ss ps c s2 p2) : s1 = s2 ∧ p1 = p2 := by
  obtain ⟨j, k, p, q, a1, a2, a3, a4, a5, rfl, rfl⟩ := x.ex
  obtain ⟨j', k', p', q', b1, b2, b3, b4, b5, rfl, rfl⟩ := y.ex
  have hj := h.inj a1 b1
  have hk := h.inj a2 b2
  subst hj hk
  rw [a3] at b3; cases b3
  rw [a5] at b5; cases b5
  exact ⟨rfl, rfl⟩
theorem Run.det {n : Nat} {ss s1 cs : List Nat} {ps p1 : List Int} (h : Stt n ss ps) (h2 : 2 ≤ n) (R : Run n ss ps cs s1 p1) : ∀ {s2 : List Nat} {p2 : List Int}, Run n ss ps cs s2 p2 → s1 = s2 ∧ p1 = p2 := by
  induction R with
  | nil =>
    intro s2 p2 R'
    generalize hm : ([] : List Nat) = m at R'
    cases R' with
    | nil => exact ⟨rfl, rfl⟩
    | snoc _ _ => simp at hm
  | snoc r x ih =>
    intro s2 p2 R'
    obtain ⟨s3, p3, r', x'⟩ := R'.last
    obtain ⟨e1, e2⟩ := ih r'
    subst e1 e2
    exact x.det (r.ok h h2).1 x'
theorem Run.upto {n : Nat} {ss ss' cs : List Nat} {ps ps' : List Int} (R : Run n ss ps cs ss' ps') (j : Nat) : ∃ s p, Run n ss ps (cs.take j) s p := by
  induction R with
  | nil => exact ⟨ss, ps, by rw [List.take_nil]; exact .nil⟩
  | @snoc cs c s1 s2 p1 p2 r x ih =>
    by_cases hj : j ≤ cs.length
    · rw [List.take_append_of_le_length hj]
      exact ih
    · rw [List.take_of_length_le (by simp; omega)]
      exact ⟨_, _, r.snoc x⟩
namespace C
theorem as_tuples_ok {x : Vl} {ss : List Nat} {ps : List Int} {M : Mem} (hx : StV x ss ps) : m_as_tuples [x] M = .ok (.d (stD ss ps)) M := by
  obtain ⟨a, b, h0, h1, h2, h3⟩ := hx.two
  have e1 : tupleV [.d a] M = .ok (.d (.tuple (ss.map nD))) M := by rcases h1 with h | h <;> cases h <;> rfl
  have e2 : tupleV [.d b] M = .ok (.d (.tuple (intsD ps))) M := by rcases h2 with h | h <;> cases h <;> rfl
  unfold m_as_tuples g_as_tuples
  simp only [defM, startE, seqS_a, setS_a, bindS_ok, bindS_er, then_nx, then_rt, then_er, ifS_a, ifK_t, ifK_f, retS_a, dropS_a, asgS_a, asK_a, goG_ok, subT_a, nopS_a, getV_0, getV_s, cst_a, op2_a, o2a_ok, o2b_ok, opT_a, oTa_ok, oTb_ok, consA_a, cAa_ok, cAb_ok, nilA_a, callF_a, cFa_ok, callE_a, cEa_ok, newE_a, nwa_ok, datE_a, dta_ok, dispE_a, tupE_a, tpa_ok, asDs_a, datas, bind_ok, pur_ok, bool_b, leave_d, leave_nx, leave_er, ifE_a, ifa_t, ifa_f, notT_a, nta_ok, andT_a, ana_t, ana_f, orT_a, ora_t, ora_f, tstE_a, tsa_b, andE_a, aEa_t, aEa_f, orE_a, oEa_t, oEa_f, notE_a, nEa_ok, add_ii, sub_ii, gt_ii, lt_ii, ge_ii, le_ii, setT_a, consT_a, cTa_ok, nilT_a, tupT_a, seqT_t, seqT_l, forS_a, List.map_cons, List.map_nil, List.length_cons, List.length_nil, Nat.reduceAdd, Nat.reduceSub, Nat.zero_add, Nat.add_zero, List.replicate, List.cons_append, List.nil_append, List.append_nil, List.getElem?_cons_zero, List.getElem?_cons_succ, List.set_cons_zero, List.set_cons_succ, List.getElem?_nil, Option.map_some, Option.map_none, Option.bind_some, if_true, if_false, ite_true, ite_false, eq_self_iff_true, and_self, and_true, true_and, decide_true, decide_false, Bool.false_eq_true, Bool.not_true, Bool.not_false, sizeLine, Nat.reducePow, Nat.reduceLeDiff, Nat.zero_le, pow_7, pow_18, pow_40, h0, e1, e2]
  rw [take_all (by simp)]
theorem run_ok {n : Nat} {x y : Vl} {ss ss' cs : List Nat} {ps ps' : List Int} {M : Mem} (h : Stt n ss ps) (h2 : 2 ≤ n) (hn : n ≤ 1000) (hx : StV x ss ps) (hy : walkOf y = some (cs.map nD)) (R : Run n ss ps cs ss' ps') : m_run [x, y] M = .ok (.d (stD ss' ps')) M := by
  obtain ⟨e', M', el, s1, p1, v3, rfl, rfl, R1⟩ := forL_all (γ := setT 3) (g := setS 2 (callF 2 C.m_exchanged (consA (getV 2) (consA (getV 3) nilA))))
    (fun j e N => ∃ (s1 : List Nat) (p1 : List Int) (v3 : Option Vl), e = [some x, some y, some (.d (stD s1 p1)), v3] ∧ N = M ∧ Run n ss ps (cs.take j) s1 p1)
    (xs := cs.map nD) (e := [some x, some y, some (.d (stD ss ps)), none]) (M := M)
    (by
      rintro j z e N hz ⟨s1, p1, v3, rfl, rfl, R1⟩
      rw [List.getElem?_map] at hz
      obtain ⟨c, hc, rfl⟩ := Option.map_eq_some_iff.mp hz
      obtain ⟨s2, p2, R2⟩ := R.upto (j + 1)
      have ht : cs.take (j + 1) = cs.take j ++ [c] := by rw [List.take_succ, hc]; rfl
      have R2' := R2
      rw [ht] at R2'
      obtain ⟨s3, p3, R3, x3⟩ := R2'.last
      obtain ⟨e1, e2⟩ := R1.det h h2 R3
      subst e1 e2
      obtain ⟨h1, _⟩ := R1.ok h h2
      refine ⟨[some x, some y, some (.d (stD s1 p1)), some (.d (nD c))], N, [some x, some y, some (.d (stD s2 p2)), some (.d (nD c))], N, ?_, ?_, s2, p2, _, rfl, rfl, R2⟩
      · simp only [defM, startE, seqS_a, setS_a, bindS_ok, bindS_er, then_nx, then_rt, then_er, ifS_a, ifK_t, ifK_f, retS_a, dropS_a, asgS_a, asK_a, goG_ok, subT_a, nopS_a, getV_0, getV_s, cst_a, op2_a, o2a_ok, o2b_ok, opT_a, oTa_ok, oTb_ok, consA_a, cAa_ok, cAb_ok, nilA_a, callF_a, cFa_ok, callE_a, cEa_ok, newE_a, nwa_ok, datE_a, dta_ok, dispE_a, tupE_a, tpa_ok, asDs_a, datas, bind_ok, pur_ok, bool_b, leave_d, leave_nx, leave_er, ifE_a, ifa_t, ifa_f, notT_a, nta_ok, andT_a, ana_t, ana_f, orT_a, ora_t, ora_f, tstE_a, tsa_b, andE_a, aEa_t, aEa_f, orE_a, oEa_t, oEa_f, notE_a, nEa_ok, add_ii, sub_ii, gt_ii, lt_ii, ge_ii, le_ii, setT_a, consT_a, cTa_ok, nilT_a, tupT_a, seqT_t, seqT_l, forS_a, List.map_cons, List.map_nil, List.length_cons, List.length_nil, Nat.reduceAdd, Nat.reduceSub, Nat.zero_add, Nat.add_zero, List.replicate, List.cons_append, List.nil_append, List.append_nil, List.getElem?_cons_zero, List.getElem?_cons_succ, List.set_cons_zero, List.set_cons_succ, List.getElem?_nil, Option.map_some, Option.map_none, Option.bind_some, if_true, if_false, ite_true, ite_false, eq_self_iff_true, and_self, and_true, true_and, decide_true, decide_false, Bool.false_eq_true, Bool.not_true, Bool.not_false, sizeLine, Nat.reducePow, Nat.reduceLeDiff, Nat.zero_le, pow_7, pow_18, pow_40]
      · simp only [defM, startE, seqS_a, setS_a, bindS_ok, bindS_er, then_nx, then_rt, then_er, ifS_a, ifK_t, ifK_f, retS_a, dropS_a, asgS_a, asK_a, goG_ok, subT_a, nopS_a, getV_0, getV_s, cst_a, op2_a, o2a_ok, o2b_ok, opT_a, oTa_ok, oTb_ok, consA_a, cAa_ok, cAb_ok, nilA_a, callF_a, cFa_ok, callE_a, cEa_ok, newE_a, nwa_ok, datE_a, dta_ok, dispE_a, tupE_a, tpa_ok, asDs_a, datas, bind_ok, pur_ok, bool_b, leave_d, leave_nx, leave_er, ifE_a, ifa_t, ifa_f, notT_a, nta_ok, andT_a, ana_t, ana_f, orT_a, ora_t, ora_f, tstE_a, tsa_b, andE_a, aEa_t, aEa_f, orE_a, oEa_t, oEa_f, notE_a, nEa_ok, add_ii, sub_ii, gt_ii, lt_ii, ge_ii, le_ii, setT_a, consT_a, cTa_ok, nilT_a, tupT_a, seqT_t, seqT_l, forS_a, List.map_cons, List.map_nil, List.length_cons, List.length_nil, Nat.reduceAdd, Nat.reduceSub, Nat.zero_add, Nat.add_zero, List.replicate, List.cons_append, List.nil_append, List.append_nil, List.getElem?_cons_zero, List.getElem?_cons_succ, List.set_cons_zero, List.set_cons_succ, List.getElem?_nil, Option.map_some, Option.map_none, Option.bind_some, if_true, if_false, ite_true, ite_false, eq_self_iff_true, and_self, and_true, true_and, decide_true, decide_false, Bool.false_eq_true, Bool.not_true, Bool.not_false, sizeLine, Nat.reducePow, Nat.reduceLeDiff, Nat.zero_le, pow_7, pow_18, pow_40, exchanged_ok (M := N) h1 h2 hn (.inl rfl) x3])
    ⟨ss, ps, none, rfl, rfl, .nil⟩
  rw [List.length_map, List.take_of_length_le (Nat.le_refl _)] at R1
  obtain ⟨e1, e2⟩ := R1.det h h2 R
  subst e1 e2
  have hs : seqI (getV 1) [some x, some y, some (.d (stD ss ps)), none] M' = .ok (cs.map nD) M' := seqI_a (x := y) (by simp only [defM, startE, seqS_a, setS_a, bindS_ok, bindS_er, then_nx, then_rt, then_er, ifS_a, ifK_t, ifK_f, retS_a, dropS_a, asgS_a, asK_a, goG_ok, subT_a, nopS_a, getV_0, getV_s, cst_a, op2_a, o2a_ok, o2b_ok, opT_a, oTa_ok, oTb_ok, consA_a, cAa_ok, cAb_ok, nilA_a, callF_a, cFa_ok, callE_a, cEa_ok, newE_a, nwa_ok, datE_a, dta_ok, dispE_a, tupE_a, tpa_ok, asDs_a, datas, bind_ok, pur_ok, bool_b, leave_d, leave_nx, leave_er, ifE_a, ifa_t, ifa_f, notT_a, nta_ok, andT_a, ana_t, ana_f, orT_a, ora_t, ora_f, tstE_a, tsa_b, andE_a, aEa_t, aEa_f, orE_a, oEa_t, oEa_f, notE_a, nEa_ok, add_ii, sub_ii, gt_ii, lt_ii, ge_ii, le_ii, setT_a, consT_a, cTa_ok, nilT_a, tupT_a, seqT_t, seqT_l, forS_a, List.map_cons, List.map_nil, List.length_cons, List.length_nil, Nat.reduceAdd, Nat.reduceSub, Nat.zero_add, Nat.add_zero, List.replicate, List.cons_append, List.nil_append, List.append_nil, List.getElem?_cons_zero, List.getElem?_cons_succ, List.set_cons_zero, List.set_cons_succ, List.getElem?_nil, Option.map_some, Option.map_none, Option.bind_some, if_true, if_false, ite_true, ite_false, eq_self_iff_true, and_self, and_true, true_and, decide_true, decide_false, Bool.false_eq_true, Bool.not_true, Bool.not_false, sizeLine, Nat.reducePow, Nat.reduceLeDiff, Nat.zero_le, pow_7, pow_18, pow_40]) hy
  unfold m_run g_run
  simp only [defM, startE, seqS_a, setS_a, bindS_ok, bindS_er, then_nx, then_rt, then_er, ifS_a, ifK_t, ifK_f, retS_a, dropS_a, asgS_a, asK_a, goG_ok, subT_a, nopS_a, getV_0, getV_s, cst_a, op2_a, o2a_ok, o2b_ok, opT_a, oTa_ok, oTb_ok, consA_a, cAa_ok, cAb_ok, nilA_a, callF_a, cFa_ok, callE_a, cEa_ok, newE_a, nwa_ok, datE_a, dta_ok, dispE_a, tupE_a, tpa_ok, asDs_a, datas, bind_ok, pur_ok, bool_b, leave_d, leave_nx, leave_er, ifE_a, ifa_t, ifa_f, notT_a, nta_ok, andT_a, ana_t, ana_f, orT_a, ora_t, ora_f, tstE_a, tsa_b, andE_a, aEa_t, aEa_f, orE_a, oEa_t, oEa_f, notE_a, nEa_ok, add_ii, sub_ii, gt_ii, lt_ii, ge_ii, le_ii, setT_a, consT_a, cTa_ok, nilT_a, tupT_a, seqT_t, seqT_l, forS_a, List.map_cons, List.map_nil, List.length_cons, List.length_nil, Nat.reduceAdd, Nat.reduceSub, Nat.zero_add, Nat.add_zero, List.replicate, List.cons_append, List.nil_append, List.append_nil, List.getElem?_cons_zero, List.getElem?_cons_succ, List.set_cons_zero, List.set_cons_succ, List.getElem?_nil, Option.map_some, Option.map_none, Option.bind_some, if_true, if_false, ite_true, ite_false, eq_self_iff_true, and_self, and_true, true_and, decide_true, decide_false, Bool.false_eq_true, Bool.not_true, Bool.not_false, sizeLine, Nat.reducePow, Nat.reduceLeDiff, Nat.zero_le, pow_7, pow_18, pow_40, as_tuples_ok (M := M') hx, hs, el]
  rw [take_all (by simp)]
/-- the seat that nearer tells -/
def nearB (n : Nat) (ss : List Nat) (ps qs : List Int) (c : Nat) : Bool :=
  (pF (shiftL ps qs) (ss.idxOf c) == maxI ((shiftL ps qs).headD 0) (shiftL ps qs).tail) && decide (pF (shiftL ps qs) (ss.idxOf ((c + 1) % n)) < maxI ((shiftL ps qs).headD 0) (shiftL ps qs).tail)
def nearD (n : Nat) (ss : List Nat) (ps qs : List Int) : PyData := match (List.range n).find? (nearB n ss ps qs) with
  | some c => nD c
  | none => .none
theorem back_idx {n c j : Nat} {ss : List Nat} {ps : List Int} (h : Stt n ss ps) (hj : ss[j]? = some c) : ss.idxOf c = j := by
  have hb := back_at h hj
  have hc := h.lt hj
  unfold backL at hb
  rw [List.getElem?_map, h.slen, List.getElem?_range hc] at hb
  simpa using hb
theorem nearer_ok {n : Nat} {ss tt : List Nat} {ps qs : List Int} {M : Mem} (h : Stt n ss ps) (k : Stt n tt qs) (h2 : 2 ≤ n) (L : Lot ss ps tt qs) (hn : n ≤ 1000) : m_nearer [.d (stD ss ps), .d (stD tt qs)] M = .ok (.d (nearD n ss ps qs)) M := by
  have hl := h.slen
  have hsl : (shiftL ps qs).length = n := by rw [shift_len, h.len, k.len]; simp
  have hsh := shifts_ok (M := M) h k L hn
  have hmax : maxTV [.d (.tuple (intsD (shiftL ps qs)))] M = .ok (.d (.int (maxI ((shiftL ps qs).headD 0) (shiftL ps qs).tail))) M := by
    cases hs : shiftL ps qs with
    | nil => rw [hs] at hsl; simp at hsl; omega
    | cons a l =>
      show (match intsOf ((a :: l).map PyData.int) with
        | some (n :: ns) => _
        | _ => _) = _
      rw [intsOf_map]
      rfl
  have hnb : nearB n ss ps qs = fun c => (pF (shiftL ps qs) (ss.idxOf c) == maxI ((shiftL ps qs).headD 0) (shiftL ps qs).tail) && decide (pF (shiftL ps qs) (ss.idxOf ((c + 1) % n)) < maxI ((shiftL ps qs).headD 0) (shiftL ps qs).tail) := rfl
  unfold nearD
  generalize hmx : maxI ((shiftL ps qs).headD 0) (shiftL ps qs).tail = mx at *
  generalize hS : shiftL ps qs = S at *
  have hsit := sitting_ok (M := M) h hn (.inl rfl : StV (.d (stD ss ps)) ss ps)
  have hlen : lenV [.d (.tuple ((backL ss).map nD))] M = .ok (.d (.int (n : Nat))) M := by rw [len_t, List.length_map, backL_len, hl]
  have hen : enumI (getV 4) [some (.d (stD ss ps)), some (.d (stD tt qs)), some (.d (.tuple (intsD S))), some (.d (.int mx)), some (.d (.tuple ((backL ss).map nD))), none, none, none] M = .ok (numD ((backL ss).map nD)) M := C.enumI_a (x := .d (.tuple ((backL ss).map nD))) (by simp only [defM, startE, seqS_a, setS_a, bindS_ok, bindS_er, then_nx, then_rt, then_er, ifS_a, ifK_t, ifK_f, retS_a, dropS_a, asgS_a, asK_a, goG_ok, subT_a, nopS_a, getV_0, getV_s, cst_a, op2_a, o2a_ok, o2b_ok, opT_a, oTa_ok, oTb_ok, consA_a, cAa_ok, cAb_ok, nilA_a, callF_a, cFa_ok, callE_a, cEa_ok, newE_a, nwa_ok, datE_a, dta_ok, dispE_a, tupE_a, tpa_ok, asDs_a, datas, bind_ok, pur_ok, bool_b, leave_d, leave_nx, leave_er, ifE_a, ifa_t, ifa_f, notT_a, nta_ok, andT_a, ana_t, ana_f, orT_a, ora_t, ora_f, tstE_a, tsa_b, andE_a, aEa_t, aEa_f, orE_a, oEa_t, oEa_f, notE_a, nEa_ok, add_ii, sub_ii, gt_ii, lt_ii, ge_ii, le_ii, setT_a, consT_a, cTa_ok, nilT_a, tupT_a, seqT_t, seqT_l, forS_a, List.map_cons, List.map_nil, List.length_cons, List.length_nil, Nat.reduceAdd, Nat.reduceSub, Nat.zero_add, Nat.add_zero, List.replicate, List.cons_append, List.nil_append, List.append_nil, List.getElem?_cons_zero, List.getElem?_cons_succ, List.set_cons_zero, List.set_cons_succ, List.getElem?_nil, Option.map_some, Option.map_none, Option.bind_some, if_true, if_false, ite_true, ite_false, eq_self_iff_true, and_self, and_true, true_and, decide_true, decide_false, Bool.false_eq_true, Bool.not_true, Bool.not_false, sizeLine, Nat.reducePow, Nat.reduceLeDiff, Nat.zero_le, pow_7, pow_18, pow_40]) rfl (by simp [backL_len, hl]; omega)
  have key := forL_or (γ := tupT 2 (consT (setT 5) (consT (setT 6) nilT))) (g := (seqS (setS 7 (op2 ixV (getV 4) (op2 modV (op2 addV (getV 5) (cst (.d (.int 1)))) (callE lenV (consA (getV 4) nilA))))) (ifS (andT (opT eqV (op2 ixV (getV 2) (getV 6)) (getV 3)) (opT ltV (op2 ixV (getV 2) (getV 7)) (getV 3))) (retS (getV 5)) nopS)))
    (fun c e N => N = M ∧ (∀ d, d < c → nearB n ss ps qs d = false) ∧ ∃ v5 v6 v7 : Option Vl, e = [some (.d (stD ss ps)), some (.d (stD tt qs)), some (.d (.tuple (intsD S))), some (.d (.int mx)), some (.d (.tuple ((backL ss).map nD))), v5, v6, v7])
    (fun v e N => N = M ∧ ∃ c : Nat, v = .d (nD c) ∧ c < n ∧ nearB n ss ps qs c = true ∧ ∀ d, d < c → nearB n ss ps qs d = false)
    (numD ((backL ss).map nD)) 0 [some (.d (stD ss ps)), some (.d (stD tt qs)), some (.d (.tuple (intsD S))), some (.d (.int mx)), some (.d (.tuple ((backL ss).map nD))), none, none, none] M (Nat.zero_le _)
    (by
      rintro c z e N _ hz ⟨rfl, hd, v5, v6, v7, rfl⟩
      obtain ⟨d, hd', rfl⟩ := C.numD_get hz
      have hc : c < n := by
        have := lt_of_getL hd'
        simpa [backL_len, hl] using this
      obtain ⟨j, hj⟩ := h.onto hc
      have hdj : d = nD j := by
        rw [getN (back_at h hj)] at hd'
        exact (Option.some.inj hd').symm
      subst hdj
      obtain ⟨hne, hlt⟩ := next_ne h2 hc
      obtain ⟨b, hb⟩ := h.onto hlt
      have jn : j < n := by have := lt_of_getL hj; omega
      have bn : b < n := by have := lt_of_getL hb; omega
      obtain ⟨sj, hsj⟩ := get_some (show j < S.length by omega)
      obtain ⟨sb, hsb⟩ := get_some (show b < S.length by omega)
      have emod : ((c : Int) + 1) % (n : Nat) = (((c + 1) % n : Nat) : Int) := by simp
      have y1 : ixV (.d (.tuple ((backL ss).map nD))) (.d (.int (((c : Int) + 1) % (n : Nat)))) N = .ok (.d (nD b)) N := by rw [emod]; exact ixV_t (atI_some (getN (back_at h hb)))
      have y2 : ixV (.d (.tuple (intsD S))) (.d (nD j)) N = .ok (.d (.int sj)) N := ixV_t (atI_some (getI hsj))
      have y3 : ixV (.d (.tuple (intsD S))) (.d (nD b)) N = .ok (.d (.int sb)) N := ixV_t (atI_some (getI hsb))
      have hB : nearB n ss ps qs c = ((sj == mx) && decide (sb < mx)) := by
        rw [hnb]
        show ((pF S (ss.idxOf c) == mx) && decide (pF S (ss.idxOf ((c + 1) % n)) < mx)) = _
        rw [back_idx h hj, back_idx h hb, pF_at hsj, pF_at hsb]
      have E1 : tupT 2 (consT (setT 5) (consT (setT 6) nilT)) (.d (.tuple [.int (c : Nat), nD j])) [some (.d (stD ss ps)), some (.d (stD tt qs)), some (.d (.tuple (intsD S))), some (.d (.int mx)), some (.d (.tuple ((backL ss).map nD))), v5, v6, v7] N = .ok [some (.d (stD ss ps)), some (.d (stD tt qs)), some (.d (.tuple (intsD S))), some (.d (.int mx)), some (.d (.tuple ((backL ss).map nD))), some (.d (nD c)), some (.d (nD j)), v7] N := by simp only [defM, startE, seqS_a, setS_a, bindS_ok, bindS_er, then_nx, then_rt, then_er, ifS_a, ifK_t, ifK_f, retS_a, dropS_a, asgS_a, asK_a, goG_ok, subT_a, nopS_a, getV_0, getV_s, cst_a, op2_a, o2a_ok, o2b_ok, opT_a, oTa_ok, oTb_ok, consA_a, cAa_ok, cAb_ok, nilA_a, callF_a, cFa_ok, callE_a, cEa_ok, newE_a, nwa_ok, datE_a, dta_ok, dispE_a, tupE_a, tpa_ok, asDs_a, datas, bind_ok, pur_ok, bool_b, leave_d, leave_nx, leave_er, ifE_a, ifa_t, ifa_f, notT_a, nta_ok, andT_a, ana_t, ana_f, orT_a, ora_t, ora_f, tstE_a, tsa_b, andE_a, aEa_t, aEa_f, orE_a, oEa_t, oEa_f, notE_a, nEa_ok, add_ii, sub_ii, gt_ii, lt_ii, ge_ii, le_ii, setT_a, consT_a, cTa_ok, nilT_a, tupT_a, seqT_t, seqT_l, forS_a, List.map_cons, List.map_nil, List.length_cons, List.length_nil, Nat.reduceAdd, Nat.reduceSub, Nat.zero_add, Nat.add_zero, List.replicate, List.cons_append, List.nil_append, List.append_nil, List.getElem?_cons_zero, List.getElem?_cons_succ, List.set_cons_zero, List.set_cons_succ, List.getElem?_nil, Option.map_some, Option.map_none, Option.bind_some, if_true, if_false, ite_true, ite_false, eq_self_iff_true, and_self, and_true, true_and, decide_true, decide_false, Bool.false_eq_true, Bool.not_true, Bool.not_false, sizeLine, Nat.reducePow, Nat.reduceLeDiff, Nat.zero_le, pow_7, pow_18, pow_40]
      by_cases h1 : sj = mx
      · by_cases h3 : sb < mx
        · refine .inr ⟨_, N, .d (nD c), [some (.d (stD ss ps)), some (.d (stD tt qs)), some (.d (.tuple (intsD S))), some (.d (.int mx)), some (.d (.tuple ((backL ss).map nD))), some (.d (nD c)), some (.d (nD j)), some (.d (nD b))], N, E1, ?_, rfl, c, rfl, hc, by rw [hB]; simp [h1, h3], hd⟩
          have hb1 : (sj == mx) = true := by simp [h1]
          simp only [defM, startE, seqS_a, setS_a, bindS_ok, bindS_er, then_nx, then_rt, then_er, ifS_a, ifK_t, ifK_f, retS_a, dropS_a, asgS_a, asK_a, goG_ok, subT_a, nopS_a, getV_0, getV_s, cst_a, op2_a, o2a_ok, o2b_ok, opT_a, oTa_ok, oTb_ok, consA_a, cAa_ok, cAb_ok, nilA_a, callF_a, cFa_ok, callE_a, cEa_ok, newE_a, nwa_ok, datE_a, dta_ok, dispE_a, tupE_a, tpa_ok, asDs_a, datas, bind_ok, pur_ok, bool_b, leave_d, leave_nx, leave_er, ifE_a, ifa_t, ifa_f, notT_a, nta_ok, andT_a, ana_t, ana_f, orT_a, ora_t, ora_f, tstE_a, tsa_b, andE_a, aEa_t, aEa_f, orE_a, oEa_t, oEa_f, notE_a, nEa_ok, add_ii, sub_ii, gt_ii, lt_ii, ge_ii, le_ii, setT_a, consT_a, cTa_ok, nilT_a, tupT_a, seqT_t, seqT_l, forS_a, List.map_cons, List.map_nil, List.length_cons, List.length_nil, Nat.reduceAdd, Nat.reduceSub, Nat.zero_add, Nat.add_zero, List.replicate, List.cons_append, List.nil_append, List.append_nil, List.getElem?_cons_zero, List.getElem?_cons_succ, List.set_cons_zero, List.set_cons_succ, List.getElem?_nil, Option.map_some, Option.map_none, Option.bind_some, if_true, if_false, ite_true, ite_false, eq_self_iff_true, and_self, and_true, true_and, decide_true, decide_false, Bool.false_eq_true, Bool.not_true, Bool.not_false, sizeLine, Nat.reducePow, Nat.reduceLeDiff, Nat.zero_le, pow_7, pow_18, pow_40, hlen, mod_ii (show (0 : Int) < (n : Nat) by omega), y1, y2, y3, eq_ii, hb1, h3]
        · refine .inl ⟨_, N, [some (.d (stD ss ps)), some (.d (stD tt qs)), some (.d (.tuple (intsD S))), some (.d (.int mx)), some (.d (.tuple ((backL ss).map nD))), some (.d (nD c)), some (.d (nD j)), some (.d (nD b))], N, E1, ?_, rfl, fun d hdc => ?_, _, _, _, rfl⟩
          · have hb1 : (sj == mx) = true := by simp [h1]
            simp only [defM, startE, seqS_a, setS_a, bindS_ok, bindS_er, then_nx, then_rt, then_er, ifS_a, ifK_t, ifK_f, retS_a, dropS_a, asgS_a, asK_a, goG_ok, subT_a, nopS_a, getV_0, getV_s, cst_a, op2_a, o2a_ok, o2b_ok, opT_a, oTa_ok, oTb_ok, consA_a, cAa_ok, cAb_ok, nilA_a, callF_a, cFa_ok, callE_a, cEa_ok, newE_a, nwa_ok, datE_a, dta_ok, dispE_a, tupE_a, tpa_ok, asDs_a, datas, bind_ok, pur_ok, bool_b, leave_d, leave_nx, leave_er, ifE_a, ifa_t, ifa_f, notT_a, nta_ok, andT_a, ana_t, ana_f, orT_a, ora_t, ora_f, tstE_a, tsa_b, andE_a, aEa_t, aEa_f, orE_a, oEa_t, oEa_f, notE_a, nEa_ok, add_ii, sub_ii, gt_ii, lt_ii, ge_ii, le_ii, setT_a, consT_a, cTa_ok, nilT_a, tupT_a, seqT_t, seqT_l, forS_a, List.map_cons, List.map_nil, List.length_cons, List.length_nil, Nat.reduceAdd, Nat.reduceSub, Nat.zero_add, Nat.add_zero, List.replicate, List.cons_append, List.nil_append, List.append_nil, List.getElem?_cons_zero, List.getElem?_cons_succ, List.set_cons_zero, List.set_cons_succ, List.getElem?_nil, Option.map_some, Option.map_none, Option.bind_some, if_true, if_false, ite_true, ite_false, eq_self_iff_true, and_self, and_true, true_and, decide_true, decide_false, Bool.false_eq_true, Bool.not_true, Bool.not_false, sizeLine, Nat.reducePow, Nat.reduceLeDiff, Nat.zero_le, pow_7, pow_18, pow_40, hlen, mod_ii (show (0 : Int) < (n : Nat) by omega), y1, y2, y3, eq_ii, hb1, h3]
          · by_cases hdc' : d = c
            · subst hdc'; rw [hB]; simp [h3]
            · exact hd d (by omega)
      · refine .inl ⟨_, N, [some (.d (stD ss ps)), some (.d (stD tt qs)), some (.d (.tuple (intsD S))), some (.d (.int mx)), some (.d (.tuple ((backL ss).map nD))), some (.d (nD c)), some (.d (nD j)), some (.d (nD b))], N, E1, ?_, rfl, fun d hdc => ?_, _, _, _, rfl⟩
        · have hb1 : (sj == mx) = false := by simp [h1]
          simp only [defM, startE, seqS_a, setS_a, bindS_ok, bindS_er, then_nx, then_rt, then_er, ifS_a, ifK_t, ifK_f, retS_a, dropS_a, asgS_a, asK_a, goG_ok, subT_a, nopS_a, getV_0, getV_s, cst_a, op2_a, o2a_ok, o2b_ok, opT_a, oTa_ok, oTb_ok, consA_a, cAa_ok, cAb_ok, nilA_a, callF_a, cFa_ok, callE_a, cEa_ok, newE_a, nwa_ok, datE_a, dta_ok, dispE_a, tupE_a, tpa_ok, asDs_a, datas, bind_ok, pur_ok, bool_b, leave_d, leave_nx, leave_er, ifE_a, ifa_t, ifa_f, notT_a, nta_ok, andT_a, ana_t, ana_f, orT_a, ora_t, ora_f, tstE_a, tsa_b, andE_a, aEa_t, aEa_f, orE_a, oEa_t, oEa_f, notE_a, nEa_ok, add_ii, sub_ii, gt_ii, lt_ii, ge_ii, le_ii, setT_a, consT_a, cTa_ok, nilT_a, tupT_a, seqT_t, seqT_l, forS_a, List.map_cons, List.map_nil, List.length_cons, List.length_nil, Nat.reduceAdd, Nat.reduceSub, Nat.zero_add, Nat.add_zero, List.replicate, List.cons_append, List.nil_append, List.append_nil, List.getElem?_cons_zero, List.getElem?_cons_succ, List.set_cons_zero, List.set_cons_succ, List.getElem?_nil, Option.map_some, Option.map_none, Option.bind_some, if_true, if_false, ite_true, ite_false, eq_self_iff_true, and_self, and_true, true_and, decide_true, decide_false, Bool.false_eq_true, Bool.not_true, Bool.not_false, sizeLine, Nat.reducePow, Nat.reduceLeDiff, Nat.zero_le, pow_7, pow_18, pow_40, hlen, mod_ii (show (0 : Int) < (n : Nat) by omega), y1, y2, y3, eq_ii, hb1]
        · by_cases hdc' : d = c
          · subst hdc'; rw [hB]; simp [h1]
          · exact hd d (by omega))
    ⟨rfl, fun d hd => by omega, none, none, none, rfl⟩
  rw [List.drop_zero] at key
  have hnl : (numD ((backL ss).map nD)).length = n := by rw [numD_len, List.length_map, backL_len, hl]
  rcases key with ⟨e', M', el, rfl, hd, v5, v6, v7, rfl⟩ | ⟨v, e', M', el, rfl, c, rfl, hc, hB, hd⟩
  · rw [hnl] at hd
    have hnone : (List.range n).find? (nearB n ss ps qs) = none := by
      rw [List.find?_eq_none]
      intro c hc
      rw [hd c (List.mem_range.mp hc)]
      simp
    rw [hnone]
    unfold m_nearer g_nearer
    simp only [defM, startE, seqS_a, setS_a, bindS_ok, bindS_er, then_nx, then_rt, then_er, ifS_a, ifK_t, ifK_f, retS_a, dropS_a, asgS_a, asK_a, goG_ok, subT_a, nopS_a, getV_0, getV_s, cst_a, op2_a, o2a_ok, o2b_ok, opT_a, oTa_ok, oTb_ok, consA_a, cAa_ok, cAb_ok, nilA_a, callF_a, cFa_ok, callE_a, cEa_ok, newE_a, nwa_ok, datE_a, dta_ok, dispE_a, tupE_a, tpa_ok, asDs_a, datas, bind_ok, pur_ok, bool_b, leave_d, leave_nx, leave_er, ifE_a, ifa_t, ifa_f, notT_a, nta_ok, andT_a, ana_t, ana_f, orT_a, ora_t, ora_f, tstE_a, tsa_b, andE_a, aEa_t, aEa_f, orE_a, oEa_t, oEa_f, notE_a, nEa_ok, add_ii, sub_ii, gt_ii, lt_ii, ge_ii, le_ii, setT_a, consT_a, cTa_ok, nilT_a, tupT_a, seqT_t, seqT_l, forS_a, List.map_cons, List.map_nil, List.length_cons, List.length_nil, Nat.reduceAdd, Nat.reduceSub, Nat.zero_add, Nat.add_zero, List.replicate, List.cons_append, List.nil_append, List.append_nil, List.getElem?_cons_zero, List.getElem?_cons_succ, List.set_cons_zero, List.set_cons_succ, List.getElem?_nil, Option.map_some, Option.map_none, Option.bind_some, if_true, if_false, ite_true, ite_false, eq_self_iff_true, and_self, and_true, true_and, decide_true, decide_false, Bool.false_eq_true, Bool.not_true, Bool.not_false, sizeLine, Nat.reducePow, Nat.reduceLeDiff, Nat.zero_le, pow_7, pow_18, pow_40, hsh, hmax, hsit, hen, el]
    rw [take_all (by simp)]
  · have hsome : (List.range n).find? (nearB n ss ps qs) = some c := by
      rw [List.find?_range_eq_some]
      exact ⟨hB, List.mem_range.mpr hc, fun d hdc => by rw [hd d hdc]; rfl⟩
    rw [hsome]
    unfold m_nearer g_nearer
    simp only [defM, startE, seqS_a, setS_a, bindS_ok, bindS_er, then_nx, then_rt, then_er, ifS_a, ifK_t, ifK_f, retS_a, dropS_a, asgS_a, asK_a, goG_ok, subT_a, nopS_a, getV_0, getV_s, cst_a, op2_a, o2a_ok, o2b_ok, opT_a, oTa_ok, oTb_ok, consA_a, cAa_ok, cAb_ok, nilA_a, callF_a, cFa_ok, callE_a, cEa_ok, newE_a, nwa_ok, datE_a, dta_ok, dispE_a, tupE_a, tpa_ok, asDs_a, datas, bind_ok, pur_ok, bool_b, leave_d, leave_nx, leave_er, ifE_a, ifa_t, ifa_f, notT_a, nta_ok, andT_a, ana_t, ana_f, orT_a, ora_t, ora_f, tstE_a, tsa_b, andE_a, aEa_t, aEa_f, orE_a, oEa_t, oEa_f, notE_a, nEa_ok, add_ii, sub_ii, gt_ii, lt_ii, ge_ii, le_ii, setT_a, consT_a, cTa_ok, nilT_a, tupT_a, seqT_t, seqT_l, forS_a, List.map_cons, List.map_nil, List.length_cons, List.length_nil, Nat.reduceAdd, Nat.reduceSub, Nat.zero_add, Nat.add_zero, List.replicate, List.cons_append, List.nil_append, List.append_nil, List.getElem?_cons_zero, List.getElem?_cons_succ, List.set_cons_zero, List.set_cons_succ, List.getElem?_nil, Option.map_some, Option.map_none, Option.bind_some, if_true, if_false, ite_true, ite_false, eq_self_iff_true, and_self, and_true, true_and, decide_true, decide_false, Bool.false_eq_true, Bool.not_true, Bool.not_false, sizeLine, Nat.reducePow, Nat.reduceLeDiff, Nat.zero_le, pow_7, pow_18, pow_40, hsh, hmax, hsit, hen, el]
    rw [take_all (by simp)]
end C
end DL

namespace DL
open PySem PySem.Spec L2
/-! ### a shortest row -/
theorem shift_q {n : Nat} {ss tt : List Nat} {ps qs : List Int} (h : Stt n ss ps) (k : Stt n tt qs) (L : Lot ss ps tt qs) {x : Nat} (hx : x < n) : qF tt qs x - qF ss ps x = pF (C.shiftL ps qs) x := by
  obtain ⟨p, hp⟩ := get_some (show x < ps.length by rw [h.len]; exact hx)
  obtain ⟨q, hq⟩ := get_some (show x < qs.length by rw [k.len]; exact hx)
  rw [pF_at (shift_at hp hq)]
  unfold qF
  rw [L.res, pF_at hp, pF_at hq]
  omega
theorem max_of {S : List Int} (h : 0 < S.length) : (∀ x, x < S.length → pF S x ≤ maxI (S.headD 0) S.tail) ∧ ∃ x, x < S.length ∧ pF S x = maxI (S.headD 0) S.tail := by
  cases S with
  | nil => simp at h
  | cons a l =>
    show (∀ x, x < (a :: l).length → pF (a :: l) x ≤ maxI a l) ∧ ∃ x, x < (a :: l).length ∧ pF (a :: l) x = maxI a l
    obtain ⟨h1, h2⟩ := maxI_le l a
    refine ⟨fun x hx => ?_, ?_⟩
    · obtain ⟨z, hz⟩ := get_some hx
      rw [pF_at hz]
      rcases List.mem_cons.mp (List.mem_of_getElem? hz) with rfl | hm
      · exact h1
      · exact h2 z hm
    · have hm : maxI a l ∈ a :: l := by
        rcases maxI_mem l a with e | e
        · rw [e]; exact List.mem_cons_self
        · exact List.mem_cons_of_mem _ e
      obtain ⟨x, hx⟩ := List.getElem?_of_mem hm
      exact ⟨x, lt_of_getL hx, pF_at hx⟩
theorem near_step {n : Nat} {ss tt : List Nat} {ps qs : List Int} (h : Stt n ss ps) (k : Stt n tt qs) (h2 : 2 ≤ n) (L : Lot ss ps tt qs) (hd : distI n ss ps qs ≠ 0) :
    ∃ c ss' ps', C.nearD n ss ps qs = nD c ∧ Ex n ss ps c ss' ps' ∧ distI n ss' ps' qs = distI n ss ps qs - 1 := by
  have h0 : 0 < n := by omega
  have hsl : (C.shiftL ps qs).length = n := by rw [shift_len, h.len, k.len]; simp
  have hsum : (C.shiftL ps qs).sum = 0 := by rw [shift_sum (by rw [h.len, k.len]), L.sum]; omega
  obtain ⟨hle, x0, hx0, hmx⟩ := max_of (S := C.shiftL ps qs) (by omega)
  have hnb : ∀ c, C.nearB n ss ps qs c = ((pF (C.shiftL ps qs) (ss.idxOf c) == maxI ((C.shiftL ps qs).headD 0) (C.shiftL ps qs).tail) && decide (pF (C.shiftL ps qs) (ss.idxOf ((c + 1) % n)) < maxI ((C.shiftL ps qs).headD 0) (C.shiftL ps qs).tail)) := fun c => rfl
  generalize hM : maxI ((C.shiftL ps qs).headD 0) (C.shiftL ps qs).tail = mx at *
  have P := h.pl h0
  have Q := k.pl h0
  have hq : ∀ x, x < n → qF tt qs x - qF ss ps x = pF (C.shiftL ps qs) x := fun x hx => shift_q h k L hx
  -- not all have the same steps
  have hex : ∃ c, c < n ∧ C.nearB n ss ps qs c = true := by
    by_cases he : ∃ c, c < n ∧ C.nearB n ss ps qs c = true
    · exact he
    · exfalso
      have hno : ∀ c, c < n → ∀ j b, ss[j]? = some c → ss[b]? = some ((c + 1) % n) → pF (C.shiftL ps qs) j = mx → pF (C.shiftL ps qs) b = mx := fun c hc j b hj hb e => by
        have hbn : b < n := by have := lt_of_getL hb; rw [h.slen] at this; exact this
        by_cases hlt : pF (C.shiftL ps qs) b < mx
        · refine absurd ⟨c, hc, ?_⟩ he
          rw [hnb, C.back_idx h hj, C.back_idx h hb]
          simp [e, hlt]
        · have := hle b (by omega)
          omega
      -- round the table
      obtain ⟨c0, hc0⟩ := get_some (show x0 < ss.length by rw [h.slen]; omega)
      have all : ∀ d : Nat, ∃ j, ss[j]? = some ((c0 + d) % n) ∧ pF (C.shiftL ps qs) j = mx := fun d => by
        induction d with
        | zero => exact ⟨x0, by rw [Nat.add_zero, Nat.mod_eq_of_lt (h.lt hc0)]; exact hc0, hmx⟩
        | succ d ih =>
          obtain ⟨j, hj, e⟩ := ih
          have hc := h.lt hj
          obtain ⟨hne, hlt⟩ := next_ne h2 hc
          obtain ⟨b, hb⟩ := h.onto hlt
          refine ⟨b, ?_, hno _ hc j b hj hb e⟩
          rw [hb, Nat.mod_add_mod]
          rfl
      have hall : ∀ x, x < n → pF (C.shiftL ps qs) x = mx := fun x hx => by
        obtain ⟨c, hc⟩ := get_some (show x < ss.length by rw [h.slen]; omega)
        have hcn := h.lt hc
        have hc0n := h.lt hc0
        obtain ⟨j, hj, e⟩ := all (c + n - c0)
        have : (c0 + (c + n - c0)) % n = c := by
          rw [show c0 + (c + n - c0) = c + n by omega, Nat.add_mod_right, Nat.mod_eq_of_lt hcn]
        rw [this] at hj
        rw [h.inj hc hj]
        exact e
      have hs := sum_const_range (f := pF (C.shiftL ps qs)) hall
      rw [sum_pF hsl, hsum] at hs
      have hmz : mx = 0 := by
        rcases Int.mul_eq_zero.mp hs.symm with e | e
        · omega
        · exact e
      refine hd ((dist_zero_iff h k h0 L).mpr (lot_eq h k h0 L fun x hx => ?_))
      have := hq x hx
      rw [hall x hx, hmz] at this
      omega
  obtain ⟨c1, hc1, hB1⟩ := hex
  have hfs : ∃ c, (List.range n).find? (C.nearB n ss ps qs) = some c := by
    cases hf : (List.range n).find? (C.nearB n ss ps qs) with
    | none =>
      rw [List.find?_eq_none] at hf
      exact absurd hB1 (hf c1 (List.mem_range.mpr hc1))
    | some c => exact ⟨c, rfl⟩
  obtain ⟨c, hf⟩ := hfs
  have hB : C.nearB n ss ps qs c = true := List.find?_some hf
  have hc : c < n := List.mem_range.mp (List.mem_of_find?_eq_some hf)
  obtain ⟨j, hj⟩ := h.onto hc
  obtain ⟨hne, hlt⟩ := next_ne h2 hc
  obtain ⟨b, hb⟩ := h.onto hlt
  have jn : j < n := by have := lt_of_getL hj; rw [h.slen] at this; exact this
  have bn : b < n := by have := lt_of_getL hb; rw [h.slen] at this; exact this
  rw [hnb, C.back_idx h hj, C.back_idx h hb] at hB
  simp only [Bool.and_eq_true, beq_iff_eq, decide_eq_true_eq] at hB
  -- the greatest number of steps is above 0
  have hpos : 0 < mx := by
    by_cases hp : 0 < mx
    · exact hp
    · have hz := sum_map_zero (fun x => -pF (C.shiftL ps qs) x) (List.range n) (fun x hx => by have := hle x (by rw [hsl]; exact List.mem_range.mp hx); omega) (by
        have e := sum_map_sub (fun _ => (0 : Int)) (pF (C.shiftL ps qs)) (List.range n)
        have z0 := sum_const_range (f := fun _ => (0 : Int)) (n := n) (c := 0) fun _ _ => rfl
        rw [sum_pF hsl, hsum, z0] at e
        have e2 : (fun z : Nat => (0 : Int) - pF (C.shiftL ps qs) z) = fun x => -pF (C.shiftL ps qs) x := by funext x; omega
        rw [e2] at e
        omega) b (List.mem_range.mpr bn)
      have hz : -pF (C.shiftL ps qs) b = 0 := hz
      omega
  obtain ⟨p, hp, hp0⟩ := h.purse hj
  obtain ⟨q, hq', hq0⟩ := k.purse (j := j) (c := tt.getD j 0) (by
    obtain ⟨z, hz⟩ := get_some (show j < tt.length by rw [k.slen]; exact jn)
    rw [List.getD_eq_getElem?_getD, hz]; rfl)
  have hpj : 0 < p := by
    have := hB.1
    rw [pF_at (shift_at hp hq')] at this
    omega
  have hcan : c ∈ C.canL ss ps := (mem_can h).mpr ⟨j, p, hj, hp, hpj⟩
  obtain ⟨ss', ps', x⟩ := C.can_ex h h2 hcan
  obtain ⟨h', L'⟩ := x.ok h h2
  obtain ⟨j', b', t, hj', hb', E⟩ := x.q h h2
  have ej := h.inj hj hj'
  have eb := h.inj hb hb'
  subst ej eb
  refine ⟨c, ss', ps', ?_, x, ?_⟩
  · unfold C.nearD
    rw [hf]
  · rw [distI_W h' h0 (L'.symm.trans L), distI_W h h0 L]
    refine (E.dist P (h'.pl h0) h2 Q).2.mpr ?_
    rw [(E.W_jk P h2).1]
    have a1 := hq j jn
    have a2 := hq b bn
    rw [hB.1] at a1
    have hne2 := Q.ne jn bn E.ne
    have hnear := E.near
    by_cases hw : (-t) ≤ Wn n (qF tt qs) j b
    · have a3 := (Wn_le h0).mp hw
      rw [Int.mul_neg] at a3
      exfalso
      refine hne2 ?_
      have : qF tt qs b - qF tt qs j = n * (-t) := by rw [Int.mul_neg]; omega
      rw [this]
      exact Int.mul_emod_right ..
    · omega
namespace C
theorem plan_ok {n : Nat} {ss tt : List Nat} {ps qs : List Int} {M : Mem} (h : Stt n ss ps) (k : Stt n tt qs) (h2 : 2 ≤ n) (L : Lot ss ps tt qs) (hn : n ≤ 1000) (hd : distI n ss ps qs ≤ 1000) :
    ∃ cs, m_plan [.d (stD ss ps), .d (stD tt qs)] M = .ok (.d (.list (cs.map nD))) M ∧ Run n ss ps cs tt qs ∧ (cs.length : Int) = distI n ss ps qs ∧ ∀ i c s p, cs[i]? = some c → Run n ss ps (cs.take i) s p → nearD n s p qs = nD c := by
  have hsz : sizeLine = 2 ^ 24 := rfl
  have h0 : 0 < n := by omega
  have hnn := distI_nn h h0 L
  obtain ⟨D, hD⟩ := Int.eq_ofNat_of_zero_le hnn
  have hdist := distance_ok (M := M) h k h0 L hn
  rw [hD] at hdist
  have hrl : (rangeD 0 (D : Int)).length = D := by rw [rangeD_nat]; simp
  obtain ⟨e', M', el, s1, p1, cs, v5, v6, rfl, hM', R1, hl1, hd1, hN⟩ := forL_all (γ := setT 5) (g := (seqS (setS 6 (callF 2 C.m_nearer (consA (getV 3) (consA (getV 1) nilA)))) (seqS (dropS (methE appM (getV 4) (consA (getV 6) nilA))) (setS 3 (callF 2 C.m_exchanged (consA (getV 3) (consA (getV 6) nilA)))))))
    (fun j e N => ∃ (s1 : List Nat) (p1 : List Int) (cs : List Nat) (v5 v6 : Option Vl), e = [some (.d (stD ss ps)), some (.d (stD tt qs)), some (.d (.int (D : Nat))), some (.d (stD s1 p1)), some (.h M.length), v5, v6] ∧ N = M ++ [.lst (cs.map nD)] ∧ Run n ss ps cs s1 p1 ∧ cs.length = j ∧ distI n s1 p1 qs = D - j ∧ ∀ i c s p, cs[i]? = some c → Run n ss ps (cs.take i) s p → nearD n s p qs = nD c)
    (xs := rangeD 0 (D : Int)) (e := [some (.d (stD ss ps)), some (.d (stD tt qs)), some (.d (.int (D : Nat))), some (.d (stD ss ps)), some (.h M.length), none, none]) (M := M ++ [.lst []])
    (by
      rintro j z e N hz ⟨s1, p1, cs, v5, v6, rfl, rfl, R1, hl1, hd1, hN⟩
      have hj : j < D := by rw [← hrl]; exact lt_of_getL hz
      obtain ⟨h1, L1⟩ := R1.ok h h2
      have L1' := L1.symm.trans L
      obtain ⟨c, s2, p2, hnd, x, hd2⟩ := near_step h1 k h2 L1' (by omega)
      have hnr := fun N : Mem => nearer_ok (M := N) h1 k h2 L1' hn
      have hex := fun N : Mem => exchanged_ok (M := N) h1 h2 hn (.inl rfl) x
      rw [hnd] at hnr
      have happ : methE appM (getV 4) (consA (getV 6) nilA) [some (.d (stD ss ps)), some (.d (stD tt qs)), some (.d (.int (D : Nat))), some (.d (stD s1 p1)), some (.h M.length), some (.d z), some (.d (nD c))] (M ++ [.lst (cs.map nD)]) = .ok (.d .none) (M ++ [.lst ((cs ++ [c]).map nD)]) := by
        rw [methE_at (i := M.length) (xs0 := cs.map nD) (xs := cs.map nD) (ys := [.d (nD c)]) (M2 := M ++ [.lst (cs.map nD)]) (by simp only [defM, startE, seqS_a, setS_a, bindS_ok, bindS_er, then_nx, then_rt, then_er, ifS_a, ifK_t, ifK_f, retS_a, dropS_a, asgS_a, asK_a, goG_ok, subT_a, nopS_a, getV_0, getV_s, cst_a, op2_a, o2a_ok, o2b_ok, opT_a, oTa_ok, oTb_ok, consA_a, cAa_ok, cAb_ok, nilA_a, callF_a, cFa_ok, callE_a, cEa_ok, newE_a, nwa_ok, datE_a, dta_ok, dispE_a, tupE_a, tpa_ok, asDs_a, datas, bind_ok, pur_ok, bool_b, leave_d, leave_nx, leave_er, ifE_a, ifa_t, ifa_f, notT_a, nta_ok, andT_a, ana_t, ana_f, orT_a, ora_t, ora_f, tstE_a, tsa_b, andE_a, aEa_t, aEa_f, orE_a, oEa_t, oEa_f, notE_a, nEa_ok, add_ii, sub_ii, gt_ii, lt_ii, ge_ii, le_ii, setT_a, consT_a, cTa_ok, nilT_a, tupT_a, seqT_t, seqT_l, forS_a, List.map_cons, List.map_nil, List.length_cons, List.length_nil, Nat.reduceAdd, Nat.reduceSub, Nat.zero_add, Nat.add_zero, List.replicate, List.cons_append, List.nil_append, List.append_nil, List.getElem?_cons_zero, List.getElem?_cons_succ, List.set_cons_zero, List.set_cons_succ, List.getElem?_nil, Option.map_some, Option.map_none, Option.bind_some, if_true, if_false, ite_true, ite_false, eq_self_iff_true, and_self, and_true, true_and, decide_true, decide_false, Bool.false_eq_true, Bool.not_true, Bool.not_false, sizeLine, Nat.reducePow, Nat.reduceLeDiff, Nat.zero_le, pow_7, pow_18, pow_40]) (m1_a rfl) (by simp only [defM, startE, seqS_a, setS_a, bindS_ok, bindS_er, then_nx, then_rt, then_er, ifS_a, ifK_t, ifK_f, retS_a, dropS_a, asgS_a, asK_a, goG_ok, subT_a, nopS_a, getV_0, getV_s, cst_a, op2_a, o2a_ok, o2b_ok, opT_a, oTa_ok, oTb_ok, consA_a, cAa_ok, cAb_ok, nilA_a, callF_a, cFa_ok, callE_a, cEa_ok, newE_a, nwa_ok, datE_a, dta_ok, dispE_a, tupE_a, tpa_ok, asDs_a, datas, bind_ok, pur_ok, bool_b, leave_d, leave_nx, leave_er, ifE_a, ifa_t, ifa_f, notT_a, nta_ok, andT_a, ana_t, ana_f, orT_a, ora_t, ora_f, tstE_a, tsa_b, andE_a, aEa_t, aEa_f, orE_a, oEa_t, oEa_f, notE_a, nEa_ok, add_ii, sub_ii, gt_ii, lt_ii, ge_ii, le_ii, setT_a, consT_a, cTa_ok, nilT_a, tupT_a, seqT_t, seqT_l, forS_a, List.map_cons, List.map_nil, List.length_cons, List.length_nil, Nat.reduceAdd, Nat.reduceSub, Nat.zero_add, Nat.add_zero, List.replicate, List.cons_append, List.nil_append, List.append_nil, List.getElem?_cons_zero, List.getElem?_cons_succ, List.set_cons_zero, List.set_cons_succ, List.getElem?_nil, Option.map_some, Option.map_none, Option.bind_some, if_true, if_false, ite_true, ite_false, eq_self_iff_true, and_self, and_true, true_and, decide_true, decide_false, Bool.false_eq_true, Bool.not_true, Bool.not_false, sizeLine, Nat.reducePow, Nat.reduceLeDiff, Nat.zero_le, pow_7, pow_18, pow_40]) (m1_a rfl), app_at (by rw [List.length_map, hl1, hsz]; omega), m1_sa rfl, List.map_append]
        rfl
      refine ⟨[some (.d (stD ss ps)), some (.d (stD tt qs)), some (.d (.int (D : Nat))), some (.d (stD s1 p1)), some (.h M.length), some (.d z), v6], M ++ [.lst (cs.map nD)], [some (.d (stD ss ps)), some (.d (stD tt qs)), some (.d (.int (D : Nat))), some (.d (stD s2 p2)), some (.h M.length), some (.d z), some (.d (nD c))], M ++ [.lst ((cs ++ [c]).map nD)], ?_, ?_, s2, p2, cs ++ [c], _, _, rfl, rfl, R1.snoc x, by simp [hl1], by push_cast; omega, fun i d s p hi hr => ?_⟩
      · simp only [defM, startE, seqS_a, setS_a, bindS_ok, bindS_er, then_nx, then_rt, then_er, ifS_a, ifK_t, ifK_f, retS_a, dropS_a, asgS_a, asK_a, goG_ok, subT_a, nopS_a, getV_0, getV_s, cst_a, op2_a, o2a_ok, o2b_ok, opT_a, oTa_ok, oTb_ok, consA_a, cAa_ok, cAb_ok, nilA_a, callF_a, cFa_ok, callE_a, cEa_ok, newE_a, nwa_ok, datE_a, dta_ok, dispE_a, tupE_a, tpa_ok, asDs_a, datas, bind_ok, pur_ok, bool_b, leave_d, leave_nx, leave_er, ifE_a, ifa_t, ifa_f, notT_a, nta_ok, andT_a, ana_t, ana_f, orT_a, ora_t, ora_f, tstE_a, tsa_b, andE_a, aEa_t, aEa_f, orE_a, oEa_t, oEa_f, notE_a, nEa_ok, add_ii, sub_ii, gt_ii, lt_ii, ge_ii, le_ii, setT_a, consT_a, cTa_ok, nilT_a, tupT_a, seqT_t, seqT_l, forS_a, List.map_cons, List.map_nil, List.length_cons, List.length_nil, Nat.reduceAdd, Nat.reduceSub, Nat.zero_add, Nat.add_zero, List.replicate, List.cons_append, List.nil_append, List.append_nil, List.getElem?_cons_zero, List.getElem?_cons_succ, List.set_cons_zero, List.set_cons_succ, List.getElem?_nil, Option.map_some, Option.map_none, Option.bind_some, if_true, if_false, ite_true, ite_false, eq_self_iff_true, and_self, and_true, true_and, decide_true, decide_false, Bool.false_eq_true, Bool.not_true, Bool.not_false, sizeLine, Nat.reducePow, Nat.reduceLeDiff, Nat.zero_le, pow_7, pow_18, pow_40]
      · simp only [defM, startE, seqS_a, setS_a, bindS_ok, bindS_er, then_nx, then_rt, then_er, ifS_a, ifK_t, ifK_f, retS_a, dropS_a, asgS_a, asK_a, goG_ok, subT_a, nopS_a, getV_0, getV_s, cst_a, op2_a, o2a_ok, o2b_ok, opT_a, oTa_ok, oTb_ok, consA_a, cAa_ok, cAb_ok, nilA_a, callF_a, cFa_ok, callE_a, cEa_ok, newE_a, nwa_ok, datE_a, dta_ok, dispE_a, tupE_a, tpa_ok, asDs_a, datas, bind_ok, pur_ok, bool_b, leave_d, leave_nx, leave_er, ifE_a, ifa_t, ifa_f, notT_a, nta_ok, andT_a, ana_t, ana_f, orT_a, ora_t, ora_f, tstE_a, tsa_b, andE_a, aEa_t, aEa_f, orE_a, oEa_t, oEa_f, notE_a, nEa_ok, add_ii, sub_ii, gt_ii, lt_ii, ge_ii, le_ii, setT_a, consT_a, cTa_ok, nilT_a, tupT_a, seqT_t, seqT_l, forS_a, List.map_cons, List.map_nil, List.length_cons, List.length_nil, Nat.reduceAdd, Nat.reduceSub, Nat.zero_add, Nat.add_zero, List.replicate, List.cons_append, List.nil_append, List.append_nil, List.getElem?_cons_zero, List.getElem?_cons_succ, List.set_cons_zero, List.set_cons_succ, List.getElem?_nil, Option.map_some, Option.map_none, Option.bind_some, if_true, if_false, ite_true, ite_false, eq_self_iff_true, and_self, and_true, true_and, decide_true, decide_false, Bool.false_eq_true, Bool.not_true, Bool.not_false, sizeLine, Nat.reducePow, Nat.reduceLeDiff, Nat.zero_le, pow_7, pow_18, pow_40, hnr, happ, hex]
      · by_cases hil : i < cs.length
        · rw [List.getElem?_append_left hil] at hi
          rw [List.take_append_of_le_length (by omega)] at hr
          exact hN i d s p hi hr
        · have hie : i = cs.length := by
            have := lt_of_getL hi
            simp at this
            omega
          subst hie
          rw [List.getElem?_append_right (Nat.le_refl _)] at hi
          simp at hi
          subst hi
          rw [List.take_append_of_le_length (Nat.le_refl _), List.take_length] at hr
          obtain ⟨e1, e2⟩ := R1.det h h2 hr
          subst e1 e2
          exact hnd)
    ⟨ss, ps, [], none, none, rfl, rfl, .nil, rfl, by rw [hD]; simp, fun i c s p hi _ => by cases hi⟩
  rw [hrl] at hl1 hd1
  obtain ⟨h1, L1⟩ := R1.ok h h2
  obtain ⟨e1, e2⟩ := (dist_zero_iff h1 k h0 (L1.symm.trans L)).mp (by omega)
  subst e1 e2
  have hr : rngI1 (getV 2) [some (.d (stD ss ps)), some (.d (stD s1 p1)), some (.d (.int (D : Nat))), some (.d (stD ss ps)), some (.h M.length), none, none] (M ++ [.lst []]) = .ok (rangeD 0 (D : Int)) (M ++ [.lst []]) := rngI1_a (by simp only [defM, startE, seqS_a, setS_a, bindS_ok, bindS_er, then_nx, then_rt, then_er, ifS_a, ifK_t, ifK_f, retS_a, dropS_a, asgS_a, asK_a, goG_ok, subT_a, nopS_a, getV_0, getV_s, cst_a, op2_a, o2a_ok, o2b_ok, opT_a, oTa_ok, oTb_ok, consA_a, cAa_ok, cAb_ok, nilA_a, callF_a, cFa_ok, callE_a, cEa_ok, newE_a, nwa_ok, datE_a, dta_ok, dispE_a, tupE_a, tpa_ok, asDs_a, datas, bind_ok, pur_ok, bool_b, leave_d, leave_nx, leave_er, ifE_a, ifa_t, ifa_f, notT_a, nta_ok, andT_a, ana_t, ana_f, orT_a, ora_t, ora_f, tstE_a, tsa_b, andE_a, aEa_t, aEa_f, orE_a, oEa_t, oEa_f, notE_a, nEa_ok, add_ii, sub_ii, gt_ii, lt_ii, ge_ii, le_ii, setT_a, consT_a, cTa_ok, nilT_a, tupT_a, seqT_t, seqT_l, forS_a, List.map_cons, List.map_nil, List.length_cons, List.length_nil, Nat.reduceAdd, Nat.reduceSub, Nat.zero_add, Nat.add_zero, List.replicate, List.cons_append, List.nil_append, List.append_nil, List.getElem?_cons_zero, List.getElem?_cons_succ, List.set_cons_zero, List.set_cons_succ, List.getElem?_nil, Option.map_some, Option.map_none, Option.bind_some, if_true, if_false, ite_true, ite_false, eq_self_iff_true, and_self, and_true, true_and, decide_true, decide_false, Bool.false_eq_true, Bool.not_true, Bool.not_false, sizeLine, Nat.reducePow, Nat.reduceLeDiff, Nat.zero_le, pow_7, pow_18, pow_40]) (by constructor <;> omega)
  rw [hM'] at el
  have fz : freeze 4 [some (.d (stD ss ps)), some (.d (stD s1 p1)), some (.d (.int (D : Nat))), some (.d (stD s1 p1)), some (.h M.length), v5, v6] (M ++ [.lst (cs.map nD)]) = _ := jfz (L := M.length) (k := 0) rfl rfl rfl
  refine ⟨cs, ?_, R1, by omega, hN⟩
  have c1 : ¬ ((1000 : Int) < (D : Int)) := by omega
  unfold m_plan g_plan
  simp only [defM, startE, seqS_a, setS_a, bindS_ok, bindS_er, then_nx, then_rt, then_er, ifS_a, ifK_t, ifK_f, retS_a, dropS_a, asgS_a, asK_a, goG_ok, subT_a, nopS_a, getV_0, getV_s, cst_a, op2_a, o2a_ok, o2b_ok, opT_a, oTa_ok, oTb_ok, consA_a, cAa_ok, cAb_ok, nilA_a, callF_a, cFa_ok, callE_a, cEa_ok, newE_a, nwa_ok, datE_a, dta_ok, dispE_a, tupE_a, tpa_ok, asDs_a, datas, bind_ok, pur_ok, bool_b, leave_d, leave_nx, leave_er, ifE_a, ifa_t, ifa_f, notT_a, nta_ok, andT_a, ana_t, ana_f, orT_a, ora_t, ora_f, tstE_a, tsa_b, andE_a, aEa_t, aEa_f, orE_a, oEa_t, oEa_f, notE_a, nEa_ok, add_ii, sub_ii, gt_ii, lt_ii, ge_ii, le_ii, setT_a, consT_a, cTa_ok, nilT_a, tupT_a, seqT_t, seqT_l, forS_a, List.map_cons, List.map_nil, List.length_cons, List.length_nil, Nat.reduceAdd, Nat.reduceSub, Nat.zero_add, Nat.add_zero, List.replicate, List.cons_append, List.nil_append, List.append_nil, List.getElem?_cons_zero, List.getElem?_cons_succ, List.set_cons_zero, List.set_cons_succ, List.getElem?_nil, Option.map_some, Option.map_none, Option.bind_some, if_true, if_false, ite_true, ite_false, eq_self_iff_true, and_self, and_true, true_and, decide_true, decide_false, Bool.false_eq_true, Bool.not_true, Bool.not_false, sizeLine, Nat.reducePow, Nat.reduceLeDiff, Nat.zero_le, pow_7, pow_18, pow_40, hdist, c1, hr, el, fz]
  rw [List.take_append_of_le_length (by simp), take_all (by simp)]
end C
end DL

namespace DL
open PySem PySem.Spec L2 PyProof.Rows
/-! ### a tuple once -/
theorem tup_once (p : Addr) (xs : Array Value) (e : Nat) (od : Option Addr) (ss : Array (Option Value)) (u : Tok) :
    Meets (Builtin.«tuple.__mul__» ⟨[.ref p, .int 1 u], []⟩) (fun _ R s => s.heap.get? p = some ⟨.type "tuple", od, .seq xs e, ss⟩ ∧ R (.ok (.ret (.ref p))) s) :=
  .of_wp fun P w A R s ⟨ho, hr⟩ => by
    obtain ⟨hp, g, d, tk, os⟩ := s
    have fi := AutoSeq1.idx_int
    wp_walk using wpAny_loadPart' ho
    repeat (first
      | (refine wpAny_ite_false (by decide) ?_; wp_walk using wpAny_loadPart' ho)
      | (refine wpAny_ite_true (by simp) ?_; wp_walk using wpAny_loadPart' ho))
    exact ⟨_, rfl, hr⟩
/-- a tuple times a number from 1 on -/
def mulT2V : Vl → Vl → Mem → Res Vl
  | .d (.tuple xs), .d (.int k), M => if k = 1 then (if xs ≠ [] then .ok (.d (.tuple xs)) M else .st) else mulTV (.d (.tuple xs)) (.d (.int k)) M
  | _, _, _ => .st
section
variable {X : Cx}
theorem opd_mulT2 : OpD X (binaryOp .Mult) mulT2V := by
  rintro pins s σ H x y v u Q I rx ry ⟨w, M, a, b, r, ra, rb, p⟩
  unfold mulT2V at p
  split at p
  · rename_i ds k
    by_cases h1 : k = 1
    · rw [if_pos h1] at p
      subst h1
      split at p
      · rename_i hne
        cases rb
        obtain ⟨l, vs, rfl, hT, hd⟩ := tup_at r ra (show tupOf _ = some _ from rfl)
        cases rx
        obtain ⟨t, rfl⟩ := ry
        obtain ⟨its, rt, ⟨⟨c0, od, dat, ss⟩, ho, hcl, e, hdat⟩, _⟩ := I.tuple hT
        simp only at hcl hdat
        subst hcl hdat
        refine wpAny_binaryOp_repeat_ref (U := "int") (T := "tuple") (by decide) ⟨_, ho, rfl⟩
          (fun s2 => typeIs_int s2 1 t) noFill_tuple_mul F.fills_int_mul
          F.slot_int_rmul repeat_tuple F.slot_int_index.lookup ?_
        refine call_meets F.slot_int_rmul (typeIs_int s 1 t) F.entry_int_rmul
          (F.args_int_rmul_2 _ _) (int_rmul_tuple 1 t l its.toArray e od ss) ⟨ho, rfl, ⟨_, ho, rfl⟩, ?_⟩
        exact call_meets F.slot_tuple_mul ⟨_, ho, rfl⟩ F.entry_tuple_mul
          (F.args_tuple_mul_2 _ _) (tup_once l its.toArray e od ss t) ⟨ho, .ref l, H, I, rfl, p.at r ra⟩
      · exact p.elim
    · rw [if_neg h1] at p
      exact opd_mulT pins s σ H x y v u Q I rx ry ⟨w, M, _, _, r, ra, rb, p⟩
  · exact p.elim
end
end DL

namespace DL
open PySem PySem.Spec L2
/-! ### sorted lists of triples of whole numbers -/
def codeD : PyData → Int
  | .tuple [.int a, .int b, .int c] => (a * 10000000000000000000000000000000000000000 + b) * 10000000000000000000000000000000000000000 + c
  | _ => 0
def okT : PyData → Bool
  | .tuple [.int a, .int b, .int c] => decide ((0 ≤ a ∧ a < 10000000000000000000000000000000000000000) ∧ (0 ≤ b ∧ b < 10000000000000000000000000000000000000000) ∧ 0 ≤ c ∧ c < 10000000000000000000000000000000000000000)
  | _ => false
def decD (z : Int) : PyData := .tuple [.int (z / 10000000000000000000000000000000000000000 / 10000000000000000000000000000000000000000), .int (z / 10000000000000000000000000000000000000000 % 10000000000000000000000000000000000000000), .int (z % 10000000000000000000000000000000000000000)]
def sortT (ds : List PyData) : List PyData := (sortI (ds.map codeD)).map decD
theorem okT_is {d : PyData} (h : okT d = true) : ∃ a b c : Int, d = .tuple [.int a, .int b, .int c] ∧ (0 ≤ a ∧ a < 10000000000000000000000000000000000000000) ∧ (0 ≤ b ∧ b < 10000000000000000000000000000000000000000) ∧ 0 ≤ c ∧ c < 10000000000000000000000000000000000000000 := by
  unfold okT at h
  split at h
  · exact ⟨_, _, _, rfl, of_decide_eq_true h⟩
  · cases h
theorem dec_code {d : PyData} (h : okT d = true) : decD (codeD d) = d := by
  obtain ⟨a, b, c, rfl, ha, hb, hc⟩ := okT_is h
  have e1 : ((a * 10000000000000000000000000000000000000000 + b) * 10000000000000000000000000000000000000000 + c) / 10000000000000000000000000000000000000000 = a * 10000000000000000000000000000000000000000 + b := by omega
  have e2 : (a * 10000000000000000000000000000000000000000 + b) / 10000000000000000000000000000000000000000 = a := by omega
  show PyData.tuple [.int (((a * 10000000000000000000000000000000000000000 + b) * 10000000000000000000000000000000000000000 + c) / 10000000000000000000000000000000000000000 / 10000000000000000000000000000000000000000), .int (((a * 10000000000000000000000000000000000000000 + b) * 10000000000000000000000000000000000000000 + c) / 10000000000000000000000000000000000000000 % 10000000000000000000000000000000000000000), .int (((a * 10000000000000000000000000000000000000000 + b) * 10000000000000000000000000000000000000000 + c) % 10000000000000000000000000000000000000000)] = _
  rw [e1, e2, show (a * 10000000000000000000000000000000000000000 + b) % 10000000000000000000000000000000000000000 = b by omega, show ((a * 10000000000000000000000000000000000000000 + b) * 10000000000000000000000000000000000000000 + c) % 10000000000000000000000000000000000000000 = c by omega]
theorem sortT_unique {ds es : List PyData} (hp : es.Perm ds) (ho : ∀ d ∈ ds, okT d = true) (ha : es.Pairwise fun x y => codeD x ≤ codeD y) : es = sortT ds := by
  have h1 : es.map codeD = sortI (ds.map codeD) := asc_unique ((hp.map _).trans (sortI_perm _).symm) (List.pairwise_map.mpr ha) (sortI_asc _)
  unfold sortT
  rw [← h1, List.map_map]
  conv => lhs; rw [← List.map_id es]
  exact List.map_congr_left fun d hd => (dec_code (ho d (hp.mem_iff.mp hd))).symm
theorem DpAll.perm {K : Frag} {F : Hp} {ys vs : List V} (p : ys.Perm vs) : ∀ {ds : List PyData}, DpAll K F vs ds → ∃ es, DpAll K F ys es ∧ es.Perm ds := by
  induction p with
  | nil => exact fun h => ⟨_, h, .refl _⟩
  | cons x p ih =>
    intro ds h
    cases h with
    | cons h1 h2 =>
      obtain ⟨es, k1, k2⟩ := ih h2
      exact ⟨_, .cons h1 k1, k2.cons _⟩
  | swap x y l =>
    intro ds h
    cases h with
    | cons h1 h2 => cases h2 with
      | cons h3 h4 => exact ⟨_, .cons h3 (.cons h1 h4), .swap ..⟩
  | trans p q ih1 ih2 =>
    intro ds h
    obtain ⟨es, k1, k2⟩ := ih2 h
    obtain ⟨fs, k3, k4⟩ := ih1 k1
    exact ⟨fs, k3, k4.trans k2⟩
theorem code_is {a b c : Int} : TS.code 10000000000000000000000000000000000000000 [a, b, c] = codeD (.tuple [.int a, .int b, .int c]) := by
  show a * 10000000000000000000000000000000000000000 ^ 2 + (b * 10000000000000000000000000000000000000000 ^ 1 + (c * 10000000000000000000000000000000000000000 ^ 0 + 0)) = (a * 10000000000000000000000000000000000000000 + b) * 10000000000000000000000000000000000000000 + c
  omega
theorem tri_at {K : Frag} {F H : Hp} (l : ∀ a o, F a = some o → H a = some o) {v : V} {a b c : Int} (h : Dp K F v (.tuple [.int a, .int b, .int c])) : TupI K H v [a, b, c] := by
  cases h with
  | tup h1 h2 =>
    have := ints_at (ns := [a, b, c]) h2 rfl
    subst this
    exact ⟨_, rfl, SqT.up l h1⟩
theorem asc_at {K : Frag} {F H : Hp} (l : ∀ a o, F a = some o → H a = some o) : ∀ {ys : List V} {es : List PyData}, DpAll K F ys es → (∀ d ∈ es, okT d = true) → ys.Pairwise (fun x y => ∀ n m, TupI K H x n → TupI K H y m → TS.code 10000000000000000000000000000000000000000 n ≤ TS.code 10000000000000000000000000000000000000000 m) → es.Pairwise fun x y => codeD x ≤ codeD y := by
  intro ys es h
  induction ys generalizing es with
  | nil => intro _ _; cases h; exact .nil
  | cons y ys ih =>
    cases h with
    | cons h1 h2 =>
      intro ho hp
      rw [List.pairwise_cons] at hp ⊢
      refine ⟨fun e he => ?_, ih h2 (fun d hd => ho d (List.mem_cons_of_mem _ hd)) hp.2⟩
      obtain ⟨i, hi⟩ := List.mem_iff_getElem?.mp he
      obtain ⟨v, hv, hd⟩ := h2.get hi
      obtain ⟨a, b, c, rfl, _⟩ := okT_is (ho _ List.mem_cons_self)
      obtain ⟨a', b', c', rfl, _⟩ := okT_is (ho e (List.mem_cons_of_mem _ he))
      have := hp.1 v (List.mem_of_getElem? hv) _ _ (tri_at l h1) (tri_at l hd)
      rw [code_is, code_is] at this
      exact this
section
variable {X : Cx} {W : WX}
def sortTE (f : Ev) : Env → Mem → Res (List PyData) := fun e M => (f e M).bind fun x M1 => match x with
  | .d (.list xs) => if xs.length < 64 ∧ xs.all okT = true then .ok (sortT xs) M1 else .st
  | _ => .st
theorem df_sortT {e : Expr} {f : Ev} {p pos : Pos} (hg : Gl X "sorted") (hm : X.mg "sorted" = none) (ha : DE X W e f) (he : starEach [e] X.env = (false, eval e X.env) :: starEach [] X.env := by rfl)
    (hpl : (backTo pos (starEach [] X.env)).any (·.1) = false := by rfl) (hv : bootBuiltins "sorted" = some (.builtin "sorted") := by decide +kernel) : DF X W (.Call (.Name "sorted" p) [e] [] pos) (sortTE f) :=
  PEweak (pe_callB (cr_sortT (d := 3) (B := 10000000000000000000000000000000000000000) (by decide)) hg hm hv (pa_cons ha pa_nil he) (by decide) (by decide) he hpl) fun σ H Q ⟨w, e, M, r, re, p⟩ =>
    ⟨w, e, M, r, re, p.bind fun x M1 w1 v H1 l1 r1 rv p1 => by
      split at p1
      · rename_i xs
        split at p1
        · rename_i hc
          obtain ⟨q, ws, rfl, hs, d⟩ := lst_at (xs := xs) r1 rv rfl
          have ho : ∀ y ∈ xs, okT y = true := fun y hy => List.all_eq_true.mp hc.2 y hy
          refine ⟨q, ws, rfl, SqL.of hs, by rw [d.len]; exact hc.1, fun v hv => ?_, fun ys p hp ha hn => ?_⟩
          · obtain ⟨i, hi⟩ := List.mem_iff_getElem?.mp hv
            obtain ⟨y, hy, dy⟩ := d.get' hi
            obtain ⟨a, b, c, rfl, h1, h2, h3⟩ := okT_is (ho y (List.mem_of_getElem? hy))
            refine ⟨_, tri_at r1.sub dy, rfl, fun m hm => ?_⟩
            simp only [List.mem_cons, List.not_mem_nil, or_false] at hm
            rcases hm with rfl | rfl | rfl
            · exact h1
            · exact h2
            · exact h3
          · obtain ⟨es, k1, k2⟩ := d.perm hp
            have e := sortT_unique k2 ho (asc_at r1.sub k1 (fun y hy => ho y (k2.mem_iff.mp hy)) ha)
            subst e
            exact p1.at r1 k1 p hn
        · exact p1.elim
      · exact p1.elim⟩
end
end DL

namespace DL.K28
open PySem PySem.Spec L2 DL
def top (i : Nat) : Stmt := PySem.Challenge.pw_tollround_k28_whole_round_the_table.main.body.getD i (.Pass ⟨0, 0, 0, 0⟩)
structure Gs (mg : Str → Option Value) : Prop where
  b_len : mg "len" = none
  b_enumerate : mg "enumerate" = none
  b_tuple : mg "tuple" = none
  b_sum : mg "sum" = none
  b_zip : mg "zip" = none
  b_list : mg "list" = none
  b_range : mg "range" = none
  b_abs : mg "abs" = none
  b_max : mg "max" = none
  b_int : mg "int" = none
  b_min : mg "min" = none
  b_sorted : mg "sorted" = none
  b_all : mg "all" = none
  i_MOST_STEPS : ∃ t, mg "MOST_STEPS" = some (.int 1000 t)
abbrev s_inverse : Stmt := top 9
theorem sc_inverse : FnScope ["places", "found", "index", "place"] ["places"] (defScope s_inverse) := ⟨rfl, rfl, rfl, by decide +kernel, rfl, by decide +kernel, by decide +kernel⟩
abbrev s_sitting : Stmt := top 8
theorem sc_sitting : FnScope ["state", "seats", "_"] ["state"] (defScope s_sitting) := ⟨rfl, rfl, rfl, by decide +kernel, rfl, by decide +kernel, by decide +kernel⟩
abbrev s_as_tuples : Stmt := top 10
theorem sc_as_tuples : FnScope ["state", "seats", "purses"] ["state"] (defScope s_as_tuples) := ⟨rfl, rfl, rfl, by decide +kernel, rfl, by decide +kernel, by decide +kernel⟩
abbrev s_total : Stmt := top 11
theorem sc_total : FnScope ["state", "_", "purses"] ["state"] (defScope s_total) := ⟨rfl, rfl, rfl, by decide +kernel, rfl, by decide +kernel, by decide +kernel⟩
abbrev s_residues : Stmt := top 12
theorem sc_residues : FnScope ["state", "seats", "purses", "many", "seat", "coins"] ["state"] (defScope s_residues) := ⟨rfl, rfl, rfl, by decide +kernel, rfl, by decide +kernel, by decide +kernel⟩
abbrev s_after_toll : Stmt := top 15
theorem sc_after_toll : FnScope ["state", "payer", "taker", "seats", "purses"] ["state", "payer", "taker"] (defScope s_after_toll) := ⟨rfl, rfl, rfl, by decide +kernel, rfl, by decide +kernel, by decide +kernel⟩
abbrev s_exchanged : Stmt := top 14
theorem sc_exchanged : FnScope ["state", "seat", "people", "payer", "_", "purses"] ["state", "seat"] (defScope s_exchanged) := ⟨rfl, rfl, rfl, by decide +kernel, rfl, by decide +kernel, by decide +kernel⟩
abbrev s_run : Stmt := top 16
theorem sc_run : FnScope ["state", "row", "present", "seat"] ["state", "row"] (defScope s_run) := ⟨rfl, rfl, rfl, by decide +kernel, rfl, by decide +kernel, by decide +kernel⟩
abbrev s_kept : Stmt := top 18
theorem sc_kept : FnScope ["state"] ["state"] (defScope s_kept) := ⟨rfl, rfl, rfl, by decide +kernel, rfl, by decide +kernel, by decide +kernel⟩
abbrev s_check_people : Stmt := top 21
theorem sc_check_people : FnScope ["one", "other", "many"] ["one", "other"] (defScope s_check_people) := ⟨rfl, rfl, rfl, by decide +kernel, rfl, by decide +kernel, by decide +kernel⟩
abbrev s_bar : Stmt := top 20
theorem sc_bar : FnScope ["one", "other", "marks", "coins", "other_marks", "other_coins", "person", "mark"] ["one", "other"] (defScope s_bar) := ⟨rfl, rfl, rfl, by decide +kernel, rfl, by decide +kernel, by decide +kernel⟩
abbrev s_leads : Stmt := top 19
theorem sc_leads : FnScope ["one", "other"] ["one", "other"] (defScope s_leads) := ⟨rfl, rfl, rfl, by decide +kernel, rfl, by decide +kernel, by decide +kernel⟩
abbrev s_check_leads : Stmt := top 22
theorem sc_check_leads : FnScope ["one", "other", "reason"] ["one", "other"] (defScope s_check_leads) := ⟨rfl, rfl, rfl, by decide +kernel, rfl, by decide +kernel, by decide +kernel⟩
abbrev s_shifts : Stmt := top 23
theorem sc_shifts : FnScope ["one", "other", "before", "after"] ["one", "other"] (defScope s_shifts) := ⟨rfl, rfl, rfl, by decide +kernel, rfl, by decide +kernel, by decide +kernel⟩
abbrev s_crossings : Stmt := top 24
theorem sc_crossings : FnScope ["one", "other", "steps", "seats", "_", "size", "goals", "found", "x", "y", "many", "seat", "step"] ["one", "other"] (defScope s_crossings) := ⟨rfl, rfl, rfl, by decide +kernel, rfl, by decide +kernel, by decide +kernel⟩
abbrev s_distance : Stmt := top 25
theorem sc_distance : FnScope ["one", "other", "crossing"] ["one", "other"] (defScope s_distance) := ⟨rfl, rfl, rfl, by decide +kernel, rfl, by decide +kernel, by decide +kernel⟩
abbrev s_nearer : Stmt := top 26
theorem sc_nearer : FnScope ["one", "other", "steps", "most", "people", "seat", "person", "behind"] ["one", "other"] (defScope s_nearer) := ⟨rfl, rfl, rfl, by decide +kernel, rfl, by decide +kernel, by decide +kernel⟩
abbrev s_plan : Stmt := top 27
theorem sc_plan : FnScope ["one", "other", "many", "present", "row", "_", "seat"] ["one", "other"] (defScope s_plan) := ⟨rfl, rfl, rfl, by decide +kernel, rfl, by decide +kernel, by decide +kernel⟩
abbrev s_box : Stmt := top 29
theorem sc_box : FnScope ["_law_script", "_law_k", "_law_cell"] ["_law_script", "_law_k"] (defScope s_box) := ⟨rfl, rfl, rfl, by decide +kernel, rfl, by decide +kernel, by decide +kernel⟩
abbrev s_take : Stmt := top 30
theorem sc_take : FnScope ["_law_box_here", "_law_span", "_law_found", "_law_once"] ["_law_box_here", "_law_span"] (defScope s_take) := ⟨rfl, rfl, rfl, by decide +kernel, rfl, by decide +kernel, by decide +kernel⟩
abbrev s_cells : Stmt := top 31
theorem sc_cells : FnScope ["_law_script", "_law_most", "_law_cells_here", "_law_k", "_law_cell"] ["_law_script", "_law_most"] (defScope s_cells) := ⟨rfl, rfl, rfl, by decide +kernel, rfl, by decide +kernel, by decide +kernel⟩
abbrev s_of : Stmt := top 32
theorem sc_of : FnScope ["_law_box_here", "_law_some"] ["_law_box_here", "_law_some"] (defScope s_of) := ⟨rfl, rfl, rfl, by decide +kernel, rfl, by decide +kernel, by decide +kernel⟩
abbrev s_strewn : Stmt := top 33
theorem sc_strewn : FnScope ["_law_box_here", "_law_some", "_law_left", "_law_found"] ["_law_box_here", "_law_some"] (defScope s_strewn) := ⟨rfl, rfl, rfl, by decide +kernel, rfl, by decide +kernel, by decide +kernel⟩
abbrev s_random_state : Stmt := top 34
theorem sc_random_state : FnScope ["_law_box_here", "_law_count", "_law_top", "_law_chairs", "_law_bags", "_law_who"] ["_law_box_here", "_law_count", "_law_top"] (defScope s_random_state) := ⟨rfl, rfl, rfl, by decide +kernel, rfl, by decide +kernel, by decide +kernel⟩
abbrev s_right : Stmt := top 35
theorem sc_right : FnScope ["_law_box_here", "_law_count", "_law_spot", "_law_who", "_law_rounds", "_law_coins", "_law_bags", "_law_rich", "_law_after", "_law_there", "_law_due", "_law_tape", "_law_bag", "_law_mate", "_law_k"] ["_law_box_here"] (defScope s_right) := ⟨rfl, rfl, rfl, by decide +kernel, rfl, by decide +kernel, by decide +kernel⟩
def g_right : Sv := (seqS (setS 1 (op2 addV (cst (.d (.int 2))) (callF 2 (C.m_take 10) (consA (getV 0) (consA (cst (.d (.int 8))) nilA))))) (seqS (setS 2 (callF 3 C.m_random_state (consA (getV 0) (consA (getV 1) (consA (callF 2 C.m_of (consA (getV 0) (consA (datE (dispE (consA (cst (.d (.int 2))) (consA (op2 powV (cst (.d (.int 10))) (cst (.d (.int 30)))) nilA)))) nilA))) nilA))))) (seqS (asgS (tupE (consA (callF 2 (C.m_take 10) (consA (getV 0) (consA (getV 1) nilA))) (consA (op2 addV (cst (.d (.int 1))) (callF 2 (C.m_take 10) (consA (getV 0) (consA (callF 2 C.m_of (consA (getV 0) (consA (datE (dispE (consA (cst (.d (.int 2))) (consA (op2 powV (cst (.d (.int 10))) (cst (.d (.int 28)))) nilA)))) nilA))) nilA)))) nilA))) (seqT 2 (consT (setT 3) (consT (setT 4) nilT)))) (seqS (setS 5 (op2 mulV (op2 mulV (getV 1) (op2 subV (getV 1) (cst (.d (.int 1))))) (getV 4))) (seqS (setS 6 (newE (listE (op2 ixV (getV 2) (cst (.d (.int 1))))))) (seqS (asgS (op2 addV (op2 ixV (getV 6) (getV 3)) (getV 5)) (subT (getV 6) (getV 3))) (seqS (freeze 6) (seqS (setS 7 (tupE (consA (op2 ixV (getV 2) (cst (.d (.int 0)))) (consA (callE tupleV (consA (getV 6) nilA)) nilA)))) (seqS (setS 8 (newE (lcE [12] (seqI (op2 ixV (getV 2) (cst (.d (.int 1))))) (setT 12) (fun _ M => .ok true M) (op2 addV (getV 12) (op2 mulV (getV 1) (getV 4)))))) (seqS (asgS (op2 ixV (op2 ixV (getV 2) (cst (.d (.int 1)))) (getV 3)) (subT (getV 8) (getV 3))) (seqS (freeze 8) (seqS (setS 9 (tupE (consA (op2 ixV (getV 2) (cst (.d (.int 0)))) (consA (callE tupleV (consA (getV 8) nilA)) nilA)))) (seqS (setS 10 (datE (lcE [13] (rngI1 (getV 1)) (setT 13) (opT neV (getV 13) (getV 3)) (tupE (consA (callE minV (consA (getV 3) (consA (getV 13) nilA))) (consA (callE maxV (consA (getV 3) (consA (getV 13) nilA))) (consA (op2 mulV (getV 1) (getV 4)) nilA))))))) (seqS (ifS (orT (notT (tstE (callF 2 C.m_leads (consA (getV 7) (consA (getV 9) nilA))))) (orT (opT neV (callF 2 C.m_distance (consA (getV 7) (consA (getV 9) nilA))) (getV 5)) (opT neV (callF 2 C.m_crossings (consA (getV 7) (consA (getV 9) nilA))) (datE (sortTE (getV 10)))))) (retS (cst (.d (.bool false)))) nopS) (seqS (ifS (orT (opT neV (op2 ixV (callF 2 C.m_shifts (consA (getV 7) (consA (getV 9) nilA))) (getV 3)) (getV 5)) (opT neV (op2 ixV (callF 2 C.m_shifts (consA (getV 9) (consA (getV 7) nilA))) (getV 3)) (op2 subV (cst (.d (.int 0))) (getV 5)))) (retS (cst (.d (.bool false)))) nopS) (seqS (ifS (opT gtV (getV 4) (cst (.d (.int 2)))) (retS (cst (.d (.bool true)))) nopS) (seqS (setS 11 (datE (lcE [14] (rngI1 (getV 5)) (setT 14) (fun _ M => .ok true M) (op2 modV (op2 addV (op2 ixV (op2 ixV (getV 2) (cst (.d (.int 0)))) (getV 3)) (getV 14)) (getV 1))))) (retS (andE (op2 eqV (callF 2 C.m_run (consA (getV 7) (consA (getV 11) nilA))) (getV 9)) (op2 eqV (callF 2 C.m_run (consA (getV 9) (consA (callF 2 C.m_plan (consA (getV 9) (consA (getV 7) nilA))) nilA))) (getV 7)))))))))))))))))))))
def m_right : Fn := defM 15 0 g_right
abbrev s_law : Stmt := top 36
theorem sc_law : FnScope ["_law_script", "_law_cells_here", "_law_k", "_law_box_here", "_law_turn"] ["_law_script"] (defScope s_law) := ⟨rfl, rfl, rfl, by decide +kernel, rfl, by decide +kernel, by decide +kernel⟩
def g_law : Sv := (seqS (setS 1 (callF 2 C.m_cells (consA (getV 0) (consA (cst (.d (.int 3))) nilA)))) (seqS (forS (rngI1 (callE lenV (consA (getV 1) nilA))) (setT 2) (seqS (setS 3 (callF 2 C.m_box (consA (getV 1) (consA (getV 2) nilA)))) (ifS (notT (tstE (callE allV (consA (datE (lcE [4] (rngI1 (cst (.d (.int 2)))) (setT 4) (fun _ M => .ok true M) (callF 1 m_right (consA (getV 3) nilA)))) nilA)))) (retS (cst (.d (.bool false)))) nopS))) (retS (cst (.d (.bool true))))))
def m_law : Fn := defM 5 0 g_law
end DL.K28

namespace DL.K28
open PySem PySem.Spec L2 DL
section
variable {P : Program} {w : World} {K : Frag} {mg : Str → Option Value} {base : Heap}
theorem ok_inverse {f : Addr} {fd : FuncData} (F : FunT K "inverse" "inverse" s_inverse f fd) (G : Gs mg)  : FnD P w K mg base 1 f fd ["places"] C.m_inverse :=
  fnDD F sc_inverse fun cdv A outer s H E hr ga => (dss_cons (ds_set (i := 1) sc_inverse.nd rfl (by first | exact Or.inl rfl | exact Or.inr rfl) (de_new (df_rep (de_dat (df_lst (da_cons de_int da_nil))) (de_callB cd_len rfl G.b_len PySem.boot_len (da_cons (de_var (i := 0) rfl (by first | exact Or.inl rfl | exact Or.inr (Or.inl rfl) | exact Or.inr (Or.inr rfl))) da_nil))))) (dss_cons (ds_for (passes_of rfl) rfl (di_enum rfl G.b_enumerate (de_var (i := 0) rfl (by first | exact Or.inl rfl | exact Or.inr (Or.inl rfl) | exact Or.inr (Or.inr rfl)))) (gd_tup rfl (gds_cons (gd_name (i := 2) sc_inverse.nd rfl (by first | exact Or.inl rfl | exact Or.inr rfl)) (gds_cons (gd_name (i := 3) sc_inverse.nd rfl (by first | exact Or.inl rfl | exact Or.inr rfl)) gds_nil))) (dss_one (ds_asg (de_var (i := 2) rfl (by first | exact Or.inl rfl | exact Or.inr (Or.inl rfl) | exact Or.inr (Or.inr rfl))) (gd_sub (de_var (i := 1) rfl (by first | exact Or.inl rfl | exact Or.inr (Or.inl rfl) | exact Or.inr (Or.inr rfl))) (de_var (i := 3) rfl (by first | exact Or.inl rfl | exact Or.inr (Or.inl rfl) | exact Or.inr (Or.inr rfl))))))) (dss_freeze 1 (dss_one (ds_ret (de_callTy cd_tuple rfl G.b_tuple PySem.Pv.boot_tuple (da_cons (de_var (i := 1) rfl (by first | exact Or.inl rfl | exact Or.inr (Or.inl rfl) | exact Or.inr (Or.inr rfl))) da_nil)))))))
theorem ok_sitting {f : Addr} {fd : FuncData} (F : FunT K "sitting" "sitting" s_sitting f fd) (G : Gs mg) (c_inverse : Cald P w K mg base 1 "inverse" 1 C.m_inverse) : FnD P w K mg base 2 f fd ["state"] C.m_sitting :=
  fnDD F sc_sitting fun cdv A outer s H E hr ga => (dss_cons (ds_asg (de_var (i := 0) rfl (by first | exact Or.inl rfl | exact Or.inr (Or.inl rfl) | exact Or.inr (Or.inr rfl))) (gd_seq rfl (gds_cons (gd_name (i := 1) sc_sitting.nd rfl (by first | exact Or.inl rfl | exact Or.inr rfl)) (gds_cons (gd_name (i := 2) sc_sitting.nd rfl (by first | exact Or.inl rfl | exact Or.inr rfl)) gds_nil)))) (dss_one (ds_ret (de_call c_inverse hr ga (by decide) body_takes rfl (da_cons (de_var (i := 1) rfl (by first | exact Or.inl rfl | exact Or.inr (Or.inl rfl) | exact Or.inr (Or.inr rfl))) da_nil)))))
theorem ok_as_tuples {f : Addr} {fd : FuncData} (F : FunT K "as_tuples" "as_tuples" s_as_tuples f fd) (G : Gs mg)  : FnD P w K mg base 1 f fd ["state"] C.m_as_tuples :=
  fnDD F sc_as_tuples fun cdv A outer s H E hr ga => (dss_cons (ds_asg (de_var (i := 0) rfl (by first | exact Or.inl rfl | exact Or.inr (Or.inl rfl) | exact Or.inr (Or.inr rfl))) (gd_seq rfl (gds_cons (gd_name (i := 1) sc_as_tuples.nd rfl (by first | exact Or.inl rfl | exact Or.inr rfl)) (gds_cons (gd_name (i := 2) sc_as_tuples.nd rfl (by first | exact Or.inl rfl | exact Or.inr rfl)) gds_nil)))) (dss_one (ds_ret (de_tup (da_cons (de_callTy cd_tuple rfl G.b_tuple PySem.Pv.boot_tuple (da_cons (de_var (i := 1) rfl (by first | exact Or.inl rfl | exact Or.inr (Or.inl rfl) | exact Or.inr (Or.inr rfl))) da_nil)) (da_cons (de_callTy cd_tuple rfl G.b_tuple PySem.Pv.boot_tuple (da_cons (de_var (i := 2) rfl (by first | exact Or.inl rfl | exact Or.inr (Or.inl rfl) | exact Or.inr (Or.inr rfl))) da_nil)) da_nil))))))
theorem ok_total {f : Addr} {fd : FuncData} (F : FunT K "total" "total" s_total f fd) (G : Gs mg)  : FnD P w K mg base 1 f fd ["state"] C.m_total :=
  fnDD F sc_total fun cdv A outer s H E hr ga => (dss_cons (ds_asg (de_var (i := 0) rfl (by first | exact Or.inl rfl | exact Or.inr (Or.inl rfl) | exact Or.inr (Or.inr rfl))) (gd_seq rfl (gds_cons (gd_name (i := 1) sc_total.nd rfl (by first | exact Or.inl rfl | exact Or.inr rfl)) (gds_cons (gd_name (i := 2) sc_total.nd rfl (by first | exact Or.inl rfl | exact Or.inr rfl)) gds_nil)))) (dss_one (ds_ret (de_callB (cd_sum rfl) rfl G.b_sum PyProof.Rows.boot_sum (da_cons (de_var (i := 2) rfl (by first | exact Or.inl rfl | exact Or.inr (Or.inl rfl) | exact Or.inr (Or.inr rfl))) da_nil)))))
theorem ok_residues {f : Addr} {fd : FuncData} (F : FunT K "residues" "residues" s_residues f fd) (G : Gs mg)  : FnD P w K mg base 1 f fd ["state"] C.m_residues :=
  fnDD F sc_residues fun cdv A outer s H E hr ga => (dss_cons (ds_asg (de_var (i := 0) rfl (by first | exact Or.inl rfl | exact Or.inr (Or.inl rfl) | exact Or.inr (Or.inr rfl))) (gd_seq rfl (gds_cons (gd_name (i := 1) sc_residues.nd rfl (by first | exact Or.inl rfl | exact Or.inr rfl)) (gds_cons (gd_name (i := 2) sc_residues.nd rfl (by first | exact Or.inl rfl | exact Or.inr rfl)) gds_nil)))) (dss_cons (ds_set (i := 3) sc_residues.nd rfl (by first | exact Or.inl rfl | exact Or.inr rfl) (de_callB cd_len rfl G.b_len PySem.boot_len (da_cons (de_var (i := 1) rfl (by first | exact Or.inl rfl | exact Or.inr (Or.inl rfl) | exact Or.inr (Or.inr rfl))) da_nil))) (dss_one (ds_ret (de_callTy cd_tuple rfl G.b_tuple PySem.Pv.boot_tuple (da_cons (de_dat (df_lc (own := [("seat", 4), ("coins", 5)]) rfl sc_residues.nd (di_zip rfl G.b_zip (de_var (i := 1) rfl (by first | exact Or.inl rfl | exact Or.inr (Or.inl rfl) | exact Or.inr (Or.inr rfl))) (de_var (i := 2) rfl (by first | exact Or.inl rfl | exact Or.inr (Or.inl rfl) | exact Or.inr (Or.inr rfl)))) (blkOk_by rfl) (fun _ _ _ _ _ => (gv_tup rfl (gvs_cons (gv_name (i := 4) (by decide) sc_residues.nd rfl (by first | exact Or.inl rfl | exact Or.inr rfl)) (gvs_cons (gv_name (i := 5) (by decide) sc_residues.nd rfl (by first | exact Or.inl rfl | exact Or.inr rfl)) gvs_nil)))) (fun _ _ _ _ _ => dts_nil) (fun _ _ _ _ _ => (de_op opd_mod (de_op opd_add (de_var (i := 4) rfl (by first | exact Or.inl rfl | exact Or.inr (Or.inl rfl) | exact Or.inr (Or.inr rfl))) (de_var (i := 5) rfl (by first | exact Or.inl rfl | exact Or.inr (Or.inl rfl) | exact Or.inr (Or.inr rfl)))) (de_var (i := 3) rfl (by first | exact Or.inl rfl | exact Or.inr (Or.inl rfl) | exact Or.inr (Or.inr rfl))))))) da_nil))))))
theorem ok_after_toll {f : Addr} {fd : FuncData} (F : FunT K "after_toll" "after_toll" s_after_toll f fd) (G : Gs mg)  : FnD P w K mg base 1 f fd ["state", "payer", "taker"] C.m_after_toll :=
  fnDD F sc_after_toll fun cdv A outer s H E hr ga => (dss_cons (ds_par (i := 3) (j := 4) rfl sc_after_toll.nd rfl rfl (by decide) rfl rfl (da_cons (de_new (df_list rfl G.b_list (de_ix (de_var (i := 0) rfl (by first | exact Or.inl rfl | exact Or.inr (Or.inl rfl) | exact Or.inr (Or.inr rfl))) de_int))) (da_cons (de_new (df_list rfl G.b_list (de_ix (de_var (i := 0) rfl (by first | exact Or.inl rfl | exact Or.inr (Or.inl rfl) | exact Or.inr (Or.inr rfl))) de_int))) da_nil)) rfl) (dss_cons (ds_asg (de_tup (da_cons (de_ix (de_var (i := 3) rfl (by first | exact Or.inl rfl | exact Or.inr (Or.inl rfl) | exact Or.inr (Or.inr rfl))) (de_var (i := 2) rfl (by first | exact Or.inl rfl | exact Or.inr (Or.inl rfl) | exact Or.inr (Or.inr rfl)))) (da_cons (de_ix (de_var (i := 3) rfl (by first | exact Or.inl rfl | exact Or.inr (Or.inl rfl) | exact Or.inr (Or.inr rfl))) (de_var (i := 1) rfl (by first | exact Or.inl rfl | exact Or.inr (Or.inl rfl) | exact Or.inr (Or.inr rfl)))) da_nil))) (gd_seq rfl (gds_cons (gd_sub (de_var (i := 3) rfl (by first | exact Or.inl rfl | exact Or.inr (Or.inl rfl) | exact Or.inr (Or.inr rfl))) (de_var (i := 1) rfl (by first | exact Or.inl rfl | exact Or.inr (Or.inl rfl) | exact Or.inr (Or.inr rfl)))) (gds_cons (gd_sub (de_var (i := 3) rfl (by first | exact Or.inl rfl | exact Or.inr (Or.inl rfl) | exact Or.inr (Or.inr rfl))) (de_var (i := 2) rfl (by first | exact Or.inl rfl | exact Or.inr (Or.inl rfl) | exact Or.inr (Or.inr rfl)))) gds_nil)))) (dss_freeze 3 (dss_cons (ds_augSub (de_var (i := 4) rfl (by first | exact Or.inl rfl | exact Or.inr (Or.inl rfl) | exact Or.inr (Or.inr rfl))) (de_var (i := 1) rfl (by first | exact Or.inl rfl | exact Or.inr (Or.inl rfl) | exact Or.inr (Or.inr rfl))) de_int rfl) (dss_cons (ds_augSub (de_var (i := 4) rfl (by first | exact Or.inl rfl | exact Or.inr (Or.inl rfl) | exact Or.inr (Or.inr rfl))) (de_var (i := 2) rfl (by first | exact Or.inl rfl | exact Or.inr (Or.inl rfl) | exact Or.inr (Or.inr rfl))) de_int rfl) (dss_freeze 4 (dss_one (ds_ret (de_tup (da_cons (de_callTy cd_tuple rfl G.b_tuple PySem.Pv.boot_tuple (da_cons (de_var (i := 3) rfl (by first | exact Or.inl rfl | exact Or.inr (Or.inl rfl) | exact Or.inr (Or.inr rfl))) da_nil)) (da_cons (de_callTy cd_tuple rfl G.b_tuple PySem.Pv.boot_tuple (da_cons (de_var (i := 4) rfl (by first | exact Or.inl rfl | exact Or.inr (Or.inl rfl) | exact Or.inr (Or.inr rfl))) da_nil)) da_nil)))))))))))
theorem ok_exchanged {f : Addr} {fd : FuncData} (F : FunT K "exchanged" "exchanged" s_exchanged f fd) (G : Gs mg) (c_sitting : Cald P w K mg base 2 "sitting" 1 C.m_sitting) (c_after_toll : Cald P w K mg base 1 "after_toll" 3 C.m_after_toll) : FnD P w K mg base 3 f fd ["state", "seat"] C.m_exchanged :=
  fnDD F sc_exchanged fun cdv A outer s H E hr ga => (dss_cons (ds_set (i := 2) sc_exchanged.nd rfl (by first | exact Or.inl rfl | exact Or.inr rfl) (de_call c_sitting hr ga (by decide) body_takes rfl (da_cons (de_var (i := 0) rfl (by first | exact Or.inl rfl | exact Or.inr (Or.inl rfl) | exact Or.inr (Or.inr rfl))) da_nil))) (dss_cons (ds_if (dt_w (dw_or (dt_cmp opd_lt (de_var (i := 1) rfl (by first | exact Or.inl rfl | exact Or.inr (Or.inl rfl) | exact Or.inr (Or.inr rfl))) de_int) (dw_or1 (dt_cmp opd_ge (de_var (i := 1) rfl (by first | exact Or.inl rfl | exact Or.inr (Or.inl rfl) | exact Or.inr (Or.inr rfl))) (de_callB cd_len rfl G.b_len PySem.boot_len (da_cons (de_var (i := 2) rfl (by first | exact Or.inl rfl | exact Or.inr (Or.inl rfl) | exact Or.inr (Or.inr rfl))) da_nil)))))) (dss_one ds_no) dss_nil) (dss_cons (ds_set (i := 3) sc_exchanged.nd rfl (by first | exact Or.inl rfl | exact Or.inr rfl) (de_ix (de_var (i := 2) rfl (by first | exact Or.inl rfl | exact Or.inr (Or.inl rfl) | exact Or.inr (Or.inr rfl))) (de_var (i := 1) rfl (by first | exact Or.inl rfl | exact Or.inr (Or.inl rfl) | exact Or.inr (Or.inr rfl))))) (dss_cons (ds_asg (de_var (i := 0) rfl (by first | exact Or.inl rfl | exact Or.inr (Or.inl rfl) | exact Or.inr (Or.inr rfl))) (gd_seq rfl (gds_cons (gd_name (i := 4) sc_exchanged.nd rfl (by first | exact Or.inl rfl | exact Or.inr rfl)) (gds_cons (gd_name (i := 5) sc_exchanged.nd rfl (by first | exact Or.inl rfl | exact Or.inr rfl)) gds_nil)))) (dss_cons (ds_if (dt_cmp (opd_eq hr.units) (de_ix (de_var (i := 5) rfl (by first | exact Or.inl rfl | exact Or.inr (Or.inl rfl) | exact Or.inr (Or.inr rfl))) (de_var (i := 3) rfl (by first | exact Or.inl rfl | exact Or.inr (Or.inl rfl) | exact Or.inr (Or.inr rfl)))) de_int) (dss_one ds_no) dss_nil) (dss_one (ds_ret (de_call c_after_toll hr ga (by decide) body_takes rfl (da_cons (de_var (i := 0) rfl (by first | exact Or.inl rfl | exact Or.inr (Or.inl rfl) | exact Or.inr (Or.inr rfl))) (da_cons (de_var (i := 3) rfl (by first | exact Or.inl rfl | exact Or.inr (Or.inl rfl) | exact Or.inr (Or.inr rfl))) (da_cons (de_ix (de_var (i := 2) rfl (by first | exact Or.inl rfl | exact Or.inr (Or.inl rfl) | exact Or.inr (Or.inr rfl))) (de_op opd_mod (de_op opd_add (de_var (i := 1) rfl (by first | exact Or.inl rfl | exact Or.inr (Or.inl rfl) | exact Or.inr (Or.inr rfl))) de_int) (de_callB cd_len rfl G.b_len PySem.boot_len (da_cons (de_var (i := 2) rfl (by first | exact Or.inl rfl | exact Or.inr (Or.inl rfl) | exact Or.inr (Or.inr rfl))) da_nil)))) da_nil)))))))))))
theorem ok_run {f : Addr} {fd : FuncData} (F : FunT K "run" "run" s_run f fd) (G : Gs mg) (c_as_tuples : Cald P w K mg base 1 "as_tuples" 1 C.m_as_tuples) (c_exchanged : Cald P w K mg base 3 "exchanged" 2 C.m_exchanged) : FnD P w K mg base 4 f fd ["state", "row"] C.m_run :=
  fnDD F sc_run fun cdv A outer s H E hr ga => (dss_cons (ds_set (i := 2) sc_run.nd rfl (by first | exact Or.inl rfl | exact Or.inr rfl) (de_call c_as_tuples hr ga (by decide) body_takes rfl (da_cons (de_var (i := 0) rfl (by first | exact Or.inl rfl | exact Or.inr (Or.inl rfl) | exact Or.inr (Or.inr rfl))) da_nil))) (dss_cons (ds_for (passes_of rfl) rfl (di_seq (de_var (i := 1) rfl (by first | exact Or.inl rfl | exact Or.inr (Or.inl rfl) | exact Or.inr (Or.inr rfl)))) (gd_name (i := 3) sc_run.nd rfl (by first | exact Or.inl rfl | exact Or.inr rfl)) (dss_one (ds_set (i := 2) sc_run.nd rfl (by first | exact Or.inl rfl | exact Or.inr rfl) (de_call c_exchanged hr ga (by decide) body_takes rfl (da_cons (de_var (i := 2) rfl (by first | exact Or.inl rfl | exact Or.inr (Or.inl rfl) | exact Or.inr (Or.inr rfl))) (da_cons (de_var (i := 3) rfl (by first | exact Or.inl rfl | exact Or.inr (Or.inl rfl) | exact Or.inr (Or.inr rfl))) da_nil)))))) (dss_one (ds_ret (de_var (i := 2) rfl (by first | exact Or.inl rfl | exact Or.inr (Or.inl rfl) | exact Or.inr (Or.inr rfl)))))))
theorem ok_kept {f : Addr} {fd : FuncData} (F : FunT K "kept" "kept" s_kept f fd) (G : Gs mg) (c_residues : Cald P w K mg base 1 "residues" 1 C.m_residues) (c_total : Cald P w K mg base 1 "total" 1 C.m_total) : FnD P w K mg base 2 f fd ["state"] C.m_kept :=
  fnDD F sc_kept fun cdv A outer s H E hr ga => (dss_one (ds_ret (de_tup (da_cons (de_call c_residues hr ga (by decide) body_takes rfl (da_cons (de_var (i := 0) rfl (by first | exact Or.inl rfl | exact Or.inr (Or.inl rfl) | exact Or.inr (Or.inr rfl))) da_nil)) (da_cons (de_call c_total hr ga (by decide) body_takes rfl (da_cons (de_var (i := 0) rfl (by first | exact Or.inl rfl | exact Or.inr (Or.inl rfl) | exact Or.inr (Or.inr rfl))) da_nil)) da_nil)))))
theorem ok_check_people {f : Addr} {fd : FuncData} (F : FunT K "check_people" "check_people" s_check_people f fd) (G : Gs mg)  : FnD P w K mg base 1 f fd ["one", "other"] C.m_check_people :=
  fnDD F sc_check_people fun cdv A outer s H E hr ga => (dss_cons (ds_set (i := 2) sc_check_people.nd rfl (by first | exact Or.inl rfl | exact Or.inr rfl) (de_callB cd_len rfl G.b_len PySem.boot_len (da_cons (de_ix (de_var (i := 1) rfl (by first | exact Or.inl rfl | exact Or.inr (Or.inl rfl) | exact Or.inr (Or.inr rfl))) de_int) da_nil))) (dss_one (ds_if (dt_cmp (opd_ne hr.units) (de_callB cd_len rfl G.b_len PySem.boot_len (da_cons (de_ix (de_var (i := 0) rfl (by first | exact Or.inl rfl | exact Or.inr (Or.inl rfl) | exact Or.inr (Or.inr rfl))) de_int) da_nil)) (de_var (i := 2) rfl (by first | exact Or.inl rfl | exact Or.inr (Or.inl rfl) | exact Or.inr (Or.inr rfl)))) (dss_one ds_no) dss_nil)))
theorem ok_bar {f : Addr} {fd : FuncData} (F : FunT K "bar" "bar" s_bar f fd) (G : Gs mg) (c_check_people : Cald P w K mg base 1 "check_people" 2 C.m_check_people) (c_kept : Cald P w K mg base 2 "kept" 1 C.m_kept) : FnD P w K mg base 3 f fd ["one", "other"] C.m_bar :=
  fnDD F sc_bar fun cdv A outer s H E hr ga => (dss_cons (ds_expr (de_call c_check_people hr ga (by decide) body_takes rfl (da_cons (de_var (i := 0) rfl (by first | exact Or.inl rfl | exact Or.inr (Or.inl rfl) | exact Or.inr (Or.inr rfl))) (da_cons (de_var (i := 1) rfl (by first | exact Or.inl rfl | exact Or.inr (Or.inl rfl) | exact Or.inr (Or.inr rfl))) da_nil)))) (dss_cons (ds_asg (de_call c_kept hr ga (by decide) body_takes rfl (da_cons (de_var (i := 0) rfl (by first | exact Or.inl rfl | exact Or.inr (Or.inl rfl) | exact Or.inr (Or.inr rfl))) da_nil)) (gd_seq rfl (gds_cons (gd_name (i := 2) sc_bar.nd rfl (by first | exact Or.inl rfl | exact Or.inr rfl)) (gds_cons (gd_name (i := 3) sc_bar.nd rfl (by first | exact Or.inl rfl | exact Or.inr rfl)) gds_nil)))) (dss_cons (ds_asg (de_call c_kept hr ga (by decide) body_takes rfl (da_cons (de_var (i := 1) rfl (by first | exact Or.inl rfl | exact Or.inr (Or.inl rfl) | exact Or.inr (Or.inr rfl))) da_nil)) (gd_seq rfl (gds_cons (gd_name (i := 4) sc_bar.nd rfl (by first | exact Or.inl rfl | exact Or.inr rfl)) (gds_cons (gd_name (i := 5) sc_bar.nd rfl (by first | exact Or.inl rfl | exact Or.inr rfl)) gds_nil)))) (dss_cons (ds_if (dt_cmp (opd_ne hr.units) (de_var (i := 3) rfl (by first | exact Or.inl rfl | exact Or.inr (Or.inl rfl) | exact Or.inr (Or.inr rfl))) (de_var (i := 5) rfl (by first | exact Or.inl rfl | exact Or.inr (Or.inl rfl) | exact Or.inr (Or.inr rfl)))) (dss_one (ds_ret de_str)) dss_nil) (dss_cons (ds_for (passes_of rfl) rfl (di_enum rfl G.b_enumerate (de_var (i := 2) rfl (by first | exact Or.inl rfl | exact Or.inr (Or.inl rfl) | exact Or.inr (Or.inr rfl)))) (gd_tup rfl (gds_cons (gd_name (i := 6) sc_bar.nd rfl (by first | exact Or.inl rfl | exact Or.inr rfl)) (gds_cons (gd_name (i := 7) sc_bar.nd rfl (by first | exact Or.inl rfl | exact Or.inr rfl)) gds_nil))) (dss_one (ds_if (dt_cmp (opd_ne hr.units) (de_var (i := 7) rfl (by first | exact Or.inl rfl | exact Or.inr (Or.inl rfl) | exact Or.inr (Or.inr rfl))) (de_ix (de_var (i := 4) rfl (by first | exact Or.inl rfl | exact Or.inr (Or.inl rfl) | exact Or.inr (Or.inr rfl))) (de_var (i := 6) rfl (by first | exact Or.inl rfl | exact Or.inr (Or.inl rfl) | exact Or.inr (Or.inr rfl))))) (dss_one (ds_ret (de_var (i := 6) rfl (by first | exact Or.inl rfl | exact Or.inr (Or.inl rfl) | exact Or.inr (Or.inr rfl))))) dss_nil))) (dss_one (ds_ret de_non)))))))
theorem ok_leads {f : Addr} {fd : FuncData} (F : FunT K "leads" "leads" s_leads f fd) (G : Gs mg) (c_bar : Cald P w K mg base 3 "bar" 2 C.m_bar) : FnD P w K mg base 4 f fd ["one", "other"] C.m_leads :=
  fnDD F sc_leads fun cdv A outer s H E hr ga => (dss_one (ds_ret (de_cmp opd_is (de_call c_bar hr ga (by decide) body_takes rfl (da_cons (de_var (i := 0) rfl (by first | exact Or.inl rfl | exact Or.inr (Or.inl rfl) | exact Or.inr (Or.inr rfl))) (da_cons (de_var (i := 1) rfl (by first | exact Or.inl rfl | exact Or.inr (Or.inl rfl) | exact Or.inr (Or.inr rfl))) da_nil))) de_non)))
theorem ok_check_leads {f : Addr} {fd : FuncData} (F : FunT K "check_leads" "check_leads" s_check_leads f fd) (G : Gs mg) (c_bar : Cald P w K mg base 3 "bar" 2 C.m_bar) : FnD P w K mg base 4 f fd ["one", "other"] C.m_check_leads :=
  fnDD F sc_check_leads fun cdv A outer s H E hr ga => (dss_cons (ds_set (i := 2) sc_check_leads.nd rfl (by first | exact Or.inl rfl | exact Or.inr rfl) (de_call c_bar hr ga (by decide) body_takes rfl (da_cons (de_var (i := 0) rfl (by first | exact Or.inl rfl | exact Or.inr (Or.inl rfl) | exact Or.inr (Or.inr rfl))) (da_cons (de_var (i := 1) rfl (by first | exact Or.inl rfl | exact Or.inr (Or.inl rfl) | exact Or.inr (Or.inr rfl))) da_nil)))) (dss_one (ds_if (dt_cmp opd_isnt (de_var (i := 2) rfl (by first | exact Or.inl rfl | exact Or.inr (Or.inl rfl) | exact Or.inr (Or.inr rfl))) de_non) (dss_one ds_no) dss_nil)))
theorem ok_shifts {f : Addr} {fd : FuncData} (F : FunT K "shifts" "shifts" s_shifts f fd) (G : Gs mg) (c_check_leads : Cald P w K mg base 4 "check_leads" 2 C.m_check_leads) : FnD P w K mg base 5 f fd ["one", "other"] C.m_shifts :=
  fnDD F sc_shifts fun cdv A outer s H E hr ga => (dss_cons (ds_expr (de_call c_check_leads hr ga (by decide) body_takes rfl (da_cons (de_var (i := 0) rfl (by first | exact Or.inl rfl | exact Or.inr (Or.inl rfl) | exact Or.inr (Or.inr rfl))) (da_cons (de_var (i := 1) rfl (by first | exact Or.inl rfl | exact Or.inr (Or.inl rfl) | exact Or.inr (Or.inr rfl))) da_nil)))) (dss_one (ds_ret (de_callTy cd_tuple rfl G.b_tuple PySem.Pv.boot_tuple (da_cons (de_dat (df_lc (own := [("before", 2), ("after", 3)]) rfl sc_shifts.nd (di_zip rfl G.b_zip (de_ix (de_var (i := 0) rfl (by first | exact Or.inl rfl | exact Or.inr (Or.inl rfl) | exact Or.inr (Or.inr rfl))) de_int) (de_ix (de_var (i := 1) rfl (by first | exact Or.inl rfl | exact Or.inr (Or.inl rfl) | exact Or.inr (Or.inr rfl))) de_int)) (blkOk_by rfl) (fun _ _ _ _ _ => (gv_tup rfl (gvs_cons (gv_name (i := 2) (by decide) sc_shifts.nd rfl (by first | exact Or.inl rfl | exact Or.inr rfl)) (gvs_cons (gv_name (i := 3) (by decide) sc_shifts.nd rfl (by first | exact Or.inl rfl | exact Or.inr rfl)) gvs_nil)))) (fun _ _ _ _ _ => dts_nil) (fun _ _ _ _ _ => (de_op opd_sub (de_var (i := 2) rfl (by first | exact Or.inl rfl | exact Or.inr (Or.inl rfl) | exact Or.inr (Or.inr rfl))) (de_var (i := 3) rfl (by first | exact Or.inl rfl | exact Or.inr (Or.inl rfl) | exact Or.inr (Or.inr rfl))))))) da_nil)))))
theorem ok_crossings {f : Addr} {fd : FuncData} (F : FunT K "crossings" "crossings" s_crossings f fd) (G : Gs mg) (c_shifts : Cald P w K mg base 5 "shifts" 2 C.m_shifts) : FnD P w K mg base 6 f fd ["one", "other"] C.m_crossings :=
  fnDD F sc_crossings fun cdv A outer s H E hr ga => (dss_cons (ds_set (i := 2) sc_crossings.nd rfl (by first | exact Or.inl rfl | exact Or.inr rfl) (de_call c_shifts hr ga (by decide) body_takes rfl (da_cons (de_var (i := 0) rfl (by first | exact Or.inl rfl | exact Or.inr (Or.inl rfl) | exact Or.inr (Or.inr rfl))) (da_cons (de_var (i := 1) rfl (by first | exact Or.inl rfl | exact Or.inr (Or.inl rfl) | exact Or.inr (Or.inr rfl))) da_nil)))) (dss_cons (ds_asg (de_var (i := 0) rfl (by first | exact Or.inl rfl | exact Or.inr (Or.inl rfl) | exact Or.inr (Or.inr rfl))) (gd_seq rfl (gds_cons (gd_name (i := 3) sc_crossings.nd rfl (by first | exact Or.inl rfl | exact Or.inr rfl)) (gds_cons (gd_name (i := 4) sc_crossings.nd rfl (by first | exact Or.inl rfl | exact Or.inr rfl)) gds_nil)))) (dss_cons (ds_set (i := 5) sc_crossings.nd rfl (by first | exact Or.inl rfl | exact Or.inr rfl) (de_callB cd_len rfl G.b_len PySem.boot_len (da_cons (de_var (i := 3) rfl (by first | exact Or.inl rfl | exact Or.inr (Or.inl rfl) | exact Or.inr (Or.inr rfl))) da_nil))) (dss_cons (ds_setLc (i := 6) (own := [("seat", 11), ("step", 12)]) rfl sc_crossings.nd rfl rfl rfl (di_zip rfl G.b_zip (de_var (i := 3) rfl (by first | exact Or.inl rfl | exact Or.inr (Or.inl rfl) | exact Or.inr (Or.inr rfl))) (de_var (i := 2) rfl (by first | exact Or.inl rfl | exact Or.inr (Or.inl rfl) | exact Or.inr (Or.inr rfl)))) (blkOk_by rfl) (fun _ _ _ _ _ => (gv_tup rfl (gvs_cons (gv_name (i := 11) (by decide) sc_crossings.nd rfl (by first | exact Or.inl rfl | exact Or.inr rfl)) (gvs_cons (gv_name (i := 12) (by decide) sc_crossings.nd rfl (by first | exact Or.inl rfl | exact Or.inr rfl)) gvs_nil)))) (fun _ _ _ _ _ => dts_nil) (fun _ _ _ _ _ => (de_op opd_add (de_var (i := 11) rfl (by first | exact Or.inl rfl | exact Or.inr (Or.inl rfl) | exact Or.inr (Or.inr rfl))) (de_var (i := 12) rfl (by first | exact Or.inl rfl | exact Or.inr (Or.inl rfl) | exact Or.inr (Or.inr rfl)))))) (dss_cons (ds_set (i := 7) sc_crossings.nd rfl (by first | exact Or.inl rfl | exact Or.inr rfl) (de_new (df_lst da_nil))) (dss_cons (ds_for (passes_of rfl) rfl (di_range1 rfl G.b_range (de_var (i := 5) rfl (by first | exact Or.inl rfl | exact Or.inr (Or.inl rfl) | exact Or.inr (Or.inr rfl)))) (gd_name (i := 8) sc_crossings.nd rfl (by first | exact Or.inl rfl | exact Or.inr rfl)) (dss_one (ds_for (passes_of rfl) rfl (di_range2 rfl G.b_range (de_op opd_add (de_var (i := 8) rfl (by first | exact Or.inl rfl | exact Or.inr (Or.inl rfl) | exact Or.inr (Or.inr rfl))) de_int) (de_var (i := 5) rfl (by first | exact Or.inl rfl | exact Or.inr (Or.inl rfl) | exact Or.inr (Or.inr rfl)))) (gd_name (i := 9) sc_crossings.nd rfl (by first | exact Or.inl rfl | exact Or.inr rfl)) (dss_cons (ds_set (i := 10) sc_crossings.nd rfl (by first | exact Or.inl rfl | exact Or.inr rfl) (de_callB cd_abs rfl G.b_abs PyProof.Rows.boot_abs (da_cons (de_op opd_sub (de_op opd_fdiv (de_op opd_sub (de_ix (de_var (i := 6) rfl (by first | exact Or.inl rfl | exact Or.inr (Or.inl rfl) | exact Or.inr (Or.inr rfl))) (de_var (i := 9) rfl (by first | exact Or.inl rfl | exact Or.inr (Or.inl rfl) | exact Or.inr (Or.inr rfl)))) (de_ix (de_var (i := 6) rfl (by first | exact Or.inl rfl | exact Or.inr (Or.inl rfl) | exact Or.inr (Or.inr rfl))) (de_var (i := 8) rfl (by first | exact Or.inl rfl | exact Or.inr (Or.inl rfl) | exact Or.inr (Or.inr rfl))))) (de_var (i := 5) rfl (by first | exact Or.inl rfl | exact Or.inr (Or.inl rfl) | exact Or.inr (Or.inr rfl)))) (de_op opd_fdiv (de_op opd_sub (de_ix (de_var (i := 3) rfl (by first | exact Or.inl rfl | exact Or.inr (Or.inl rfl) | exact Or.inr (Or.inr rfl))) (de_var (i := 9) rfl (by first | exact Or.inl rfl | exact Or.inr (Or.inl rfl) | exact Or.inr (Or.inr rfl)))) (de_ix (de_var (i := 3) rfl (by first | exact Or.inl rfl | exact Or.inr (Or.inl rfl) | exact Or.inr (Or.inr rfl))) (de_var (i := 8) rfl (by first | exact Or.inl rfl | exact Or.inr (Or.inl rfl) | exact Or.inr (Or.inr rfl))))) (de_var (i := 5) rfl (by first | exact Or.inl rfl | exact Or.inr (Or.inl rfl) | exact Or.inr (Or.inr rfl))))) da_nil))) (dss_one (ds_if (dt_cmp opd_gt (de_var (i := 10) rfl (by first | exact Or.inl rfl | exact Or.inr (Or.inl rfl) | exact Or.inr (Or.inr rfl))) de_int) (dss_one (ds_expr (de_m PySem.F.plainAttrs_list PySem.F.slot_list_append PySem.F.type_list_append md_append (de_var (i := 7) rfl (by first | exact Or.inl rfl | exact Or.inr (Or.inl rfl) | exact Or.inr (Or.inr rfl))) (da_cons (de_tup (da_cons (de_var (i := 8) rfl (by first | exact Or.inl rfl | exact Or.inr (Or.inl rfl) | exact Or.inr (Or.inr rfl))) (da_cons (de_var (i := 9) rfl (by first | exact Or.inl rfl | exact Or.inr (Or.inl rfl) | exact Or.inr (Or.inr rfl))) (da_cons (de_var (i := 10) rfl (by first | exact Or.inl rfl | exact Or.inr (Or.inl rfl) | exact Or.inr (Or.inr rfl))) da_nil)))) da_nil)))) dss_nil)))))) (dss_freeze 7 (dss_one (ds_ret (de_var (i := 7) rfl (by first | exact Or.inl rfl | exact Or.inr (Or.inl rfl) | exact Or.inr (Or.inr rfl))))))))))))
theorem ok_distance {f : Addr} {fd : FuncData} (F : FunT K "distance" "distance" s_distance f fd) (G : Gs mg) (c_crossings : Cald P w K mg base 6 "crossings" 2 C.m_crossings) : FnD P w K mg base 7 f fd ["one", "other"] C.m_distance :=
  fnDD F sc_distance fun cdv A outer s H E hr ga => (dss_one (ds_ret (de_callB (cd_sum rfl) rfl G.b_sum PyProof.Rows.boot_sum (da_cons (de_dat (df_lc (own := [("crossing", 2)]) rfl sc_distance.nd (di_seq (de_call c_crossings hr ga (by decide) body_takes rfl (da_cons (de_var (i := 0) rfl (by first | exact Or.inl rfl | exact Or.inr (Or.inl rfl) | exact Or.inr (Or.inr rfl))) (da_cons (de_var (i := 1) rfl (by first | exact Or.inl rfl | exact Or.inr (Or.inl rfl) | exact Or.inr (Or.inr rfl))) da_nil)))) (blkOk_by rfl) (fun _ _ _ _ _ => (gv_name (i := 2) (by decide) sc_distance.nd rfl (by first | exact Or.inl rfl | exact Or.inr rfl))) (fun _ _ _ _ _ => dts_nil) (fun _ _ _ _ _ => (de_ix (de_var (i := 2) rfl (by first | exact Or.inl rfl | exact Or.inr (Or.inl rfl) | exact Or.inr (Or.inr rfl))) de_int)))) da_nil))))
theorem ok_nearer {f : Addr} {fd : FuncData} (F : FunT K "nearer" "nearer" s_nearer f fd) (G : Gs mg) (c_shifts : Cald P w K mg base 5 "shifts" 2 C.m_shifts) (c_sitting : Cald P w K mg base 2 "sitting" 1 C.m_sitting) : FnD P w K mg base 6 f fd ["one", "other"] C.m_nearer :=
  fnDD F sc_nearer fun cdv A outer s H E hr ga => (dss_cons (ds_set (i := 2) sc_nearer.nd rfl (by first | exact Or.inl rfl | exact Or.inr rfl) (de_call c_shifts hr ga (by decide) body_takes rfl (da_cons (de_var (i := 0) rfl (by first | exact Or.inl rfl | exact Or.inr (Or.inl rfl) | exact Or.inr (Or.inr rfl))) (da_cons (de_var (i := 1) rfl (by first | exact Or.inl rfl | exact Or.inr (Or.inl rfl) | exact Or.inr (Or.inr rfl))) da_nil)))) (dss_cons (ds_set (i := 3) sc_nearer.nd rfl (by first | exact Or.inl rfl | exact Or.inr rfl) (de_callB (cd_maxT rfl hr.units) rfl G.b_max PyProof.Rows.boot_max (da_cons (de_var (i := 2) rfl (by first | exact Or.inl rfl | exact Or.inr (Or.inl rfl) | exact Or.inr (Or.inr rfl))) da_nil))) (dss_cons (ds_set (i := 4) sc_nearer.nd rfl (by first | exact Or.inl rfl | exact Or.inr rfl) (de_call c_sitting hr ga (by decide) body_takes rfl (da_cons (de_var (i := 0) rfl (by first | exact Or.inl rfl | exact Or.inr (Or.inl rfl) | exact Or.inr (Or.inr rfl))) da_nil))) (dss_cons (ds_for (passes_of rfl) rfl (di_enum rfl G.b_enumerate (de_var (i := 4) rfl (by first | exact Or.inl rfl | exact Or.inr (Or.inl rfl) | exact Or.inr (Or.inr rfl)))) (gd_tup rfl (gds_cons (gd_name (i := 5) sc_nearer.nd rfl (by first | exact Or.inl rfl | exact Or.inr rfl)) (gds_cons (gd_name (i := 6) sc_nearer.nd rfl (by first | exact Or.inl rfl | exact Or.inr rfl)) gds_nil))) (dss_cons (ds_set (i := 7) sc_nearer.nd rfl (by first | exact Or.inl rfl | exact Or.inr rfl) (de_ix (de_var (i := 4) rfl (by first | exact Or.inl rfl | exact Or.inr (Or.inl rfl) | exact Or.inr (Or.inr rfl))) (de_op opd_mod (de_op opd_add (de_var (i := 5) rfl (by first | exact Or.inl rfl | exact Or.inr (Or.inl rfl) | exact Or.inr (Or.inr rfl))) de_int) (de_callB cd_len rfl G.b_len PySem.boot_len (da_cons (de_var (i := 4) rfl (by first | exact Or.inl rfl | exact Or.inr (Or.inl rfl) | exact Or.inr (Or.inr rfl))) da_nil))))) (dss_one (ds_if (dt_w (dw_and (dt_cmp (opd_eq hr.units) (de_ix (de_var (i := 2) rfl (by first | exact Or.inl rfl | exact Or.inr (Or.inl rfl) | exact Or.inr (Or.inr rfl))) (de_var (i := 6) rfl (by first | exact Or.inl rfl | exact Or.inr (Or.inl rfl) | exact Or.inr (Or.inr rfl)))) (de_var (i := 3) rfl (by first | exact Or.inl rfl | exact Or.inr (Or.inl rfl) | exact Or.inr (Or.inr rfl)))) (dw_and1 (dt_cmp opd_lt (de_ix (de_var (i := 2) rfl (by first | exact Or.inl rfl | exact Or.inr (Or.inl rfl) | exact Or.inr (Or.inr rfl))) (de_var (i := 7) rfl (by first | exact Or.inl rfl | exact Or.inr (Or.inl rfl) | exact Or.inr (Or.inr rfl)))) (de_var (i := 3) rfl (by first | exact Or.inl rfl | exact Or.inr (Or.inl rfl) | exact Or.inr (Or.inr rfl))))))) (dss_one (ds_ret (de_var (i := 5) rfl (by first | exact Or.inl rfl | exact Or.inr (Or.inl rfl) | exact Or.inr (Or.inr rfl))))) dss_nil)))) (dss_one (ds_ret de_non))))))
theorem ok_plan {f : Addr} {fd : FuncData} (F : FunT K "plan" "plan" s_plan f fd) (G : Gs mg) (c_distance : Cald P w K mg base 7 "distance" 2 C.m_distance) (c_nearer : Cald P w K mg base 6 "nearer" 2 C.m_nearer) (c_exchanged : Cald P w K mg base 3 "exchanged" 2 C.m_exchanged) : FnD P w K mg base 8 f fd ["one", "other"] C.m_plan :=
  fnDD F sc_plan fun cdv A outer s H E hr ga => (dss_cons (ds_set (i := 2) sc_plan.nd rfl (by first | exact Or.inl rfl | exact Or.inr rfl) (de_call c_distance hr ga (by decide) body_takes rfl (da_cons (de_var (i := 0) rfl (by first | exact Or.inl rfl | exact Or.inr (Or.inl rfl) | exact Or.inr (Or.inr rfl))) (da_cons (de_var (i := 1) rfl (by first | exact Or.inl rfl | exact Or.inr (Or.inl rfl) | exact Or.inr (Or.inr rfl))) da_nil)))) (dss_cons (ds_if (dt_cmp opd_gt (de_var (i := 2) rfl (by first | exact Or.inl rfl | exact Or.inr (Or.inl rfl) | exact Or.inr (Or.inr rfl))) (de_gint rfl G.i_MOST_STEPS)) (dss_one ds_no) dss_nil) (dss_cons (ds_set (i := 3) sc_plan.nd rfl (by first | exact Or.inl rfl | exact Or.inr rfl) (de_var (i := 0) rfl (by first | exact Or.inl rfl | exact Or.inr (Or.inl rfl) | exact Or.inr (Or.inr rfl)))) (dss_cons (ds_set (i := 4) sc_plan.nd rfl (by first | exact Or.inl rfl | exact Or.inr rfl) (de_new (df_lst da_nil))) (dss_cons (ds_for (passes_of rfl) rfl (di_range1 rfl G.b_range (de_var (i := 2) rfl (by first | exact Or.inl rfl | exact Or.inr (Or.inl rfl) | exact Or.inr (Or.inr rfl)))) (gd_name (i := 5) sc_plan.nd rfl (by first | exact Or.inl rfl | exact Or.inr rfl)) (dss_cons (ds_set (i := 6) sc_plan.nd rfl (by first | exact Or.inl rfl | exact Or.inr rfl) (de_call c_nearer hr ga (by decide) body_takes rfl (da_cons (de_var (i := 3) rfl (by first | exact Or.inl rfl | exact Or.inr (Or.inl rfl) | exact Or.inr (Or.inr rfl))) (da_cons (de_var (i := 1) rfl (by first | exact Or.inl rfl | exact Or.inr (Or.inl rfl) | exact Or.inr (Or.inr rfl))) da_nil)))) (dss_cons (ds_expr (de_m PySem.F.plainAttrs_list PySem.F.slot_list_append PySem.F.type_list_append md_append (de_var (i := 4) rfl (by first | exact Or.inl rfl | exact Or.inr (Or.inl rfl) | exact Or.inr (Or.inr rfl))) (da_cons (de_var (i := 6) rfl (by first | exact Or.inl rfl | exact Or.inr (Or.inl rfl) | exact Or.inr (Or.inr rfl))) da_nil))) (dss_one (ds_set (i := 3) sc_plan.nd rfl (by first | exact Or.inl rfl | exact Or.inr rfl) (de_call c_exchanged hr ga (by decide) body_takes rfl (da_cons (de_var (i := 3) rfl (by first | exact Or.inl rfl | exact Or.inr (Or.inl rfl) | exact Or.inr (Or.inr rfl))) (da_cons (de_var (i := 6) rfl (by first | exact Or.inl rfl | exact Or.inr (Or.inl rfl) | exact Or.inr (Or.inr rfl))) da_nil)))))))) (dss_freeze 4 (dss_one (ds_ret (de_var (i := 4) rfl (by first | exact Or.inl rfl | exact Or.inr (Or.inl rfl) | exact Or.inr (Or.inr rfl)))))))))))
theorem ok_box {f : Addr} {fd : FuncData} (F : FunT K "_law_box" "_law_box" s_box f fd) (G : Gs mg)  : FnD P w K mg base 1 f fd ["_law_script", "_law_k"] C.m_box :=
  fnDD F sc_box fun cdv A outer s H E hr ga => (dss_cons (ds_set (i := 2) sc_box.nd rfl (by first | exact Or.inl rfl | exact Or.inr rfl) (de_if (dt_cmp opd_lt (de_var (i := 1) rfl (by first | exact Or.inl rfl | exact Or.inr (Or.inl rfl) | exact Or.inr (Or.inr rfl))) (de_callB cd_len rfl G.b_len PySem.boot_len (da_cons (de_var (i := 0) rfl (by first | exact Or.inl rfl | exact Or.inr (Or.inl rfl) | exact Or.inr (Or.inr rfl))) da_nil))) (de_ix (de_var (i := 0) rfl (by first | exact Or.inl rfl | exact Or.inr (Or.inl rfl) | exact Or.inr (Or.inr rfl))) (de_var (i := 1) rfl (by first | exact Or.inl rfl | exact Or.inr (Or.inl rfl) | exact Or.inr (Or.inr rfl)))) de_int)) (dss_one (ds_ret (de_new (df_lst (da_cons (de_op opd_mul (de_callB cd_abs rfl G.b_abs PyProof.Rows.boot_abs (da_cons (de_var (i := 2) rfl (by first | exact Or.inl rfl | exact Or.inr (Or.inl rfl) | exact Or.inr (Or.inr rfl))) da_nil)) (de_callTy cd_int rfl G.b_int PySem.Pv.boot_int (da_cons (de_cmp opd_ge (de_callB cd_abs rfl G.b_abs PyProof.Rows.boot_abs (da_cons (de_var (i := 2) rfl (by first | exact Or.inl rfl | exact Or.inr (Or.inl rfl) | exact Or.inr (Or.inr rfl))) da_nil)) (de_op opd_pow de_int de_int)) da_nil))) (da_cons (de_op opd_add (de_op opd_add (de_op opd_mod (de_var (i := 2) rfl (by first | exact Or.inl rfl | exact Or.inr (Or.inl rfl) | exact Or.inr (Or.inr rfl))) de_int) (de_op opd_mul de_int (de_var (i := 1) rfl (by first | exact Or.inl rfl | exact Or.inr (Or.inl rfl) | exact Or.inr (Or.inr rfl))))) de_int) (da_cons de_int da_nil))))))))
theorem ok_take {f : Addr} {fd : FuncData} (F : FunT K "_law_take" "_law_take" s_take f fd) (hm : mg "_law_take" = some (.ref f)) (G : Gs mg)  : ∀ n : Nat, FnD P w K mg base (0 + n) f fd ["_law_box_here", "_law_span"] (C.m_take n)
  | 0 => fnD0
  | n + 1 => by
    have c_take : Cald P w K mg base (0 + n) "_law_take" 2 (C.m_take n) := cald_of F hm (ok_take F hm G  n) (fun _ _ _ _ _ _ us hl => match us, hl with | [_, _], _ => rfl)
    exact fnDD F sc_take fun cdv A outer s H E hr ga => (dss_cons (ds_if (dt_cmp opd_gt (de_ix (de_var (i := 0) rfl (by first | exact Or.inl rfl | exact Or.inr (Or.inl rfl) | exact Or.inr (Or.inr rfl))) de_int) de_int) (dss_cons (ds_set (i := 2) sc_take.nd rfl (by first | exact Or.inl rfl | exact Or.inr rfl) (de_op opd_mod (de_ix (de_var (i := 0) rfl (by first | exact Or.inl rfl | exact Or.inr (Or.inl rfl) | exact Or.inr (Or.inr rfl))) de_int) (de_var (i := 1) rfl (by first | exact Or.inl rfl | exact Or.inr (Or.inl rfl) | exact Or.inr (Or.inr rfl))))) (dss_cons (ds_asg (de_op opd_fdiv (de_ix (de_var (i := 0) rfl (by first | exact Or.inl rfl | exact Or.inr (Or.inl rfl) | exact Or.inr (Or.inr rfl))) de_int) (de_var (i := 1) rfl (by first | exact Or.inl rfl | exact Or.inr (Or.inl rfl) | exact Or.inr (Or.inr rfl)))) (gd_sub (de_var (i := 0) rfl (by first | exact Or.inl rfl | exact Or.inr (Or.inl rfl) | exact Or.inr (Or.inr rfl))) de_int)) (dss_one (ds_ret (de_var (i := 2) rfl (by first | exact Or.inl rfl | exact Or.inr (Or.inl rfl) | exact Or.inr (Or.inr rfl))))))) dss_nil) (dss_cons (ds_if (dt_cmp opd_gt (de_var (i := 1) rfl (by first | exact Or.inl rfl | exact Or.inr (Or.inl rfl) | exact Or.inr (Or.inr rfl))) (de_op opd_pow de_int de_int)) (dss_one (ds_ret (de_op opd_mod (de_op opd_add (de_call c_take hr ga (Nat.le_refl _) body_takes rfl (da_cons (de_var (i := 0) rfl (by first | exact Or.inl rfl | exact Or.inr (Or.inl rfl) | exact Or.inr (Or.inr rfl))) (da_cons (de_op opd_pow de_int de_int) da_nil))) (de_op opd_mul (de_op opd_pow de_int de_int) (de_call c_take hr ga (Nat.le_refl _) body_takes rfl (da_cons (de_var (i := 0) rfl (by first | exact Or.inl rfl | exact Or.inr (Or.inl rfl) | exact Or.inr (Or.inr rfl))) (da_cons (de_op opd_add (de_op opd_fdiv (de_op opd_sub (de_var (i := 1) rfl (by first | exact Or.inl rfl | exact Or.inr (Or.inl rfl) | exact Or.inr (Or.inr rfl))) de_int) (de_op opd_pow de_int de_int)) de_int) da_nil))))) (de_var (i := 1) rfl (by first | exact Or.inl rfl | exact Or.inr (Or.inl rfl) | exact Or.inr (Or.inr rfl)))))) dss_nil) (dss_cons (ds_asg (de_op opd_add (de_ix (de_var (i := 0) rfl (by first | exact Or.inl rfl | exact Or.inr (Or.inl rfl) | exact Or.inr (Or.inr rfl))) de_int) de_int) (gd_sub (de_var (i := 0) rfl (by first | exact Or.inl rfl | exact Or.inr (Or.inl rfl) | exact Or.inr (Or.inr rfl))) de_int)) (dss_cons (ds_set (i := 3) sc_take.nd rfl (by first | exact Or.inl rfl | exact Or.inr rfl) (de_op opd_mod (de_op opd_pow (de_op opd_add (de_ix (de_var (i := 0) rfl (by first | exact Or.inl rfl | exact Or.inr (Or.inl rfl) | exact Or.inr (Or.inr rfl))) de_int) (de_op opd_mul de_int (de_ix (de_var (i := 0) rfl (by first | exact Or.inl rfl | exact Or.inr (Or.inl rfl) | exact Or.inr (Or.inr rfl))) de_int))) de_int) de_int)) (dss_one (ds_ret (de_op opd_mod (de_op opd_fdiv (de_op opd_mod (de_op opd_add (de_op opd_mul (de_var (i := 3) rfl (by first | exact Or.inl rfl | exact Or.inr (Or.inl rfl) | exact Or.inr (Or.inr rfl))) (de_op opd_add (de_op opd_mod (de_var (i := 3) rfl (by first | exact Or.inl rfl | exact Or.inr (Or.inl rfl) | exact Or.inr (Or.inr rfl))) de_int) de_int)) (de_op opd_mul (de_ix (de_var (i := 0) rfl (by first | exact Or.inl rfl | exact Or.inr (Or.inl rfl) | exact Or.inr (Or.inr rfl))) de_int) de_int)) de_int) de_int) (de_var (i := 1) rfl (by first | exact Or.inl rfl | exact Or.inr (Or.inl rfl) | exact Or.inr (Or.inr rfl))))))))))
theorem ok_cells {f : Addr} {fd : FuncData} (F : FunT K "_law_cells" "_law_cells" s_cells f fd) (G : Gs mg)  : FnD P w K mg base 1 f fd ["_law_script", "_law_most"] C.m_cells :=
  fnDD F sc_cells fun cdv A outer s H E hr ga => (dss_cons (ds_set (i := 2) sc_cells.nd rfl (by first | exact Or.inl rfl | exact Or.inr rfl) (de_new (df_list rfl G.b_list (de_slice (de_var (i := 0) rfl (by first | exact Or.inl rfl | exact Or.inr (Or.inl rfl) | exact Or.inr (Or.inr rfl))) do_none (do_some (de_var (i := 1) rfl (by first | exact Or.inl rfl | exact Or.inr (Or.inl rfl) | exact Or.inr (Or.inr rfl)))))))) (dss_cons (ds_for (passes_of rfl) rfl (di_enum rfl G.b_enumerate (de_slice (de_var (i := 0) rfl (by first | exact Or.inl rfl | exact Or.inr (Or.inl rfl) | exact Or.inr (Or.inr rfl))) (do_some (de_var (i := 1) rfl (by first | exact Or.inl rfl | exact Or.inr (Or.inl rfl) | exact Or.inr (Or.inr rfl)))) (do_some de_int))) (gd_tup rfl (gds_cons (gd_name (i := 3) sc_cells.nd rfl (by first | exact Or.inl rfl | exact Or.inr rfl)) (gds_cons (gd_name (i := 4) sc_cells.nd rfl (by first | exact Or.inl rfl | exact Or.inr rfl)) gds_nil))) (dss_one (ds_asg (de_op opd_add (de_ix (de_var (i := 2) rfl (by first | exact Or.inl rfl | exact Or.inr (Or.inl rfl) | exact Or.inr (Or.inr rfl))) (de_op opd_mod (de_var (i := 3) rfl (by first | exact Or.inl rfl | exact Or.inr (Or.inl rfl) | exact Or.inr (Or.inr rfl))) (de_var (i := 1) rfl (by first | exact Or.inl rfl | exact Or.inr (Or.inl rfl) | exact Or.inr (Or.inr rfl))))) (de_op opd_mul (de_var (i := 4) rfl (by first | exact Or.inl rfl | exact Or.inr (Or.inl rfl) | exact Or.inr (Or.inr rfl))) (de_op opd_add (de_var (i := 3) rfl (by first | exact Or.inl rfl | exact Or.inr (Or.inl rfl) | exact Or.inr (Or.inr rfl))) de_int))) (gd_sub (de_var (i := 2) rfl (by first | exact Or.inl rfl | exact Or.inr (Or.inl rfl) | exact Or.inr (Or.inr rfl))) (de_op opd_mod (de_var (i := 3) rfl (by first | exact Or.inl rfl | exact Or.inr (Or.inl rfl) | exact Or.inr (Or.inr rfl))) (de_var (i := 1) rfl (by first | exact Or.inl rfl | exact Or.inr (Or.inl rfl) | exact Or.inr (Or.inr rfl)))))))) (dss_freeze 2 (dss_one (ds_ret (de_if (dt_cmp (opd_ne hr.units) (de_var (i := 2) rfl (by first | exact Or.inl rfl | exact Or.inr (Or.inl rfl) | exact Or.inr (Or.inr rfl))) (de_dat (df_lst da_nil))) (de_var (i := 2) rfl (by first | exact Or.inl rfl | exact Or.inr (Or.inl rfl) | exact Or.inr (Or.inr rfl))) (de_dat (df_lst (da_cons de_int da_nil)))))))))
theorem ok_of {f : Addr} {fd : FuncData} (F : FunT K "_law_of" "_law_of" s_of f fd) (G : Gs mg) (c_take : Cald P w K mg base 10 "_law_take" 2 (C.m_take 10)) : FnD P w K mg base 11 f fd ["_law_box_here", "_law_some"] C.m_of :=
  fnDD F sc_of fun cdv A outer s H E hr ga => (dss_one (ds_ret (de_ix (de_var (i := 1) rfl (by first | exact Or.inl rfl | exact Or.inr (Or.inl rfl) | exact Or.inr (Or.inr rfl))) (de_call c_take hr ga (by decide) body_takes rfl (da_cons (de_var (i := 0) rfl (by first | exact Or.inl rfl | exact Or.inr (Or.inl rfl) | exact Or.inr (Or.inr rfl))) (da_cons (de_callB cd_len rfl G.b_len PySem.boot_len (da_cons (de_var (i := 1) rfl (by first | exact Or.inl rfl | exact Or.inr (Or.inl rfl) | exact Or.inr (Or.inr rfl))) da_nil)) da_nil))))))
theorem ok_strewn {f : Addr} {fd : FuncData} (F : FunT K "_law_strewn" "_law_strewn" s_strewn f fd) (G : Gs mg) (c_take : Cald P w K mg base 10 "_law_take" 2 (C.m_take 10)) : FnD P w K mg base 11 f fd ["_law_box_here", "_law_some"] C.m_strewn :=
  fnDD F sc_strewn fun cdv A outer s H E hr ga => (dss_cons (ds_par (i := 2) (j := 3) rfl sc_strewn.nd rfl rfl (by decide) rfl rfl (da_cons (de_new (df_list rfl G.b_list (de_var (i := 1) rfl (by first | exact Or.inl rfl | exact Or.inr (Or.inl rfl) | exact Or.inr (Or.inr rfl))))) (da_cons (de_new (df_lst da_nil)) da_nil)) rfl) (dss_cons (ds_while (lenAt 2) (passes_of rfl) (dt_cmp (opd_ne hr.units) (de_var (i := 2) rfl (by first | exact Or.inl rfl | exact Or.inr (Or.inl rfl) | exact Or.inr (Or.inr rfl))) (de_dat (df_lst da_nil))) (dss_one (ds_expr (de_m PySem.F.plainAttrs_list PySem.F.slot_list_append PySem.F.type_list_append md_append (de_var (i := 3) rfl (by first | exact Or.inl rfl | exact Or.inr (Or.inl rfl) | exact Or.inr (Or.inr rfl))) (da_cons (de_m PySem.F.plainAttrs_list PySem.F.slot_list_pop PySem.F.type_list_pop md_pop (de_var (i := 2) rfl (by first | exact Or.inl rfl | exact Or.inr (Or.inl rfl) | exact Or.inr (Or.inr rfl))) (da_cons (de_call c_take hr ga (by decide) body_takes rfl (da_cons (de_var (i := 0) rfl (by first | exact Or.inl rfl | exact Or.inr (Or.inl rfl) | exact Or.inr (Or.inr rfl))) (da_cons (de_callB cd_len rfl G.b_len PySem.boot_len (da_cons (de_var (i := 2) rfl (by first | exact Or.inl rfl | exact Or.inr (Or.inl rfl) | exact Or.inr (Or.inr rfl))) da_nil)) da_nil))) da_nil)) da_nil))))) (dss_freeze 3 (dss_one (ds_ret (de_var (i := 3) rfl (by first | exact Or.inl rfl | exact Or.inr (Or.inl rfl) | exact Or.inr (Or.inr rfl))))))))
theorem ok_random_state {f : Addr} {fd : FuncData} (F : FunT K "_law_random_state" "_law_random_state" s_random_state f fd) (G : Gs mg) (c_strewn : Cald P w K mg base 11 "_law_strewn" 2 C.m_strewn) (c_take : Cald P w K mg base 10 "_law_take" 2 (C.m_take 10)) : FnD P w K mg base 12 f fd ["_law_box_here", "_law_count", "_law_top"] C.m_random_state :=
  fnDD F sc_random_state fun cdv A outer s H E hr ga => (dss_cons (ds_set (i := 3) sc_random_state.nd rfl (by first | exact Or.inl rfl | exact Or.inr rfl) (de_callTy cd_tuple rfl G.b_tuple PySem.Pv.boot_tuple (da_cons (de_call c_strewn hr ga (by decide) body_takes rfl (da_cons (de_var (i := 0) rfl (by first | exact Or.inl rfl | exact Or.inr (Or.inl rfl) | exact Or.inr (Or.inr rfl))) (da_cons (de_dat (df_range1 rfl rfl G.b_list rfl G.b_range (de_var (i := 1) rfl (by first | exact Or.inl rfl | exact Or.inr (Or.inl rfl) | exact Or.inr (Or.inr rfl))))) da_nil))) da_nil))) (dss_cons (ds_set (i := 4) sc_random_state.nd rfl (by first | exact Or.inl rfl | exact Or.inr rfl) (de_callTy cd_tuple rfl G.b_tuple PySem.Pv.boot_tuple (da_cons (de_dat (df_lc (own := [("_law_who", 5)]) rfl sc_random_state.nd (di_range1 rfl G.b_range (de_var (i := 1) rfl (by first | exact Or.inl rfl | exact Or.inr (Or.inl rfl) | exact Or.inr (Or.inr rfl)))) (blkOk_by rfl) (fun _ _ _ _ _ => (gv_name (i := 5) (by decide) sc_random_state.nd rfl (by first | exact Or.inl rfl | exact Or.inr rfl))) (fun _ _ _ _ _ => dts_nil) (fun _ _ _ _ _ => (de_if (dt_cmp opd_gt (de_call c_take hr ga (by decide) takesW0 rfl (da_cons (de_var (i := 0) rfl (by first | exact Or.inl rfl | exact Or.inr (Or.inl rfl) | exact Or.inr (Or.inr rfl))) (da_cons de_int da_nil))) de_int) (de_call c_take hr ga (by decide) takesW0 rfl (da_cons (de_var (i := 0) rfl (by first | exact Or.inl rfl | exact Or.inr (Or.inl rfl) | exact Or.inr (Or.inr rfl))) (da_cons (de_op opd_add (de_var (i := 2) rfl (by first | exact Or.inl rfl | exact Or.inr (Or.inl rfl) | exact Or.inr (Or.inr rfl))) de_int) da_nil))) de_int)))) da_nil))) (dss_one (ds_ret (de_tup (da_cons (de_var (i := 3) rfl (by first | exact Or.inl rfl | exact Or.inr (Or.inl rfl) | exact Or.inr (Or.inr rfl))) (da_cons (de_var (i := 4) rfl (by first | exact Or.inl rfl | exact Or.inr (Or.inl rfl) | exact Or.inr (Or.inr rfl))) da_nil)))))))
theorem ok_right {f : Addr} {fd : FuncData} (F : FunT K "_law_right" "_law_right" s_right f fd) (G : Gs mg) (c_random_state : Cald P w K mg base 12 "_law_random_state" 3 C.m_random_state) (c_take : Cald P w K mg base 10 "_law_take" 2 (C.m_take 10)) (c_of : Cald P w K mg base 11 "_law_of" 2 C.m_of) (c_leads : Cald P w K mg base 4 "leads" 2 C.m_leads) (c_distance : Cald P w K mg base 7 "distance" 2 C.m_distance) (c_crossings : Cald P w K mg base 6 "crossings" 2 C.m_crossings) (c_run : Cald P w K mg base 4 "run" 2 C.m_run) (c_shifts : Cald P w K mg base 5 "shifts" 2 C.m_shifts) (c_plan : Cald P w K mg base 8 "plan" 2 C.m_plan) : FnD P w K mg base 13 f fd ["_law_box_here"] m_right :=
  fnDD F sc_right fun cdv A outer s H E hr ga => (dss_cons (ds_set (i := 1) sc_right.nd rfl (by first | exact Or.inl rfl | exact Or.inr rfl) (de_op opd_add de_int (de_call c_take hr ga (by decide) body_takes rfl (da_cons (de_var (i := 0) rfl (by first | exact Or.inl rfl | exact Or.inr (Or.inl rfl) | exact Or.inr (Or.inr rfl))) (da_cons de_int da_nil))))) (dss_cons (ds_set (i := 2) sc_right.nd rfl (by first | exact Or.inl rfl | exact Or.inr rfl) (de_call c_random_state hr ga (by decide) body_takes rfl (da_cons (de_var (i := 0) rfl (by first | exact Or.inl rfl | exact Or.inr (Or.inl rfl) | exact Or.inr (Or.inr rfl))) (da_cons (de_var (i := 1) rfl (by first | exact Or.inl rfl | exact Or.inr (Or.inl rfl) | exact Or.inr (Or.inr rfl))) (da_cons (de_call c_of hr ga (by decide) body_takes rfl (da_cons (de_var (i := 0) rfl (by first | exact Or.inl rfl | exact Or.inr (Or.inl rfl) | exact Or.inr (Or.inr rfl))) (da_cons (de_dat (df_lst (da_cons de_int (da_cons (de_op opd_pow de_int de_int) da_nil)))) da_nil))) da_nil))))) (dss_cons (ds_asg (de_tup (da_cons (de_call c_take hr ga (by decide) body_takes rfl (da_cons (de_var (i := 0) rfl (by first | exact Or.inl rfl | exact Or.inr (Or.inl rfl) | exact Or.inr (Or.inr rfl))) (da_cons (de_var (i := 1) rfl (by first | exact Or.inl rfl | exact Or.inr (Or.inl rfl) | exact Or.inr (Or.inr rfl))) da_nil))) (da_cons (de_op opd_add de_int (de_call c_take hr ga (by decide) body_takes rfl (da_cons (de_var (i := 0) rfl (by first | exact Or.inl rfl | exact Or.inr (Or.inl rfl) | exact Or.inr (Or.inr rfl))) (da_cons (de_call c_of hr ga (by decide) body_takes rfl (da_cons (de_var (i := 0) rfl (by first | exact Or.inl rfl | exact Or.inr (Or.inl rfl) | exact Or.inr (Or.inr rfl))) (da_cons (de_dat (df_lst (da_cons de_int (da_cons (de_op opd_pow de_int de_int) da_nil)))) da_nil))) da_nil)))) da_nil))) (gd_seq rfl (gds_cons (gd_name (i := 3) sc_right.nd rfl (by first | exact Or.inl rfl | exact Or.inr rfl)) (gds_cons (gd_name (i := 4) sc_right.nd rfl (by first | exact Or.inl rfl | exact Or.inr rfl)) gds_nil)))) (dss_cons (ds_set (i := 5) sc_right.nd rfl (by first | exact Or.inl rfl | exact Or.inr rfl) (de_op opd_mul (de_op opd_mul (de_var (i := 1) rfl (by first | exact Or.inl rfl | exact Or.inr (Or.inl rfl) | exact Or.inr (Or.inr rfl))) (de_op opd_sub (de_var (i := 1) rfl (by first | exact Or.inl rfl | exact Or.inr (Or.inl rfl) | exact Or.inr (Or.inr rfl))) de_int)) (de_var (i := 4) rfl (by first | exact Or.inl rfl | exact Or.inr (Or.inl rfl) | exact Or.inr (Or.inr rfl))))) (dss_cons (ds_set (i := 6) sc_right.nd rfl (by first | exact Or.inl rfl | exact Or.inr rfl) (de_new (df_list rfl G.b_list (de_ix (de_var (i := 2) rfl (by first | exact Or.inl rfl | exact Or.inr (Or.inl rfl) | exact Or.inr (Or.inr rfl))) de_int)))) (dss_cons (ds_asg (de_op opd_add (de_ix (de_var (i := 6) rfl (by first | exact Or.inl rfl | exact Or.inr (Or.inl rfl) | exact Or.inr (Or.inr rfl))) (de_var (i := 3) rfl (by first | exact Or.inl rfl | exact Or.inr (Or.inl rfl) | exact Or.inr (Or.inr rfl)))) (de_var (i := 5) rfl (by first | exact Or.inl rfl | exact Or.inr (Or.inl rfl) | exact Or.inr (Or.inr rfl)))) (gd_sub (de_var (i := 6) rfl (by first | exact Or.inl rfl | exact Or.inr (Or.inl rfl) | exact Or.inr (Or.inr rfl))) (de_var (i := 3) rfl (by first | exact Or.inl rfl | exact Or.inr (Or.inl rfl) | exact Or.inr (Or.inr rfl))))) (dss_freeze 6 (dss_cons (ds_set (i := 7) sc_right.nd rfl (by first | exact Or.inl rfl | exact Or.inr rfl) (de_tup (da_cons (de_ix (de_var (i := 2) rfl (by first | exact Or.inl rfl | exact Or.inr (Or.inl rfl) | exact Or.inr (Or.inr rfl))) de_int) (da_cons (de_callTy cd_tuple rfl G.b_tuple PySem.Pv.boot_tuple (da_cons (de_var (i := 6) rfl (by first | exact Or.inl rfl | exact Or.inr (Or.inl rfl) | exact Or.inr (Or.inr rfl))) da_nil)) da_nil)))) (dss_cons (ds_setLcN (i := 8) (own := [("_law_bag", 12)]) rfl sc_right.nd rfl rfl rfl (di_seq (de_ix (de_var (i := 2) rfl (by first | exact Or.inl rfl | exact Or.inr (Or.inl rfl) | exact Or.inr (Or.inr rfl))) de_int)) (blkOk_by rfl) (fun _ _ _ _ _ => (gv_name (i := 12) (by decide) sc_right.nd rfl (by first | exact Or.inl rfl | exact Or.inr rfl))) (fun _ _ _ _ _ => dts_nil) (fun _ _ _ _ _ => (de_op opd_add (de_var (i := 12) rfl (by first | exact Or.inl rfl | exact Or.inr (Or.inl rfl) | exact Or.inr (Or.inr rfl))) (de_op opd_mul (de_var (i := 1) rfl (by first | exact Or.inl rfl | exact Or.inr (Or.inl rfl) | exact Or.inr (Or.inr rfl))) (de_var (i := 4) rfl (by first | exact Or.inl rfl | exact Or.inr (Or.inl rfl) | exact Or.inr (Or.inr rfl))))))) (dss_cons (ds_asg (de_ix (de_ix (de_var (i := 2) rfl (by first | exact Or.inl rfl | exact Or.inr (Or.inl rfl) | exact Or.inr (Or.inr rfl))) de_int) (de_var (i := 3) rfl (by first | exact Or.inl rfl | exact Or.inr (Or.inl rfl) | exact Or.inr (Or.inr rfl)))) (gd_sub (de_var (i := 8) rfl (by first | exact Or.inl rfl | exact Or.inr (Or.inl rfl) | exact Or.inr (Or.inr rfl))) (de_var (i := 3) rfl (by first | exact Or.inl rfl | exact Or.inr (Or.inl rfl) | exact Or.inr (Or.inr rfl))))) (dss_freeze 8 (dss_cons (ds_set (i := 9) sc_right.nd rfl (by first | exact Or.inl rfl | exact Or.inr rfl) (de_tup (da_cons (de_ix (de_var (i := 2) rfl (by first | exact Or.inl rfl | exact Or.inr (Or.inl rfl) | exact Or.inr (Or.inr rfl))) de_int) (da_cons (de_callTy cd_tuple rfl G.b_tuple PySem.Pv.boot_tuple (da_cons (de_var (i := 8) rfl (by first | exact Or.inl rfl | exact Or.inr (Or.inl rfl) | exact Or.inr (Or.inr rfl))) da_nil)) da_nil)))) (dss_cons (ds_setLc (i := 10) (own := [("_law_mate", 13)]) rfl sc_right.nd rfl rfl rfl (di_range1 rfl G.b_range (de_var (i := 1) rfl (by first | exact Or.inl rfl | exact Or.inr (Or.inl rfl) | exact Or.inr (Or.inr rfl)))) (blkOk_by rfl) (fun _ _ _ _ _ => (gv_name (i := 13) (by decide) sc_right.nd rfl (by first | exact Or.inl rfl | exact Or.inr rfl))) (fun _ _ _ _ _ => (dts_one (dt_cmp (opd_ne hr.units) (de_var (i := 13) rfl (by first | exact Or.inl rfl | exact Or.inr (Or.inl rfl) | exact Or.inr (Or.inr rfl))) (de_var (i := 3) rfl (by first | exact Or.inl rfl | exact Or.inr (Or.inl rfl) | exact Or.inr (Or.inr rfl)))))) (fun _ _ _ _ _ => (de_tup (da_cons (de_callB (cd_min2 rfl) rfl G.b_min PyProof.Rows.boot_min (da_cons (de_var (i := 3) rfl (by first | exact Or.inl rfl | exact Or.inr (Or.inl rfl) | exact Or.inr (Or.inr rfl))) (da_cons (de_var (i := 13) rfl (by first | exact Or.inl rfl | exact Or.inr (Or.inl rfl) | exact Or.inr (Or.inr rfl))) da_nil))) (da_cons (de_callB (cd_max2 rfl) rfl G.b_max PyProof.Rows.boot_max (da_cons (de_var (i := 3) rfl (by first | exact Or.inl rfl | exact Or.inr (Or.inl rfl) | exact Or.inr (Or.inr rfl))) (da_cons (de_var (i := 13) rfl (by first | exact Or.inl rfl | exact Or.inr (Or.inl rfl) | exact Or.inr (Or.inr rfl))) da_nil))) (da_cons (de_op opd_mul (de_var (i := 1) rfl (by first | exact Or.inl rfl | exact Or.inr (Or.inl rfl) | exact Or.inr (Or.inr rfl))) (de_var (i := 4) rfl (by first | exact Or.inl rfl | exact Or.inr (Or.inl rfl) | exact Or.inr (Or.inr rfl)))) da_nil)))))) (dss_cons (ds_if (dt_w (dw_or (dt_not (dt_e (de_call c_leads hr ga (by decide) body_takes rfl (da_cons (de_var (i := 7) rfl (by first | exact Or.inl rfl | exact Or.inr (Or.inl rfl) | exact Or.inr (Or.inr rfl))) (da_cons (de_var (i := 9) rfl (by first | exact Or.inl rfl | exact Or.inr (Or.inl rfl) | exact Or.inr (Or.inr rfl))) da_nil))))) (dw_or (dt_cmp (opd_ne hr.units) (de_call c_distance hr ga (by decide) body_takes rfl (da_cons (de_var (i := 7) rfl (by first | exact Or.inl rfl | exact Or.inr (Or.inl rfl) | exact Or.inr (Or.inr rfl))) (da_cons (de_var (i := 9) rfl (by first | exact Or.inl rfl | exact Or.inr (Or.inl rfl) | exact Or.inr (Or.inr rfl))) da_nil))) (de_var (i := 5) rfl (by first | exact Or.inl rfl | exact Or.inr (Or.inl rfl) | exact Or.inr (Or.inr rfl)))) (dw_or1 (dt_cmp (opd_ne hr.units) (de_call c_crossings hr ga (by decide) body_takes rfl (da_cons (de_var (i := 7) rfl (by first | exact Or.inl rfl | exact Or.inr (Or.inl rfl) | exact Or.inr (Or.inr rfl))) (da_cons (de_var (i := 9) rfl (by first | exact Or.inl rfl | exact Or.inr (Or.inl rfl) | exact Or.inr (Or.inr rfl))) da_nil))) (de_dat (df_sortT rfl G.b_sorted (de_var (i := 10) rfl (by first | exact Or.inl rfl | exact Or.inr (Or.inl rfl) | exact Or.inr (Or.inr rfl)))))))))) (dss_one (ds_ret de_bl)) dss_nil) (dss_cons (ds_if (dt_w (dw_or (dt_cmp (opd_ne hr.units) (de_ix (de_call c_shifts hr ga (by decide) body_takes rfl (da_cons (de_var (i := 7) rfl (by first | exact Or.inl rfl | exact Or.inr (Or.inl rfl) | exact Or.inr (Or.inr rfl))) (da_cons (de_var (i := 9) rfl (by first | exact Or.inl rfl | exact Or.inr (Or.inl rfl) | exact Or.inr (Or.inr rfl))) da_nil))) (de_var (i := 3) rfl (by first | exact Or.inl rfl | exact Or.inr (Or.inl rfl) | exact Or.inr (Or.inr rfl)))) (de_var (i := 5) rfl (by first | exact Or.inl rfl | exact Or.inr (Or.inl rfl) | exact Or.inr (Or.inr rfl)))) (dw_or1 (dt_cmp (opd_ne hr.units) (de_ix (de_call c_shifts hr ga (by decide) body_takes rfl (da_cons (de_var (i := 9) rfl (by first | exact Or.inl rfl | exact Or.inr (Or.inl rfl) | exact Or.inr (Or.inr rfl))) (da_cons (de_var (i := 7) rfl (by first | exact Or.inl rfl | exact Or.inr (Or.inl rfl) | exact Or.inr (Or.inr rfl))) da_nil))) (de_var (i := 3) rfl (by first | exact Or.inl rfl | exact Or.inr (Or.inl rfl) | exact Or.inr (Or.inr rfl)))) (de_op opd_sub de_int (de_var (i := 5) rfl (by first | exact Or.inl rfl | exact Or.inr (Or.inl rfl) | exact Or.inr (Or.inr rfl)))))))) (dss_one (ds_ret de_bl)) dss_nil) (dss_cons (ds_if (dt_cmp opd_gt (de_var (i := 4) rfl (by first | exact Or.inl rfl | exact Or.inr (Or.inl rfl) | exact Or.inr (Or.inr rfl))) de_int) (dss_one (ds_ret de_bl)) dss_nil) (dss_cons (ds_setLc (i := 11) (own := [("_law_k", 14)]) rfl sc_right.nd rfl rfl rfl (di_range1 rfl G.b_range (de_var (i := 5) rfl (by first | exact Or.inl rfl | exact Or.inr (Or.inl rfl) | exact Or.inr (Or.inr rfl)))) (blkOk_by rfl) (fun _ _ _ _ _ => (gv_name (i := 14) (by decide) sc_right.nd rfl (by first | exact Or.inl rfl | exact Or.inr rfl))) (fun _ _ _ _ _ => dts_nil) (fun _ _ _ _ _ => (de_op opd_mod (de_op opd_add (de_ix (de_ix (de_var (i := 2) rfl (by first | exact Or.inl rfl | exact Or.inr (Or.inl rfl) | exact Or.inr (Or.inr rfl))) de_int) (de_var (i := 3) rfl (by first | exact Or.inl rfl | exact Or.inr (Or.inl rfl) | exact Or.inr (Or.inr rfl)))) (de_var (i := 14) rfl (by first | exact Or.inl rfl | exact Or.inr (Or.inl rfl) | exact Or.inr (Or.inr rfl)))) (de_var (i := 1) rfl (by first | exact Or.inl rfl | exact Or.inr (Or.inl rfl) | exact Or.inr (Or.inr rfl)))))) (dss_one (ds_ret (de_and (de_cmp (opd_eq hr.units) (de_call c_run hr ga (by decide) body_takes rfl (da_cons (de_var (i := 7) rfl (by first | exact Or.inl rfl | exact Or.inr (Or.inl rfl) | exact Or.inr (Or.inr rfl))) (da_cons (de_var (i := 11) rfl (by first | exact Or.inl rfl | exact Or.inr (Or.inl rfl) | exact Or.inr (Or.inr rfl))) da_nil))) (de_var (i := 9) rfl (by first | exact Or.inl rfl | exact Or.inr (Or.inl rfl) | exact Or.inr (Or.inr rfl)))) (de_one (de_cmp (opd_eq hr.units) (de_call c_run hr ga (by decide) body_takes rfl (da_cons (de_var (i := 9) rfl (by first | exact Or.inl rfl | exact Or.inr (Or.inl rfl) | exact Or.inr (Or.inr rfl))) (da_cons (de_call c_plan hr ga (by decide) body_takes rfl (da_cons (de_var (i := 9) rfl (by first | exact Or.inl rfl | exact Or.inr (Or.inl rfl) | exact Or.inr (Or.inr rfl))) (da_cons (de_var (i := 7) rfl (by first | exact Or.inl rfl | exact Or.inr (Or.inl rfl) | exact Or.inr (Or.inr rfl))) da_nil))) da_nil))) (de_var (i := 7) rfl (by first | exact Or.inl rfl | exact Or.inr (Or.inl rfl) | exact Or.inr (Or.inr rfl)))))))))))))))))))))))))
theorem ok_law {f : Addr} {fd : FuncData} (F : FunT K "law" "law" s_law f fd) (G : Gs mg) (c_cells : Cald P w K mg base 1 "_law_cells" 2 C.m_cells) (c_box : Cald P w K mg base 1 "_law_box" 2 C.m_box) (c_right : Cald P w K mg base 13 "_law_right" 1 m_right) : FnD P w K mg base 14 f fd ["_law_script"] m_law :=
  fnDD F sc_law fun cdv A outer s H E hr ga => (dss_cons (ds_set (i := 1) sc_law.nd rfl (by first | exact Or.inl rfl | exact Or.inr rfl) (de_call c_cells hr ga (by decide) body_takes rfl (da_cons (de_var (i := 0) rfl (by first | exact Or.inl rfl | exact Or.inr (Or.inl rfl) | exact Or.inr (Or.inr rfl))) (da_cons de_int da_nil)))) (dss_cons (ds_for (passes_of rfl) rfl (di_range1 rfl G.b_range (de_callB cd_len rfl G.b_len PySem.boot_len (da_cons (de_var (i := 1) rfl (by first | exact Or.inl rfl | exact Or.inr (Or.inl rfl) | exact Or.inr (Or.inr rfl))) da_nil))) (gd_name (i := 2) sc_law.nd rfl (by first | exact Or.inl rfl | exact Or.inr rfl)) (dss_cons (ds_set (i := 3) sc_law.nd rfl (by first | exact Or.inl rfl | exact Or.inr rfl) (de_call c_box hr ga (by decide) body_takes rfl (da_cons (de_var (i := 1) rfl (by first | exact Or.inl rfl | exact Or.inr (Or.inl rfl) | exact Or.inr (Or.inr rfl))) (da_cons (de_var (i := 2) rfl (by first | exact Or.inl rfl | exact Or.inr (Or.inl rfl) | exact Or.inr (Or.inr rfl))) da_nil)))) (dss_one (ds_if (dt_not (dt_e (de_callB (cd_all rfl) rfl G.b_all PyProof.Rows.boot_all (da_cons (de_dat (df_lc (own := [("_law_turn", 4)]) rfl sc_law.nd (di_range1 rfl G.b_range de_int) (blkOk_by rfl) (fun _ _ _ _ _ => (gv_name (i := 4) (by decide) sc_law.nd rfl (by first | exact Or.inl rfl | exact Or.inr rfl))) (fun _ _ _ _ _ => dts_nil) (fun _ _ _ _ _ => (de_call c_right hr ga (by decide) takesW0 rfl (da_cons (de_var (i := 3) rfl (by first | exact Or.inl rfl | exact Or.inr (Or.inl rfl) | exact Or.inr (Or.inr rfl))) da_nil))))) da_nil)))) (dss_one (ds_ret de_bl)) dss_nil)))) (dss_one (ds_ret de_bl))))
end
end DL.K28

namespace DL.K28
open PySem PySem.Spec L2 DL
def fn : List He.DefD := [⟨("inverse", none), "inverse", "inverse", defArgs s_inverse, defBody s_inverse, defScope s_inverse, [], []⟩, ⟨("sitting", none), "sitting", "sitting", defArgs s_sitting, defBody s_sitting, defScope s_sitting, [], []⟩, ⟨("as_tuples", none), "as_tuples", "as_tuples", defArgs s_as_tuples, defBody s_as_tuples, defScope s_as_tuples, [], []⟩, ⟨("total", none), "total", "total", defArgs s_total, defBody s_total, defScope s_total, [], []⟩, ⟨("residues", none), "residues", "residues", defArgs s_residues, defBody s_residues, defScope s_residues, [], []⟩, ⟨("after_toll", none), "after_toll", "after_toll", defArgs s_after_toll, defBody s_after_toll, defScope s_after_toll, [], []⟩, ⟨("exchanged", none), "exchanged", "exchanged", defArgs s_exchanged, defBody s_exchanged, defScope s_exchanged, [], []⟩, ⟨("run", none), "run", "run", defArgs s_run, defBody s_run, defScope s_run, [], []⟩, ⟨("kept", none), "kept", "kept", defArgs s_kept, defBody s_kept, defScope s_kept, [], []⟩, ⟨("check_people", none), "check_people", "check_people", defArgs s_check_people, defBody s_check_people, defScope s_check_people, [], []⟩, ⟨("bar", none), "bar", "bar", defArgs s_bar, defBody s_bar, defScope s_bar, [], []⟩, ⟨("leads", none), "leads", "leads", defArgs s_leads, defBody s_leads, defScope s_leads, [], []⟩, ⟨("check_leads", none), "check_leads", "check_leads", defArgs s_check_leads, defBody s_check_leads, defScope s_check_leads, [], []⟩, ⟨("shifts", none), "shifts", "shifts", defArgs s_shifts, defBody s_shifts, defScope s_shifts, [], []⟩, ⟨("crossings", none), "crossings", "crossings", defArgs s_crossings, defBody s_crossings, defScope s_crossings, [], []⟩, ⟨("distance", none), "distance", "distance", defArgs s_distance, defBody s_distance, defScope s_distance, [], []⟩, ⟨("nearer", none), "nearer", "nearer", defArgs s_nearer, defBody s_nearer, defScope s_nearer, [], []⟩, ⟨("plan", none), "plan", "plan", defArgs s_plan, defBody s_plan, defScope s_plan, [], []⟩, ⟨("_law_box", none), "_law_box", "_law_box", defArgs s_box, defBody s_box, defScope s_box, [], []⟩, ⟨("_law_take", none), "_law_take", "_law_take", defArgs s_take, defBody s_take, defScope s_take, [], []⟩, ⟨("_law_cells", none), "_law_cells", "_law_cells", defArgs s_cells, defBody s_cells, defScope s_cells, [], []⟩, ⟨("_law_of", none), "_law_of", "_law_of", defArgs s_of, defBody s_of, defScope s_of, [], []⟩, ⟨("_law_strewn", none), "_law_strewn", "_law_strewn", defArgs s_strewn, defBody s_strewn, defScope s_strewn, [], []⟩, ⟨("_law_random_state", none), "_law_random_state", "_law_random_state", defArgs s_random_state, defBody s_random_state, defScope s_random_state, [], []⟩, ⟨("_law_right", none), "_law_right", "_law_right", defArgs s_right, defBody s_right, defScope s_right, [], []⟩, ⟨("law", none), "law", "law", defArgs s_law, defBody s_law, defScope s_law, [], []⟩]
def fa : List He.Fa := [.glo "inverse", .glo "sitting", .glo "as_tuples", .glo "total", .glo "residues", .glo "after_toll", .glo "exchanged", .glo "run", .glo "kept", .glo "check_people", .glo "bar", .glo "leads", .glo "check_leads", .glo "shifts", .glo "crossings", .glo "distance", .glo "nearer", .glo "plan", .glo "_law_box", .glo "_law_take", .glo "_law_cells", .glo "_law_of", .glo "_law_strewn", .glo "_law_random_state", .glo "_law_right", .glo "law", .free "len", .free "enumerate", .free "tuple", .free "sum", .free "zip", .free "list", .free "range", .free "abs", .free "max", .free "int", .free "min", .free "sorted", .free "all", .int "MOST_STEPS" 1000]
theorem facts {P : Program} {w : World} {K : Frag} {h : Heap} {mg : Str → Option Value} {f : Addr} (X : K.In h) (G0 : h.Ns mainGlobals mg) (hfa : mg ("law" : Str) = some (.ref f)) (c : He.SaysD fa fn K) :
    ∃ fd : FuncData, (∀ (s : Shared) (v : Value), BindsTo s fd ⟨[v], []⟩ [("_law_script", v)]) ∧ ∀ base : Heap, K.In base → base.Ns mainGlobals mg → FnD P w K mg base 14 f fd ["_law_script"] m_law := by
  have G : Gs mg := ⟨He.free_ok X G0 (c.fact 26 (f := .free "len") rfl), He.free_ok X G0 (c.fact 27 (f := .free "enumerate") rfl), He.free_ok X G0 (c.fact 28 (f := .free "tuple") rfl), He.free_ok X G0 (c.fact 29 (f := .free "sum") rfl), He.free_ok X G0 (c.fact 30 (f := .free "zip") rfl), He.free_ok X G0 (c.fact 31 (f := .free "list") rfl), He.free_ok X G0 (c.fact 32 (f := .free "range") rfl), He.free_ok X G0 (c.fact 33 (f := .free "abs") rfl), He.free_ok X G0 (c.fact 34 (f := .free "max") rfl), He.free_ok X G0 (c.fact 35 (f := .free "int") rfl), He.free_ok X G0 (c.fact 36 (f := .free "min") rfl), He.free_ok X G0 (c.fact 37 (f := .free "sorted") rfl), He.free_ok X G0 (c.fact 38 (f := .free "all") rfl), He.int_ok X G0 (c.fact 39 (f := .int "MOST_STEPS" 1000) rfl)⟩
  obtain ⟨fd_inverse, F0_inverse⟩ := c.def_ 0 (d := ⟨("inverse", none), "inverse", "inverse", defArgs s_inverse, defBody s_inverse, defScope s_inverse, [], []⟩) rfl
  have F_inverse : FunT K "inverse" "inverse" s_inverse _ _ := F0_inverse
  have hm_inverse := He.glo_ok X G0 (c.fact 0 (f := .glo "inverse") rfl)
  obtain ⟨fd_sitting, F0_sitting⟩ := c.def_ 1 (d := ⟨("sitting", none), "sitting", "sitting", defArgs s_sitting, defBody s_sitting, defScope s_sitting, [], []⟩) rfl
  have F_sitting : FunT K "sitting" "sitting" s_sitting _ _ := F0_sitting
  have hm_sitting := He.glo_ok X G0 (c.fact 1 (f := .glo "sitting") rfl)
  obtain ⟨fd_as_tuples, F0_as_tuples⟩ := c.def_ 2 (d := ⟨("as_tuples", none), "as_tuples", "as_tuples", defArgs s_as_tuples, defBody s_as_tuples, defScope s_as_tuples, [], []⟩) rfl
  have F_as_tuples : FunT K "as_tuples" "as_tuples" s_as_tuples _ _ := F0_as_tuples
  have hm_as_tuples := He.glo_ok X G0 (c.fact 2 (f := .glo "as_tuples") rfl)
  obtain ⟨fd_total, F0_total⟩ := c.def_ 3 (d := ⟨("total", none), "total", "total", defArgs s_total, defBody s_total, defScope s_total, [], []⟩) rfl
  have F_total : FunT K "total" "total" s_total _ _ := F0_total
  have hm_total := He.glo_ok X G0 (c.fact 3 (f := .glo "total") rfl)
  obtain ⟨fd_residues, F0_residues⟩ := c.def_ 4 (d := ⟨("residues", none), "residues", "residues", defArgs s_residues, defBody s_residues, defScope s_residues, [], []⟩) rfl
  have F_residues : FunT K "residues" "residues" s_residues _ _ := F0_residues
  have hm_residues := He.glo_ok X G0 (c.fact 4 (f := .glo "residues") rfl)
  obtain ⟨fd_after_toll, F0_after_toll⟩ := c.def_ 5 (d := ⟨("after_toll", none), "after_toll", "after_toll", defArgs s_after_toll, defBody s_after_toll, defScope s_after_toll, [], []⟩) rfl
  have F_after_toll : FunT K "after_toll" "after_toll" s_after_toll _ _ := F0_after_toll
  have hm_after_toll := He.glo_ok X G0 (c.fact 5 (f := .glo "after_toll") rfl)
  obtain ⟨fd_exchanged, F0_exchanged⟩ := c.def_ 6 (d := ⟨("exchanged", none), "exchanged", "exchanged", defArgs s_exchanged, defBody s_exchanged, defScope s_exchanged, [], []⟩) rfl
  have F_exchanged : FunT K "exchanged" "exchanged" s_exchanged _ _ := F0_exchanged
  have hm_exchanged := He.glo_ok X G0 (c.fact 6 (f := .glo "exchanged") rfl)
  obtain ⟨fd_run, F0_run⟩ := c.def_ 7 (d := ⟨("run", none), "run", "run", defArgs s_run, defBody s_run, defScope s_run, [], []⟩) rfl
  have F_run : FunT K "run" "run" s_run _ _ := F0_run
  have hm_run := He.glo_ok X G0 (c.fact 7 (f := .glo "run") rfl)
  obtain ⟨fd_kept, F0_kept⟩ := c.def_ 8 (d := ⟨("kept", none), "kept", "kept", defArgs s_kept, defBody s_kept, defScope s_kept, [], []⟩) rfl
  have F_kept : FunT K "kept" "kept" s_kept _ _ := F0_kept
  have hm_kept := He.glo_ok X G0 (c.fact 8 (f := .glo "kept") rfl)
  obtain ⟨fd_check_people, F0_check_people⟩ := c.def_ 9 (d := ⟨("check_people", none), "check_people", "check_people", defArgs s_check_people, defBody s_check_people, defScope s_check_people, [], []⟩) rfl
  have F_check_people : FunT K "check_people" "check_people" s_check_people _ _ := F0_check_people
  have hm_check_people := He.glo_ok X G0 (c.fact 9 (f := .glo "check_people") rfl)
  obtain ⟨fd_bar, F0_bar⟩ := c.def_ 10 (d := ⟨("bar", none), "bar", "bar", defArgs s_bar, defBody s_bar, defScope s_bar, [], []⟩) rfl
  have F_bar : FunT K "bar" "bar" s_bar _ _ := F0_bar
  have hm_bar := He.glo_ok X G0 (c.fact 10 (f := .glo "bar") rfl)
  obtain ⟨fd_leads, F0_leads⟩ := c.def_ 11 (d := ⟨("leads", none), "leads", "leads", defArgs s_leads, defBody s_leads, defScope s_leads, [], []⟩) rfl
  have F_leads : FunT K "leads" "leads" s_leads _ _ := F0_leads
  have hm_leads := He.glo_ok X G0 (c.fact 11 (f := .glo "leads") rfl)
  obtain ⟨fd_check_leads, F0_check_leads⟩ := c.def_ 12 (d := ⟨("check_leads", none), "check_leads", "check_leads", defArgs s_check_leads, defBody s_check_leads, defScope s_check_leads, [], []⟩) rfl
  have F_check_leads : FunT K "check_leads" "check_leads" s_check_leads _ _ := F0_check_leads
  have hm_check_leads := He.glo_ok X G0 (c.fact 12 (f := .glo "check_leads") rfl)
  obtain ⟨fd_shifts, F0_shifts⟩ := c.def_ 13 (d := ⟨("shifts", none), "shifts", "shifts", defArgs s_shifts, defBody s_shifts, defScope s_shifts, [], []⟩) rfl
  have F_shifts : FunT K "shifts" "shifts" s_shifts _ _ := F0_shifts
  have hm_shifts := He.glo_ok X G0 (c.fact 13 (f := .glo "shifts") rfl)
  obtain ⟨fd_crossings, F0_crossings⟩ := c.def_ 14 (d := ⟨("crossings", none), "crossings", "crossings", defArgs s_crossings, defBody s_crossings, defScope s_crossings, [], []⟩) rfl
  have F_crossings : FunT K "crossings" "crossings" s_crossings _ _ := F0_crossings
  have hm_crossings := He.glo_ok X G0 (c.fact 14 (f := .glo "crossings") rfl)
  obtain ⟨fd_distance, F0_distance⟩ := c.def_ 15 (d := ⟨("distance", none), "distance", "distance", defArgs s_distance, defBody s_distance, defScope s_distance, [], []⟩) rfl
  have F_distance : FunT K "distance" "distance" s_distance _ _ := F0_distance
  have hm_distance := He.glo_ok X G0 (c.fact 15 (f := .glo "distance") rfl)
  obtain ⟨fd_nearer, F0_nearer⟩ := c.def_ 16 (d := ⟨("nearer", none), "nearer", "nearer", defArgs s_nearer, defBody s_nearer, defScope s_nearer, [], []⟩) rfl
  have F_nearer : FunT K "nearer" "nearer" s_nearer _ _ := F0_nearer
  have hm_nearer := He.glo_ok X G0 (c.fact 16 (f := .glo "nearer") rfl)
  obtain ⟨fd_plan, F0_plan⟩ := c.def_ 17 (d := ⟨("plan", none), "plan", "plan", defArgs s_plan, defBody s_plan, defScope s_plan, [], []⟩) rfl
  have F_plan : FunT K "plan" "plan" s_plan _ _ := F0_plan
  have hm_plan := He.glo_ok X G0 (c.fact 17 (f := .glo "plan") rfl)
  obtain ⟨fd_box, F0_box⟩ := c.def_ 18 (d := ⟨("_law_box", none), "_law_box", "_law_box", defArgs s_box, defBody s_box, defScope s_box, [], []⟩) rfl
  have F_box : FunT K "_law_box" "_law_box" s_box _ _ := F0_box
  have hm_box := He.glo_ok X G0 (c.fact 18 (f := .glo "_law_box") rfl)
  obtain ⟨fd_take, F0_take⟩ := c.def_ 19 (d := ⟨("_law_take", none), "_law_take", "_law_take", defArgs s_take, defBody s_take, defScope s_take, [], []⟩) rfl
  have F_take : FunT K "_law_take" "_law_take" s_take _ _ := F0_take
  have hm_take := He.glo_ok X G0 (c.fact 19 (f := .glo "_law_take") rfl)
  obtain ⟨fd_cells, F0_cells⟩ := c.def_ 20 (d := ⟨("_law_cells", none), "_law_cells", "_law_cells", defArgs s_cells, defBody s_cells, defScope s_cells, [], []⟩) rfl
  have F_cells : FunT K "_law_cells" "_law_cells" s_cells _ _ := F0_cells
  have hm_cells := He.glo_ok X G0 (c.fact 20 (f := .glo "_law_cells") rfl)
  obtain ⟨fd_of, F0_of⟩ := c.def_ 21 (d := ⟨("_law_of", none), "_law_of", "_law_of", defArgs s_of, defBody s_of, defScope s_of, [], []⟩) rfl
  have F_of : FunT K "_law_of" "_law_of" s_of _ _ := F0_of
  have hm_of := He.glo_ok X G0 (c.fact 21 (f := .glo "_law_of") rfl)
  obtain ⟨fd_strewn, F0_strewn⟩ := c.def_ 22 (d := ⟨("_law_strewn", none), "_law_strewn", "_law_strewn", defArgs s_strewn, defBody s_strewn, defScope s_strewn, [], []⟩) rfl
  have F_strewn : FunT K "_law_strewn" "_law_strewn" s_strewn _ _ := F0_strewn
  have hm_strewn := He.glo_ok X G0 (c.fact 22 (f := .glo "_law_strewn") rfl)
  obtain ⟨fd_random_state, F0_random_state⟩ := c.def_ 23 (d := ⟨("_law_random_state", none), "_law_random_state", "_law_random_state", defArgs s_random_state, defBody s_random_state, defScope s_random_state, [], []⟩) rfl
  have F_random_state : FunT K "_law_random_state" "_law_random_state" s_random_state _ _ := F0_random_state
  have hm_random_state := He.glo_ok X G0 (c.fact 23 (f := .glo "_law_random_state") rfl)
  obtain ⟨fd_right, F0_right⟩ := c.def_ 24 (d := ⟨("_law_right", none), "_law_right", "_law_right", defArgs s_right, defBody s_right, defScope s_right, [], []⟩) rfl
  have F_right : FunT K "_law_right" "_law_right" s_right _ _ := F0_right
  have hm_right := He.glo_ok X G0 (c.fact 24 (f := .glo "_law_right") rfl)
  obtain ⟨fd_law, F0_law⟩ := c.def_ 25 (d := ⟨("law", none), "law", "law", defArgs s_law, defBody s_law, defScope s_law, [], []⟩) rfl
  have F_law : FunT K "law" "law" s_law _ _ := F0_law
  have hm_law := He.glo_ok X G0 (c.fact 25 (f := .glo "law") rfl)
  have e := hfa.symm.trans hm_law
  cases e
  refine ⟨fd_law, fun s v => FunD.bindsA (ps := ["_law_script"]) F_law (fun _ _ _ _ _ _ us hl => match us, hl with | [_], _ => rfl) s [v] rfl, fun base _ _ => ?_⟩
  have o_inverse := ok_inverse (P := P) (w := w) (base := base) F_inverse G 
  have c_inverse := cald_of (st := s_inverse) F_inverse hm_inverse o_inverse (fun _ _ _ _ _ _ us hl => match us, hl with | [_], _ => rfl)
  have o_sitting := ok_sitting (P := P) (w := w) (base := base) F_sitting G c_inverse
  have c_sitting := cald_of (st := s_sitting) F_sitting hm_sitting o_sitting (fun _ _ _ _ _ _ us hl => match us, hl with | [_], _ => rfl)
  have o_as_tuples := ok_as_tuples (P := P) (w := w) (base := base) F_as_tuples G 
  have c_as_tuples := cald_of (st := s_as_tuples) F_as_tuples hm_as_tuples o_as_tuples (fun _ _ _ _ _ _ us hl => match us, hl with | [_], _ => rfl)
  have o_total := ok_total (P := P) (w := w) (base := base) F_total G 
  have c_total := cald_of (st := s_total) F_total hm_total o_total (fun _ _ _ _ _ _ us hl => match us, hl with | [_], _ => rfl)
  have o_residues := ok_residues (P := P) (w := w) (base := base) F_residues G 
  have c_residues := cald_of (st := s_residues) F_residues hm_residues o_residues (fun _ _ _ _ _ _ us hl => match us, hl with | [_], _ => rfl)
  have o_after_toll := ok_after_toll (P := P) (w := w) (base := base) F_after_toll G 
  have c_after_toll := cald_of (st := s_after_toll) F_after_toll hm_after_toll o_after_toll (fun _ _ _ _ _ _ us hl => match us, hl with | [_, _, _], _ => rfl)
  have o_exchanged := ok_exchanged (P := P) (w := w) (base := base) F_exchanged G c_sitting c_after_toll
  have c_exchanged := cald_of (st := s_exchanged) F_exchanged hm_exchanged o_exchanged (fun _ _ _ _ _ _ us hl => match us, hl with | [_, _], _ => rfl)
  have o_run := ok_run (P := P) (w := w) (base := base) F_run G c_as_tuples c_exchanged
  have c_run := cald_of (st := s_run) F_run hm_run o_run (fun _ _ _ _ _ _ us hl => match us, hl with | [_, _], _ => rfl)
  have o_kept := ok_kept (P := P) (w := w) (base := base) F_kept G c_residues c_total
  have c_kept := cald_of (st := s_kept) F_kept hm_kept o_kept (fun _ _ _ _ _ _ us hl => match us, hl with | [_], _ => rfl)
  have o_check_people := ok_check_people (P := P) (w := w) (base := base) F_check_people G 
  have c_check_people := cald_of (st := s_check_people) F_check_people hm_check_people o_check_people (fun _ _ _ _ _ _ us hl => match us, hl with | [_, _], _ => rfl)
  have o_bar := ok_bar (P := P) (w := w) (base := base) F_bar G c_check_people c_kept
  have c_bar := cald_of (st := s_bar) F_bar hm_bar o_bar (fun _ _ _ _ _ _ us hl => match us, hl with | [_, _], _ => rfl)
  have o_leads := ok_leads (P := P) (w := w) (base := base) F_leads G c_bar
  have c_leads := cald_of (st := s_leads) F_leads hm_leads o_leads (fun _ _ _ _ _ _ us hl => match us, hl with | [_, _], _ => rfl)
  have o_check_leads := ok_check_leads (P := P) (w := w) (base := base) F_check_leads G c_bar
  have c_check_leads := cald_of (st := s_check_leads) F_check_leads hm_check_leads o_check_leads (fun _ _ _ _ _ _ us hl => match us, hl with | [_, _], _ => rfl)
  have o_shifts := ok_shifts (P := P) (w := w) (base := base) F_shifts G c_check_leads
  have c_shifts := cald_of (st := s_shifts) F_shifts hm_shifts o_shifts (fun _ _ _ _ _ _ us hl => match us, hl with | [_, _], _ => rfl)
  have o_crossings := ok_crossings (P := P) (w := w) (base := base) F_crossings G c_shifts
  have c_crossings := cald_of (st := s_crossings) F_crossings hm_crossings o_crossings (fun _ _ _ _ _ _ us hl => match us, hl with | [_, _], _ => rfl)
  have o_distance := ok_distance (P := P) (w := w) (base := base) F_distance G c_crossings
  have c_distance := cald_of (st := s_distance) F_distance hm_distance o_distance (fun _ _ _ _ _ _ us hl => match us, hl with | [_, _], _ => rfl)
  have o_nearer := ok_nearer (P := P) (w := w) (base := base) F_nearer G c_shifts c_sitting
  have c_nearer := cald_of (st := s_nearer) F_nearer hm_nearer o_nearer (fun _ _ _ _ _ _ us hl => match us, hl with | [_, _], _ => rfl)
  have o_plan := ok_plan (P := P) (w := w) (base := base) F_plan G c_distance c_nearer c_exchanged
  have c_plan := cald_of (st := s_plan) F_plan hm_plan o_plan (fun _ _ _ _ _ _ us hl => match us, hl with | [_, _], _ => rfl)
  have o_box := ok_box (P := P) (w := w) (base := base) F_box G 
  have c_box := cald_of (st := s_box) F_box hm_box o_box (fun _ _ _ _ _ _ us hl => match us, hl with | [_, _], _ => rfl)
  have o_take := ok_take (P := P) (w := w) (base := base) F_take hm_take G  10
  have c_take := cald_of (st := s_take) F_take hm_take o_take (fun _ _ _ _ _ _ us hl => match us, hl with | [_, _], _ => rfl)
  have o_cells := ok_cells (P := P) (w := w) (base := base) F_cells G 
  have c_cells := cald_of (st := s_cells) F_cells hm_cells o_cells (fun _ _ _ _ _ _ us hl => match us, hl with | [_, _], _ => rfl)
  have o_of := ok_of (P := P) (w := w) (base := base) F_of G c_take
  have c_of := cald_of (st := s_of) F_of hm_of o_of (fun _ _ _ _ _ _ us hl => match us, hl with | [_, _], _ => rfl)
  have o_strewn := ok_strewn (P := P) (w := w) (base := base) F_strewn G c_take
  have c_strewn := cald_of (st := s_strewn) F_strewn hm_strewn o_strewn (fun _ _ _ _ _ _ us hl => match us, hl with | [_, _], _ => rfl)
  have o_random_state := ok_random_state (P := P) (w := w) (base := base) F_random_state G c_strewn c_take
  have c_random_state := cald_of (st := s_random_state) F_random_state hm_random_state o_random_state (fun _ _ _ _ _ _ us hl => match us, hl with | [_, _, _], _ => rfl)
  have o_right := ok_right (P := P) (w := w) (base := base) F_right G c_random_state c_take c_of c_leads c_distance c_crossings c_run c_shifts c_plan
  have c_right := cald_of (st := s_right) F_right hm_right o_right (fun _ _ _ _ _ _ us hl => match us, hl with | [_], _ => rfl)
  exact ok_law F_law G c_cells c_box c_right
abbrev R : PySem.W.OpenRow := PySem.W.OpenLaw.row PySem.Challenge.rw_tollround_k28_whole_round_the_table
abbrev hk : PySem.W.Hook := He.hookD 4 fa fn
def ob (s : PySem.W.SharedT) : He.AlD := He.obsDG 4 fa fn (HandSHeadRun.getT s)
theorem ob_eq (s : PySem.W.SharedT) : ob s = hk.obs s.abs := He.obsDG_eq (HandSHeadRun.getT_eq s)
end DL.K28

namespace DL
namespace K09
open PySem PySem.Spec L2 DL DL.C
/-! one rich person goes past all others: plain -/
/-- how often w has been passed after k steps -/
def turn (n k w : Nat) : Nat := k / (n - 1) + (if w ≤ k % (n - 1) then 1 else 0)
def endI (n b k w : Nat) : Int := if w = 0 then (b : Int) + k else (b : Int) + w - turn n k w
def sK (n b k : Nat) : List Nat := (List.range n).map fun w => (endI n b k w % (n : Int)).toNat
def pK (n K x k : Nat) : List Int := (List.range n).map fun w => if w = 0 then (K : Int) + x - k else (turn n k w : Nat)
/-- whose turn it is -/
def mate (n k : Nat) : Nat := k % (n - 1) + 1
theorem mate_lt {n k : Nat} (h2 : 2 ≤ n) : 0 < mate n k ∧ mate n k < n := by
  have := Nat.mod_lt k (show 0 < n - 1 by omega)
  unfold mate
  omega
theorem turn_succ {n k w : Nat} (h2 : 2 ≤ n) (hw : 0 < w) (hwn : w < n) : turn n (k + 1) w = turn n k w + (if w = mate n k then 1 else 0) := by
  have h0 : 0 < n - 1 := by omega
  have hd := Nat.div_add_mod k (n - 1)
  have hl := Nat.mod_lt k h0
  unfold turn mate
  generalize hA : k / (n - 1) = a at *
  generalize hL : k % (n - 1) = l at *
  by_cases hll : l + 1 < n - 1
  · have e1 : (k + 1) / (n - 1) = a := by
      rw [← hd, Nat.add_assoc, Nat.mul_add_div h0, Nat.div_eq_of_lt hll]
      omega
    have e2 : (k + 1) % (n - 1) = l + 1 := by
      rw [← hd, Nat.add_assoc, Nat.mul_add_mod, Nat.mod_eq_of_lt hll]
    rw [e1, e2]
    split <;> split <;> split <;> omega
  · have hle : l + 1 = n - 1 := by omega
    have e1 : (k + 1) / (n - 1) = a + 1 := by
      rw [← hd, Nat.add_assoc, hle, ← Nat.mul_succ, Nat.mul_div_cancel_left _ h0]
    have e2 : (k + 1) % (n - 1) = 0 := by
      rw [← hd, Nat.add_assoc, hle, ← Nat.mul_succ, Nat.mul_mod_right]
    rw [e1, e2]
    split <;> split <;> split <;> omega
theorem turn_mono {n k K w : Nat} (h2 : 2 ≤ n) (hw : 0 < w) (hwn : w < n) (h : k ≤ K) : turn n k w ≤ turn n K w := by
  induction h with
  | refl => exact Nat.le_refl _
  | step _ ih =>
    rw [turn_succ h2 hw hwn]
    omega
theorem sK_at {n b k w : Nat} (hw : w < n) : (sK n b k)[w]? = some (endI n b k w % (n : Int)).toNat := by
  unfold sK
  rw [List.getElem?_map, List.getElem?_range hw]
  rfl
theorem pK_at {n K x k w : Nat} (hw : w < n) : (pK n K x k)[w]? = some (if w = 0 then (K : Int) + x - k else (turn n k w : Nat)) := by
  unfold pK
  rw [List.getElem?_map, List.getElem?_range hw]
  rfl
theorem start_stt {n b K x : Nat} (h2 : 2 ≤ n) : Stt n (sK n b 0) (pK n K x 0) := by
  have t0 : ∀ w, 0 < w → turn n 0 w = 0 := fun w hw => by
    unfold turn
    rw [Nat.zero_div, Nat.zero_mod, if_neg (by omega)]
  have es : sK n b 0 = pushL n b (List.range n) := by
    apply ext_of
    intro w
    by_cases hw : w < n
    · rw [sK_at hw]
      unfold pushL
      rw [List.getElem?_map, List.getElem?_range hw]
      show some _ = some ((w + b) % n)
      congr 1
      unfold endI
      have : ∀ z : Nat, ((z : Int) % (n : Int)).toNat = z % n := fun z => by
        rw [← Int.natCast_emod, Int.toNat_natCast]
      split
      · rename_i h; subst h; rw [show (b : Int) + (0 : Nat) = ((0 + b : Nat) : Int) by push_cast; omega, this]
      · rw [t0 w (by omega), show (b : Int) + w - (0 : Nat) = ((w + b : Nat) : Int) by push_cast; omega, this]
    · rw [List.getElem?_eq_none (by unfold sK; simp; omega), List.getElem?_eq_none (by unfold pushL; simp; omega)]
  have base : Stt n (List.range n) (pK n K x 0) := by
    refine ⟨List.Perm.refl _, by unfold pK; simp, fun p hp => ?_⟩
    obtain ⟨w, hw⟩ := List.getElem?_of_mem hp
    have hwn : w < n := by have := lt_of_getL hw; unfold pK at this; simpa using this
    rw [pK_at hwn] at hw
    have := Option.some.inj hw
    split at this <;> omega
  rw [es]
  exact base.push
/-- one step -/
theorem step_ex {n b K x k : Nat} (h2 : 2 ≤ n) (hk : k < K) : Ex n (sK n b k) (pK n K x k) ((b + k) % n) (sK n b (k + 1)) (pK n K x (k + 1)) := by
  obtain ⟨m0, mn⟩ := mate_lt (k := k) h2
  have nat : ∀ z : Nat, ((z : Int) % (n : Int)).toNat = z % n := fun z => by rw [← Int.natCast_emod, Int.toNat_natCast]
  have hm : (endI n b k (mate n k) % (n : Int)).toNat = ((b + k) % n + 1) % n := by
    have hd := Nat.div_add_mod k (n - 1)
    unfold endI
    rw [if_neg (by omega)]
    unfold turn mate
    rw [if_neg (by omega)]
    generalize k / (n - 1) = a at *
    generalize k % (n - 1) = l at *
    have e : (b : Int) + ((l + 1 : Nat) : Int) - ((a + 0 : Nat) : Int) = ((b + k + 1 : Nat) : Int) + n * (-(a : Int)) := by
      have : ((n - 1 : Nat) : Int) = (n : Int) - 1 := by omega
      have e2 : (k : Int) = ((n : Int) - 1) * a + l := by
        rw [← hd]
        push_cast
        rw [this]
      push_cast
      rw [e2, Int.sub_mul, Int.mul_neg]
      omega
    rw [e, Int.add_mul_emod_self_left, nat, Nat.mod_add_mod]
  have hz : (endI n b k 0 % (n : Int)).toNat = (b + k) % n := by
    unfold endI
    rw [if_pos rfl, show (b : Int) + k = ((b + k : Nat) : Int) by push_cast; rfl, nat]
  have h0n : 0 < n := by omega
  refine ⟨0, mate n k, (K : Int) + x - k, (turn n k (mate n k) : Nat), by rw [sK_at h0n, hz], by rw [sK_at mn, hm], by rw [pK_at h0n]; rfl, by omega, by rw [pK_at mn, if_neg (by omega)], ?_, ?_⟩
  · apply ext_of
    intro w
    have hl : (sK n b k).length = n := by unfold sK; simp
    by_cases hw : w < n
    · rw [sK_at hw]
      by_cases hwm : w = mate n k
      · subst hwm
        rw [List.getElem?_set_self (by simp [hl]; exact hw)]
        congr 1
        unfold endI
        rw [if_neg (by omega), turn_succ h2 m0 mn, if_pos rfl]
        have e : (b : Int) + (mate n k : Nat) - ((turn n k (mate n k) + 1 : Nat) : Int) = endI n b k (mate n k) - 1 := by
          unfold endI
          rw [if_neg (by omega)]
          push_cast
          omega
        rw [e]
        -- one place back from the next seat
        have hd := Nat.div_add_mod k (n - 1)
        have e3 : endI n b k (mate n k) - 1 = ((b + k : Nat) : Int) + n * (-((k / (n - 1) : Nat) : Int)) := by
          unfold endI
          rw [if_neg (by omega)]
          unfold turn mate
          rw [if_neg (by omega)]
          generalize k / (n - 1) = a at *
          generalize k % (n - 1) = l at *
          have : ((n - 1 : Nat) : Int) = (n : Int) - 1 := by omega
          have e2 : (k : Int) = ((n : Int) - 1) * a + l := by
            rw [← hd]
            push_cast
            rw [this]
          push_cast
          rw [e2, Int.sub_mul, Int.mul_neg]
          omega
        rw [e3, Int.add_mul_emod_self_left, nat]
      · rw [List.getElem?_set_ne (Ne.symm hwm)]
        by_cases hw0 : w = 0
        · subst hw0
          rw [List.getElem?_set_self (by rw [hl]; exact hw)]
          congr 1
          unfold endI
          rw [if_pos rfl, show (b : Int) + ((k + 1 : Nat) : Int) = ((b + k + 1 : Nat) : Int) by push_cast; omega, nat, Nat.mod_add_mod]
        · rw [List.getElem?_set_ne (Ne.symm hw0), sK_at hw]
          congr 2
          unfold endI
          rw [if_neg hw0, if_neg hw0, turn_succ h2 (by omega) hw, if_neg hwm]
          rfl
    · rw [List.getElem?_eq_none (by unfold sK; simp; omega), List.getElem?_eq_none (by simp [hl]; omega)]
  · apply ext_of
    intro w
    have hl : (pK n K x k).length = n := by unfold pK; simp
    by_cases hw : w < n
    · rw [pK_at hw]
      by_cases hwm : w = mate n k
      · subst hwm
        rw [List.getElem?_set_self (by simp [hl]; exact hw), if_neg (by omega), turn_succ h2 m0 mn, if_pos rfl]
        congr 1
      · rw [List.getElem?_set_ne (Ne.symm hwm)]
        by_cases hw0 : w = 0
        · subst hw0
          rw [List.getElem?_set_self (by rw [hl]; exact hw), if_pos rfl]
          congr 1
          push_cast
          omega
        · rw [List.getElem?_set_ne (Ne.symm hw0), pK_at hw, if_neg hw0, if_neg hw0, turn_succ h2 (by omega) hw, if_neg hwm]
          rfl
    · rw [List.getElem?_eq_none (by unfold pK; simp; omega), List.getElem?_eq_none (by simp [hl]; omega)]
theorem steps_run {n b K x : Nat} (h2 : 2 ≤ n) : ∀ k, k ≤ K → Run n (sK n b 0) (pK n K x 0) ((List.range k).map fun i => (b + i) % n) (sK n b k) (pK n K x k) := by
  intro k
  induction k with
  | zero => intro _; exact .nil
  | succ k ih =>
    intro hk
    rw [List.range_succ, List.map_append]
    exact (ih (by omega)).snoc (step_ex h2 (by omega))
theorem at_stt {n b K x k : Nat} (h2 : 2 ≤ n) (hk : k ≤ K) : Stt n (sK n b k) (pK n K x k) ∧ Lot (sK n b 0) (pK n K x 0) (sK n b k) (pK n K x k) := (steps_run h2 k hk).ok (start_stt h2) h2
/-- where the others are behind -/
theorem near_at {n b K x k : Nat} (h2 : 2 ≤ n) (hk : k < K) : nearD n (sK n b k) (pK n K x k) (pK n K x K) = nD ((b + k) % n) := by
  obtain ⟨h, _⟩ := at_stt (b := b) (x := x) h2 (show k ≤ K by omega)
  have hpl : (pK n K x k).length = n := by unfold pK; simp
  have hql : (pK n K x K).length = n := by unfold pK; simp
  have hSl : (shiftL (pK n K x k) (pK n K x K)).length = n := by rw [shift_len, hpl, hql]; simp
  have hS : ∀ w, w < n → pF (shiftL (pK n K x k) (pK n K x K)) w = if w = 0 then (K : Int) - k else (turn n k w : Int) - turn n K w := fun w hw => by
    rw [pF_at (shift_at (pK_at hw) (pK_at hw))]
    split <;> omega
  have hle : ∀ w, 0 < w → w < n → pF (shiftL (pK n K x k) (pK n K x K)) w ≤ 0 := fun w h0 hw => by
    rw [hS w hw, if_neg (by omega)]
    have := turn_mono h2 h0 hw (show k ≤ K by omega)
    omega
  have h0n : 0 < n := by omega
  obtain ⟨m1, x0, hx0, hmx⟩ := max_of (S := shiftL (pK n K x k) (pK n K x K)) (by omega)
  have hnb : ∀ c, nearB n (sK n b k) (pK n K x k) (pK n K x K) c = ((pF (shiftL (pK n K x k) (pK n K x K)) ((sK n b k).idxOf c) == maxI ((shiftL (pK n K x k) (pK n K x K)).headD 0) (shiftL (pK n K x k) (pK n K x K)).tail) && decide (pF (shiftL (pK n K x k) (pK n K x K)) ((sK n b k).idxOf ((c + 1) % n)) < maxI ((shiftL (pK n K x k) (pK n K x K)).headD 0) (shiftL (pK n K x k) (pK n K x K)).tail)) := fun c => rfl
  generalize maxI ((shiftL (pK n K x k) (pK n K x K)).headD 0) (shiftL (pK n K x k) (pK n K x K)).tail = mx at *
  have hS0 := hS 0 h0n
  rw [if_pos rfl] at hS0
  have hmxv : mx = (K : Int) - k := by
    have := m1 0 (by omega)
    by_cases hx : x0 = 0
    · rw [hx, hS0] at hmx; exact hmx.symm
    · have := hle x0 (by omega) (by omega)
      omega
  -- person 0's seat
  have hz : (sK n b k)[0]? = some ((b + k) % n) := by
    rw [sK_at h0n]
    unfold endI
    rw [if_pos rfl, show (b : Int) + k = ((b + k : Nat) : Int) by push_cast; rfl, ← Int.natCast_emod, Int.toNat_natCast]
  have hc := h.lt hz
  obtain ⟨hne, hlt⟩ := next_ne h2 hc
  obtain ⟨j, hj⟩ := h.onto hlt
  have jn : j < n := by have := lt_of_getL hj; rw [h.slen] at this; exact this
  have j0 : j ≠ 0 := fun e => by rw [e, hz] at hj; exact hne (Option.some.inj hj).symm
  have hB : nearB n (sK n b k) (pK n K x k) (pK n K x K) ((b + k) % n) = true := by
    rw [hnb, back_idx h hz, back_idx h hj, hS0, hmxv]
    have := hle j (by omega) jn
    simp
    omega
  have hother : ∀ d, d < (b + k) % n → nearB n (sK n b k) (pK n K x k) (pK n K x K) d = false := fun d hd => by
    obtain ⟨i, hi⟩ := h.onto (show d < n by omega)
    have hin : i < n := by have := lt_of_getL hi; rw [h.slen] at this; exact this
    have hi0 : i ≠ 0 := fun e => by rw [e, hz] at hi; have := Option.some.inj hi; omega
    rw [hnb, back_idx h hi]
    have := hle i (by omega) hin
    have : (pF (shiftL (pK n K x k) (pK n K x K)) i == mx) = false := by simp; omega
    rw [this]
    rfl
  unfold nearD
  have : (List.range n).find? (nearB n (sK n b k) (pK n K x k) (pK n K x K)) = some ((b + k) % n) := by
    rw [List.find?_range_eq_some]
    exact ⟨hB, List.mem_range.mpr hc, fun d hd => by rw [hother d hd]; rfl⟩
  rw [this]
/-- how often people pass one another -/
theorem cross_0 {n b K x w : Nat} (h2 : 2 ≤ n) (hw : 0 < w) (hwn : w < n) : crossI n (sK n b 0) (pK n K x 0) (pK n K x K) 0 w = (turn n K w : Nat) := by
  have h0n : 0 < n := by omega
  have t0 : ∀ w, 0 < w → turn n 0 w = 0 := fun w hw => by
    unfold turn
    rw [Nat.zero_div, Nat.zero_mod, if_neg (by omega)]
  have sv : ∀ v, v < n → ∃ e : Int, sF (sK n b 0) v = (b : Int) + v - n * e := fun v hv => by
    refine ⟨endI n b 0 v / n, ?_⟩
    rw [sF_at (sK_at hv)]
    have e1 := Int.emod_add_mul_ediv (endI n b 0 v) n
    have e2 := Int.emod_nonneg (endI n b 0 v) (show (n : Int) ≠ 0 by omega)
    have e3 : endI n b 0 v = (b : Int) + v := by
      unfold endI
      split
      · rename_i h; subst h; omega
      · rw [t0 v (by omega)]; omega
    rw [Int.toNat_of_nonneg e2]
    omega
  obtain ⟨e0, s0⟩ := sv 0 h0n
  obtain ⟨ew, sw⟩ := sv w hwn
  unfold crossI
  rw [s0, sw, pF_at (pK_at (K := K) (x := x) (k := 0) hwn), pF_at (pK_at (K := K) (x := x) (k := K) hwn), pF_at (pK_at (K := K) (x := x) (k := 0) h0n), pF_at (pK_at (K := K) (x := x) (k := K) h0n), if_neg (by omega), if_neg (by omega), if_pos rfl, if_pos rfl, t0 w hw]
  have hd := Nat.div_add_mod K (n - 1)
  have hl := Nat.mod_lt K (show 0 < n - 1 by omega)
  have hn1 : ((n - 1 : Nat) : Int) = (n : Int) - 1 := by omega
  unfold turn
  generalize K / (n - 1) = a at *
  generalize K % (n - 1) = l at *
  have hK : (K : Int) = ((n : Int) - 1) * a + l := by
    rw [← hd]
    push_cast
    rw [hn1]
  rw [Int.sub_mul] at hK
  have x1 : (b : Int) + w - n * ew + (((0 : Nat) : Int) - ((a + (if w ≤ l then 1 else 0) : Nat) : Int)) - ((b : Int) + (0 : Nat) - n * e0 + ((K : Int) + x - (0 : Nat) - ((K : Int) + x - K))) = ((w : Int) - ((a + (if w ≤ l then 1 else 0) : Nat) : Int) - K) + n * (e0 - ew) := by
    rw [Int.mul_sub]
    omega
  have x2 : (b : Int) + w - n * ew - ((b : Int) + (0 : Nat) - n * e0) = (w : Int) + n * (e0 - ew) := by rw [Int.mul_sub]; omega
  have z0 : (w : Int) / n = 0 := Int.ediv_eq_zero_of_lt (by omega) (by omega)
  rw [x1, x2, Int.add_mul_ediv_left _ _ (by omega), Int.add_mul_ediv_left _ _ (by omega), z0]
  have x3 : ((w : Int) - ((a + (if w ≤ l then 1 else 0) : Nat) : Int) - K) / n = -((a + (if w ≤ l then 1 else 0) : Nat) : Int) := by
    by_cases hwl : w ≤ l
    · rw [if_pos hwl]
      have : (w : Int) - ((a + 1 : Nat) : Int) - K = ((n : Int) - (l + 1 - w)) + n * (-((a + 1 : Nat) : Int)) := by
        rw [Int.mul_neg]
        push_cast
        rw [Int.mul_add]
        omega
      rw [this, Int.add_mul_ediv_left _ _ (by omega), Int.ediv_eq_zero_of_lt (by omega) (by omega)]
      omega
    · rw [if_neg hwl]
      have : (w : Int) - ((a + 0 : Nat) : Int) - K = ((w : Int) - l) + n * (-((a + 0 : Nat) : Int)) := by
        rw [Nat.add_zero, Int.mul_neg]
        omega
      rw [this, Int.add_mul_ediv_left _ _ (by omega), Int.ediv_eq_zero_of_lt (by omega) (by omega)]
      omega
  rw [x3]
  unfold absI
  split <;> omega
theorem cross_wv {n b K x w v : Nat} (h2 : 2 ≤ n) (hw : 0 < w) (hwv : w < v) (hv : v < n) : crossI n (sK n b 0) (pK n K x 0) (pK n K x K) w v = 0 := by
  have t0 : ∀ w, 0 < w → turn n 0 w = 0 := fun w hw => by
    unfold turn
    rw [Nat.zero_div, Nat.zero_mod, if_neg (by omega)]
  have hwn : w < n := by omega
  have sv : ∀ v, v < n → ∃ e : Int, sF (sK n b 0) v = (b : Int) + v - n * e := fun v hv => by
    refine ⟨endI n b 0 v / n, ?_⟩
    rw [sF_at (sK_at hv)]
    have e1 := Int.emod_add_mul_ediv (endI n b 0 v) n
    have e2 := Int.emod_nonneg (endI n b 0 v) (show (n : Int) ≠ 0 by omega)
    have e3 : endI n b 0 v = (b : Int) + v := by
      unfold endI
      split
      · rename_i h; subst h; omega
      · rw [t0 v (by omega)]; omega
    rw [Int.toNat_of_nonneg e2]
    omega
  obtain ⟨e0, s0⟩ := sv w hwn
  obtain ⟨ew, sw⟩ := sv v hv
  unfold crossI
  rw [s0, sw, pF_at (pK_at (K := K) (x := x) (k := 0) hwn), pF_at (pK_at (K := K) (x := x) (k := K) hwn), pF_at (pK_at (K := K) (x := x) (k := 0) hv), pF_at (pK_at (K := K) (x := x) (k := K) hv), if_neg (by omega), if_neg (by omega), if_neg (by omega), if_neg (by omega), t0 w hw, t0 v (by omega)]
  have ht : (turn n K w : Int) - turn n K v = 0 ∨ (turn n K w : Int) - turn n K v = 1 := by
    unfold turn
    split <;> split <;> omega
  have hl := Nat.mod_lt K (show 0 < n - 1 by omega)
  have x1 : (b : Int) + v - n * ew + (((0 : Nat) : Int) - (turn n K v : Nat)) - ((b : Int) + w - n * e0 + (((0 : Nat) : Int) - (turn n K w : Nat))) = ((v : Int) - w + ((turn n K w : Int) - turn n K v)) + n * (e0 - ew) := by
    rw [Int.mul_sub]
    omega
  have x2 : (b : Int) + v - n * ew - ((b : Int) + w - n * e0) = ((v : Int) - w) + n * (e0 - ew) := by rw [Int.mul_sub]; omega
  rw [x1, x2, Int.add_mul_ediv_left _ _ (by omega), Int.add_mul_ediv_left _ _ (by omega), Int.ediv_eq_zero_of_lt (by omega) (by omega), Int.ediv_eq_zero_of_lt (by omega) (by omega)]
  simp [absI]
theorem pairs_0 {n : Nat} (h2 : 2 ≤ n) : ∃ rest, pairs n = ((List.range' 1 (n - 1)).map fun y => (0, y)) ++ rest ∧ ∀ z ∈ rest, 0 < z.1 ∧ z.1 < z.2 ∧ z.2 < n := by
  obtain ⟨m, rfl⟩ : ∃ m, n = m + 1 := ⟨n - 1, by omega⟩
  refine ⟨((List.range m).map Nat.succ).flatMap fun x => (List.range' (x + 1) (m + 1 - (x + 1))).map fun y => (x, y), ?_, fun z hz => ?_⟩
  · unfold pairs
    rw [List.range_succ_eq_map, List.flatMap_cons]
  · rw [List.mem_flatMap] at hz
    obtain ⟨x, hx, hz⟩ := hz
    obtain ⟨x', _, rfl⟩ := List.mem_map.mp hx
    obtain ⟨y, hy, rfl⟩ := List.mem_map.mp hz
    rw [List.mem_range'_1] at hy
    show 0 < x' + 1 ∧ x' + 1 < y ∧ y < m + 1
    omega
theorem dist_rich {n b K x : Nat} (h2 : 2 ≤ n) : distI n (sK n b 0) (pK n K x 0) (pK n K x K) = K ∧ crossL n (sK n b 0) (pK n K x 0) (pK n K x K) = ((List.range' 1 (n - 1)).filter fun w => decide (0 < turn n K w)).map fun w => PyData.tuple [nD 0, nD w, nD (turn n K w)] := by
  obtain ⟨rest, hp, hr⟩ := pairs_0 h2
  have hc : ∀ w ∈ List.range' 1 (n - 1), crossI n (sK n b 0) (pK n K x 0) (pK n K x K) 0 w = (turn n K w : Nat) := fun w hw => by
    rw [List.mem_range'_1] at hw
    exact cross_0 h2 (by omega) (by omega)
  have hz : ∀ z ∈ rest, crossI n (sK n b 0) (pK n K x 0) (pK n K x K) z.1 z.2 = 0 := fun z hz => by
    obtain ⟨a, b', c⟩ := hr z hz
    exact cross_wv h2 a b' c
  have L := (at_stt (b := b) (x := x) h2 (Nat.le_refl K)).2.sum
  have hs : ∀ k, (pK n K x k).sum = (K : Int) + x - k + ((List.range' 1 (n - 1)).map fun w => (turn n k w : Int)).sum := fun k => by
    unfold pK
    obtain ⟨m, rfl⟩ : ∃ m, n = m + 1 := ⟨n - 1, by omega⟩
    rw [List.range_succ_eq_map, List.map_cons, List.sum_cons, if_pos rfl]
    congr 1
    rw [List.map_map, show m + 1 - 1 = m by omega, List.range'_eq_map_range, List.map_map]
    refine congrArg List.sum (List.map_congr_left fun w _ => ?_)
    show (if w + 1 = 0 then (K : Int) + x - k else (turn (m + 1) k (w + 1) : Int)) = (turn (m + 1) k (1 + w) : Int)
    rw [if_neg (by omega), Nat.add_comm 1 w]
  have h0 : ((List.range' 1 (n - 1)).map fun w => (turn n 0 w : Int)).sum = 0 := by
    have : ∀ w ∈ List.range' 1 (n - 1), (turn n 0 w : Int) = 0 := fun w hw => by
      rw [List.mem_range'_1] at hw
      unfold turn
      rw [Nat.zero_div, Nat.zero_mod, if_neg (by omega)]
      rfl
    rw [sum_map_congr (g := fun _ => 0) this]
    induction List.range' 1 (n - 1) with
    | nil => rfl
    | cons _ _ ih => rw [List.map_cons, List.sum_cons, ih]; rfl
  rw [hs, hs, h0] at L
  refine ⟨?_, ?_⟩
  · unfold distI
    rw [hp, List.map_append, List.sum_append, List.map_map]
    have e1 : ((List.range' 1 (n - 1)).map ((fun z : Nat × Nat => crossI n (sK n b 0) (pK n K x 0) (pK n K x K) z.1 z.2) ∘ fun y => (0, y))).sum = ((List.range' 1 (n - 1)).map fun w => (turn n K w : Int)).sum := sum_map_congr hc
    have e2 : (rest.map fun z => crossI n (sK n b 0) (pK n K x 0) (pK n K x K) z.1 z.2).sum = 0 := by
      rw [sum_map_congr (g := fun _ => 0) hz]
      clear hz hr hp
      induction rest with
      | nil => rfl
      | cons _ _ ih => rw [List.map_cons, List.sum_cons, ih]; rfl
    rw [e1, e2]
    omega
  · unfold crossL
    rw [hp, List.filterMap_append]
    have e2 : rest.filterMap (crossD n (sK n b 0) (pK n K x 0) (pK n K x K)) = [] := by
      rw [List.filterMap_eq_nil_iff]
      intro z hz'
      unfold crossD
      rw [hz z hz']
      rfl
    rw [e2, List.append_nil]
    generalize List.range' 1 (n - 1) = l at hc
    induction l with
    | nil => rfl
    | cons w l ih =>
      have hw := hc w List.mem_cons_self
      have ih := ih fun v hv => hc v (List.mem_cons_of_mem _ hv)
      by_cases ht : 0 < turn n K w
      · have : crossD n (sK n b 0) (pK n K x 0) (pK n K x K) (0, w) = some (.tuple [nD 0, nD w, nD (turn n K w)]) := by
          unfold crossD
          rw [hw, if_pos (by omega)]
        rw [List.map_cons, List.filterMap_cons_some this, List.filter_cons_of_pos (by simp [ht]), List.map_cons, ih]
      · have : crossD n (sK n b 0) (pK n K x 0) (pK n K x K) (0, w) = none := by
          unfold crossD
          rw [hw, if_neg (by omega)]
        rw [List.map_cons, List.filterMap_cons_none this, List.filter_cons_of_neg (by simp [ht]), ih]
/-- the plan -/
theorem plan_is {n b K x : Nat} {cs : List Nat} (h2 : 2 ≤ n) (R : Run n (sK n b 0) (pK n K x 0) cs (sK n b K) (pK n K x K)) (hl : cs.length = K) (hN : ∀ i c s p, cs[i]? = some c → Run n (sK n b 0) (pK n K x 0) (cs.take i) s p → nearD n s p (pK n K x K) = nD c) : cs = (List.range K).map fun k => (b + k) % n := by
  have key : ∀ k, k ≤ K → cs.take k = (List.range k).map fun i => (b + i) % n := fun k => by
    induction k with
    | zero => intro _; rfl
    | succ k ih =>
      intro hk
      have ih := ih (by omega)
      obtain ⟨c, hc⟩ := get_some (show k < cs.length by omega)
      have hr := steps_run (b := b) (x := x) h2 k (show k ≤ K by omega)
      rw [← ih] at hr
      have := hN k c _ _ hc hr
      rw [near_at h2 (by omega)] at this
      have hcv : (b + k) % n = c := by
        have e : (((b + k) % n : Nat) : Int) = (c : Int) := by
          have := PyData.int.inj this
          exact this
        omega
      rw [List.take_succ, hc, ih, List.range_succ, List.map_append, ← hcv]
      rfl
  have := key K (Nat.le_refl _)
  rw [List.take_of_length_le (by omega)] at this
  exact this
end K09
end DL

namespace DL
namespace K28
open PySem PySem.Spec L2 DL DL.C
/-! ### the same exchanges by other people who hold more -/
def LS (n : Nat) (W : Nat → Nat) (ss : List Nat) : List Nat := (List.range n).map fun x => ss.getD (W x) 0
def LP (n : Nat) (W : Nat → Nat) (a : Nat → Int) (ps : List Int) : List Int := (List.range n).map fun x => pF ps (W x) + a x
theorem LS_at {n : Nat} {W : Nat → Nat} {ss : List Nat} {x c : Nat} (hx : x < n) (h : ss[W x]? = some c) : (LS n W ss)[x]? = some c := by
  unfold LS
  rw [List.getElem?_map, List.getElem?_range hx]
  show some (ss.getD (W x) 0) = _
  rw [List.getD_eq_getElem?_getD, h]
  rfl
theorem LP_at {n : Nat} {W : Nat → Nat} {a : Nat → Int} {ps : List Int} {x : Nat} {p : Int} (hx : x < n) (h : ps[W x]? = some p) : (LP n W a ps)[x]? = some (p + a x) := by
  unfold LP
  rw [List.getElem?_map, List.getElem?_range hx]
  show some (pF ps (W x) + a x) = _
  rw [pF_at h]
theorem LS_len {n : Nat} {W : Nat → Nat} {ss : List Nat} : (LS n W ss).length = n := by unfold LS; simp
theorem LP_len {n : Nat} {W : Nat → Nat} {a : Nat → Int} {ps : List Int} : (LP n W a ps).length = n := by unfold LP; simp
structure Onto (n : Nat) (W : Nat → Nat) : Prop where
  lt : ∀ x, x < n → W x < n
  inj : ∀ x y, x < n → y < n → W x = W y → x = y
  sur : ∀ w, w < n → ∃ x, x < n ∧ W x = w
theorem LS_set {n : Nat} {W : Nat → Nat} (o : Onto n W) {ss : List Nat} (hl : ss.length = n) {j t v : Nat} (ht : t < n) (hj : W t = j) : LS n W (ss.set j v) = (LS n W ss).set t v := by
  apply List.ext_getElem?
  intro x
  by_cases hx : x < n
  · have hwx := o.lt x hx
    have h1 : (ss.set j v)[W x]? = some (if j = W x then v else ss[W x]'(by omega)) := by
      rw [List.getElem?_set]
      by_cases e : j = W x
      · rw [if_pos e, if_pos e, if_pos (by omega)]
      · rw [if_neg e, if_neg e, List.getElem?_eq_getElem (by omega)]
    rw [LS_at hx h1, List.getElem?_set]
    by_cases e : t = x
    · subst e
      rw [if_pos rfl, if_pos hj.symm, if_pos (by rw [LS_len]; omega)]
    · rw [if_neg e, if_neg (fun q => e (o.inj t x ht hx (hj.trans q))), LS_at hx (List.getElem?_eq_getElem (by omega))]
  · rw [List.getElem?_eq_none (by rw [LS_len]; omega), List.getElem?_eq_none (by rw [List.length_set, LS_len]; omega)]
theorem LP_set {n : Nat} {W : Nat → Nat} {a : Nat → Int} (o : Onto n W) {ps : List Int} (hl : ps.length = n) {j t : Nat} {v : Int} (ht : t < n) (hj : W t = j) : LP n W a (ps.set j v) = (LP n W a ps).set t (v + a t) := by
  apply List.ext_getElem?
  intro x
  by_cases hx : x < n
  · have hwx := o.lt x hx
    have h1 : (ps.set j v)[W x]? = some (if j = W x then v else ps[W x]'(by omega)) := by
      rw [List.getElem?_set]
      by_cases e : j = W x
      · rw [if_pos e, if_pos e, if_pos (by omega)]
      · rw [if_neg e, if_neg e, List.getElem?_eq_getElem (by omega)]
    rw [LP_at hx h1, List.getElem?_set]
    by_cases e : t = x
    · subst e
      rw [if_pos rfl, if_pos hj.symm, if_pos (by rw [LP_len]; omega)]
    · rw [if_neg e, if_neg (fun q => e (o.inj t x ht hx (hj.trans q))), LP_at hx (List.getElem?_eq_getElem (by omega))]
  · rw [List.getElem?_eq_none (by rw [LP_len]; omega), List.getElem?_eq_none (by rw [List.length_set, LP_len]; omega)]
theorem lift_ex {n c : Nat} {W : Nat → Nat} {a : Nat → Int} {ss ss' : List Nat} {ps ps' : List Int} (o : Onto n W) (ha : ∀ x, x < n → 0 ≤ a x) (h : Stt n ss ps) (x : Ex n ss ps c ss' ps') : Ex n (LS n W ss) (LP n W a ps) c (LS n W ss') (LP n W a ps') := by
  obtain ⟨j, k, p, q, h1, h2, h3, h4, h5, rfl, rfl⟩ := x.ex
  have hj : j < n := by have := lt_of_getL h1; rw [h.slen] at this; exact this
  have hk : k < n := by have := lt_of_getL h2; rw [h.slen] at this; exact this
  obtain ⟨tj, htj, ej⟩ := o.sur j hj
  obtain ⟨tk, htk, ek⟩ := o.sur k hk
  have a0 := ha tj htj
  refine ⟨tj, tk, p + a tj, q + a tk, LS_at htj (by rw [ej]; exact h1), LS_at htk (by rw [ek]; exact h2), LP_at htj (by rw [ej]; exact h3), by omega, LP_at htk (by rw [ek]; exact h5), ?_, ?_⟩
  · rw [LS_set o (by rw [List.length_set, h.slen]) htk ek, LS_set o h.slen htj ej]
  · rw [LP_set o (by rw [List.length_set, h.len]) htk ek, LP_set o h.len htj ej, show p - 1 + a tj = p + a tj - 1 by omega, show q + 1 + a tk = q + a tk + 1 by omega]
theorem lift_run {n : Nat} {W : Nat → Nat} {a : Nat → Int} (o : Onto n W) (ha : ∀ x, x < n → 0 ≤ a x) (h2 : 2 ≤ n) {ss ss' cs : List Nat} {ps ps' : List Int} (h : Stt n ss ps) (R : Run n ss ps cs ss' ps') : Run n (LS n W ss) (LP n W a ps) cs (LS n W ss') (LP n W a ps') := by
  induction R with
  | nil => exact .nil
  | snoc R x ih => exact ih.snoc (lift_ex o ha (R.ok h h2).1 x)
/-! ### one person goes round -/
/-- how many seats clockwise of s -/
def far (n s : Nat) (ss : List Nat) (x : Nat) : Nat := (ss.getD x 0 + (n - s)) % n
theorem far_is {n s c : Nat} (hs : s < n) (hc : c < n) : (s + (c + (n - s)) % n) % n = c := by
  by_cases h : s ≤ c
  · have : (c + (n - s)) % n = c - s := by
      rw [show c + (n - s) = (c - s) + n by omega, Nat.add_mod_right, Nat.mod_eq_of_lt (by omega)]
    rw [this, Nat.mod_eq_of_lt (by omega)]
    omega
  · have : (c + (n - s)) % n = c + (n - s) := Nat.mod_eq_of_lt (by omega)
    rw [this, show s + (c + (n - s)) = c + n by omega, Nat.add_mod_right, Nat.mod_eq_of_lt hc]
theorem far_onto {n s : Nat} {ss : List Nat} {ps : List Int} (h : Stt n ss ps) (hs : s < n) : Onto n (far n s ss) where
  lt x hx := Nat.mod_lt _ (by omega)
  inj x y hx hy e := by
    obtain ⟨c, hc⟩ := get_some (show x < ss.length by rw [h.slen]; exact hx)
    obtain ⟨d, hd⟩ := get_some (show y < ss.length by rw [h.slen]; exact hy)
    unfold far at e
    rw [List.getD_eq_getElem?_getD, List.getD_eq_getElem?_getD, hc, hd] at e
    have e : (c + (n - s)) % n = (d + (n - s)) % n := e
    have e1 := far_is hs (h.lt hc)
    rw [e, far_is hs (h.lt hd)] at e1
    subst e1
    exact h.inj hc hd
  sur w hw := by
    obtain ⟨x, hx⟩ := h.onto (c := (s + w) % n) (Nat.mod_lt _ (by omega))
    refine ⟨x, by have := lt_of_getL hx; rw [h.slen] at this; exact this, ?_⟩
    unfold far
    rw [List.getD_eq_getElem?_getD, hx]
    show ((s + w) % n + (n - s)) % n = w
    by_cases e : s + w < n
    · rw [Nat.mod_eq_of_lt e, show s + w + (n - s) = w + n by omega, Nat.add_mod_right, Nat.mod_eq_of_lt hw]
    · rw [show s + w = (s + w - n) + n by omega, Nat.add_mod_right, Nat.mod_eq_of_lt (show s + w - n < n by omega), Nat.mod_eq_of_lt (by omega)]
      omega
theorem far_zero {n s c : Nat} (hs : s < n) (hc : c < n) : (c + (n - s)) % n = 0 ↔ c = s := by
  constructor
  · intro e
    have := far_is hs hc
    rw [e, Nat.add_zero, Nat.mod_eq_of_lt hs] at this
    exact this.symm
  · intro e
    subst e
    rw [show c + (n - c) = n by omega, Nat.mod_self]
theorem turn_full {n r w : Nat} (h2 : 2 ≤ n) (hw : 0 < w) : K09.turn n (n * (n - 1) * r) w = n * r := by
  unfold K09.turn
  have : n * (n - 1) * r = n * r * (n - 1) := by rw [Nat.mul_assoc, Nat.mul_comm (n - 1) r, Nat.mul_assoc]
  rw [this, Nat.mul_div_cancel _ (by omega), Nat.mul_mod_left, if_neg (by omega), Nat.add_zero]
theorem turn_none {n w : Nat} (hw : 0 < w) : K09.turn n 0 w = 0 := by
  unfold K09.turn
  rw [Nat.zero_div, Nat.zero_mod, if_neg (by omega)]
/-- the seats at the beginning and at the end -/
theorem round_seats {n s K : Nat} {ss : List Nat} {ps : List Int} (h : Stt n ss ps) (h2 : 2 ≤ n) (hs : s < n) (hK : ∀ w, 0 < w → (n : Int) ∣ (K09.turn n K w : Nat)) (hK0 : n ∣ K) : LS n (far n s ss) (K09.sK n s K) = ss := by
  apply List.ext_getElem?
  intro x
  by_cases hx : x < n
  · obtain ⟨c, hc⟩ := get_some (show x < ss.length by rw [h.slen]; exact hx)
    have hcn := h.lt hc
    have e : far n s ss x = (c + (n - s)) % n := by
      unfold far
      rw [List.getD_eq_getElem?_getD, hc]
      rfl
    have hw : (c + (n - s)) % n < n := Nat.mod_lt _ (by omega)
    have hf := far_is hs hcn
    rw [hc]
    refine LS_at hx ?_
    rw [e, K09.sK_at hw]
    generalize (c + (n - s)) % n = w at *
    congr 1
    unfold K09.endI
    have hz : ∀ z : Int, z % (n : Int) = (((s + w) % n : Nat) : Int) → (z % (n : Int)).toNat = c := fun z e => by
      rw [e, hf, Int.toNat_natCast]
    apply hz
    split
    · rename_i hw0
      subst hw0
      obtain ⟨q, rfl⟩ := hK0
      push_cast
      rw [Int.add_mul_emod_self_left, Int.add_zero]
    · obtain ⟨q, hq⟩ := hK w (by omega)
      rw [hq]
      push_cast
      rw [Int.sub_eq_add_neg, ← Int.mul_neg, Int.add_mul_emod_self_left]
  · rw [List.getElem?_eq_none (by rw [LS_len]; omega), List.getElem?_eq_none (by rw [h.slen]; omega)]
def richL (ps : List Int) (who : Nat) (K : Int) : List Int := ps.set who (pF ps who + K)
def thereL (ps : List Int) (who : Nat) (m : Int) : List Int := (ps.map fun p => p + m).set who (pF ps who)
theorem rich_at {n s K who : Nat} {ss : List Nat} {ps : List Int} (h : Stt n ss ps) (h2 : 2 ≤ n) (hw : ss[who]? = some s) (k : Nat) (z : Int) (hz : ∀ w, 0 < w → w < n → ((K09.turn n k w : Nat) : Int) = z) : LP n (far n s ss) (pF ps) (K09.pK n K 0 k) = (ps.map fun p => p + z).set who (pF ps who + (K - k)) := by
  have hs := h.lt hw
  have hwho : who < n := by have := lt_of_getL hw; rw [h.slen] at this; exact this
  apply List.ext_getElem?
  intro x
  by_cases hx : x < n
  · obtain ⟨c, hc⟩ := get_some (show x < ss.length by rw [h.slen]; exact hx)
    obtain ⟨p, hp, _⟩ := h.purse hc
    have hcn := h.lt hc
    have e : far n s ss x = (c + (n - s)) % n := by
      unfold far
      rw [List.getD_eq_getElem?_getD, hc]
      rfl
    have hwn : (c + (n - s)) % n < n := Nat.mod_lt _ (by omega)
    rw [LP_at hx (by rw [e]; exact K09.pK_at hwn), List.getElem?_set, List.length_map, h.len]
    by_cases hxw : who = x
    · subst hxw
      rw [hw] at hc
      cases hc
      rw [if_pos ((far_zero hs hs).mpr rfl), if_pos rfl, if_pos hx]
      congr 1
      omega
    · have hcs : ¬ (c + (n - s)) % n = 0 := fun q => by
        rw [far_zero hs hcn] at q
        subst q
        exact hxw (h.inj hw hc)
      rw [if_neg hcs, if_neg hxw, hz _ (by omega) hwn, List.getElem?_map, hp]
      show some (z + pF ps x) = some (p + z)
      rw [pF_at hp, Int.add_comm]
  · rw [List.getElem?_eq_none (by rw [LP_len]; omega), List.getElem?_eq_none (by rw [List.length_set, List.length_map, h.len]; omega)]
theorem round_run {n who s r : Nat} {ss : List Nat} {ps : List Int} (h : Stt n ss ps) (h2 : 2 ≤ n) (hw : ss[who]? = some s) :
    Run n ss (richL ps who ((n * (n - 1) * r : Nat) : Int)) ((List.range (n * (n - 1) * r)).map fun i => (s + i) % n) ss (thereL ps who ((n * r : Nat) : Int)) := by
  have hs := h.lt hw
  have R := lift_run (W := far n s ss) (a := pF ps) (far_onto h hs) (fun x hx => by
    obtain ⟨c, hc⟩ := get_some (show x < ss.length by rw [h.slen]; exact hx)
    obtain ⟨p, hp, p0⟩ := h.purse hc
    rw [pF_at hp]
    exact p0) h2 (K09.start_stt (b := s) (K := n * (n - 1) * r) (x := 0) h2) (K09.steps_run (b := s) (x := 0) h2 (n * (n - 1) * r) (Nat.le_refl _))
  rw [round_seats h h2 hs (fun w hw => by rw [turn_none hw]; exact ⟨0, by simp⟩) (Nat.dvd_zero n), round_seats h h2 hs (fun w hw => by rw [turn_full h2 hw]; exact ⟨r, by push_cast; rfl⟩) ⟨(n - 1) * r, by rw [Nat.mul_assoc]⟩,
    rich_at h h2 hw 0 0 (fun w hw _ => by rw [turn_none hw]; rfl), rich_at h h2 hw (n * (n - 1) * r) ((n * r : Nat) : Int) (fun w hw _ => by rw [turn_full h2 hw])] at R
  have e1 : (ps.map fun p => p + 0).set who (pF ps who + (((n * (n - 1) * r : Nat) : Int) - ((0 : Nat) : Int))) = richL ps who ((n * (n - 1) * r : Nat) : Int) := by
    unfold richL
    rw [show (fun p : Int => p + 0) = id from funext fun p => Int.add_zero p, List.map_id, show ((n * (n - 1) * r : Nat) : Int) - ((0 : Nat) : Int) = ((n * (n - 1) * r : Nat) : Int) by omega]
  have e2 : (ps.map fun p => p + ((n * r : Nat) : Int)).set who (pF ps who + (((n * (n - 1) * r : Nat) : Int) - ((n * (n - 1) * r : Nat) : Int))) = thereL ps who ((n * r : Nat) : Int) := by
    unfold thereL
    rw [Int.sub_self, Int.add_zero]
  rw [e1, e2] at R
  exact R
end K28
end DL

namespace DL
namespace K28
open PySem PySem.Spec L2 DL DL.C
theorem pF_set {l : List Int} {w x : Nat} {v : Int} (hw : w < l.length) : pF (l.set w v) x = if x = w then v else pF l x := by
  unfold pF
  rw [List.getD_eq_getElem?_getD, List.getD_eq_getElem?_getD, List.getElem?_set]
  by_cases h : w = x
  · subst h
    rw [if_pos rfl, if_pos hw, if_pos rfl]
    rfl
  · rw [if_neg h, if_neg (fun e => h e.symm)]
theorem pF_add {l : List Int} {x : Nat} {m : Int} (hx : x < l.length) : pF (l.map fun p => p + m) x = pF l x + m := by
  obtain ⟨p, hp⟩ := get_some hx
  rw [pF_at hp, pF_at (show (l.map fun p => p + m)[x]? = some (p + m) by rw [List.getElem?_map, hp]; rfl)]
section
variable {n who r : Nat} {ss : List Nat} {ps : List Int}
theorem d_at (hl : ps.length = n) (hw : who < n) {x : Nat} (hx : x < n) (K m : Int) : pF (richL ps who K) x - pF (thereL ps who m) x = if x = who then K else 0 - m := by
  unfold richL thereL
  rw [pF_set (by omega), pF_set (by rw [List.length_map]; omega), pF_add (by omega)]
  by_cases h : x = who
  · subst h
    rw [if_pos rfl, if_pos rfl, if_pos rfl]
    omega
  · rw [if_neg h, if_neg h, if_neg h]
    omega
theorem div_add {n a q : Int} (h : 0 < n) : (a + n * q) / n = a / n + q := by
  rw [Int.add_mul_ediv_left _ _ (by omega)]
theorem cross_round (hl : ps.length = n) (h2 : 2 ≤ n) (hw : who < n) {x y : Nat} (hx : x < n) (hy : y < n) (hxy : x ≠ y) :
    crossI n ss (richL ps who ((n * (n - 1) * r : Nat) : Int)) (thereL ps who ((n * r : Nat) : Int)) x y = if x = who ∨ y = who then ((n * r : Nat) : Int) else 0 := by
  have hn : (0 : Int) < n := by omega
  have hK : ((n * (n - 1) * r : Nat) : Int) = n * (((n * r : Nat) : Int) - r) := by
    obtain ⟨k, rfl⟩ : ∃ k, n = k + 1 := ⟨n - 1, by omega⟩
    push_cast
    rw [Int.mul_assoc, show ((k : Int) + 1) * r - r = k * r by rw [Int.add_mul]; omega]
  have hm : ((n * r : Nat) : Int) = n * (r : Int) := by push_cast; rfl
  unfold crossI
  rw [d_at hl hw hx, d_at hl hw hy, hK]
  generalize hM : ((n * r : Nat) : Int) = m at *
  have hm0 : 0 ≤ m := by omega
  by_cases e1 : x = who
  · have e2 : ¬ y = who := by omega
    rw [if_pos e1, if_neg e2, if_pos (.inl e1)]
    have e : sF ss y + (0 - m) - (sF ss x + n * (m - r)) = (sF ss y - sF ss x) + n * (0 - m) := by
      rw [Int.mul_sub, Int.mul_sub, ← hm]
      omega
    rw [e, div_add hn]
    unfold absI
    split <;> omega
  · by_cases e2 : y = who
    · rw [if_neg e1, if_pos e2, if_pos (.inr e2)]
      have e : sF ss y + n * (m - r) - (sF ss x + (0 - m)) = (sF ss y - sF ss x) + n * m := by
        rw [Int.mul_sub, ← hm]
        omega
      rw [e, div_add hn]
      unfold absI
      split <;> omega
    · rw [if_neg e1, if_neg e2, if_neg (by omega), show sF ss y + (0 - m) - (sF ss x + (0 - m)) = sF ss y - sF ss x by omega, Int.sub_self]
      rfl
theorem cross_self {ps qs : List Int} {x : Nat} : crossI n ss ps qs x x = 0 := by
  unfold crossI
  rw [Int.sub_self, Int.sub_self, Int.sub_self]
  rfl
theorem sumR_ind {w : Nat} {A B : Int} : ∀ n : Nat, sumR n (fun x => if x = w then A else B) = n * B + (if w < n then A - B else 0)
  | 0 => by simp [sumR]
  | n + 1 => by
    rw [sumR_succ, sumR_ind n]
    push_cast
    rw [Int.add_mul]
    by_cases h : n = w
    · subst h
      rw [if_pos rfl, if_neg (by omega), if_pos (by omega)]
      omega
    · rw [if_neg h]
      by_cases h2 : w < n
      · rw [if_pos h2, if_pos (by omega)]; omega
      · rw [if_neg h2, if_neg (by omega)]; omega
theorem dist_round (hl : ps.length = n) (h2 : 2 ≤ n) (hw : who < n) :
    distI n ss (richL ps who ((n * (n - 1) * r : Nat) : Int)) (thereL ps who ((n * r : Nat) : Int)) = ((n * (n - 1) * r : Nat) : Int) := by
  have hK : ((n * (n - 1) * r : Nat) : Int) = n * ((n * r : Nat) : Int) - ((n * r : Nat) : Int) := by
    obtain ⟨k, rfl⟩ : ∃ k, n = k + 1 := ⟨n - 1, by omega⟩
    push_cast
    rw [← Int.mul_sub, show ((k : Int) + 1) * r - r = k * r by rw [Int.add_mul]; omega, Int.mul_assoc]
  have hc := fun (x y : Nat) (hx : x < n) (hy : y < n) (hxy : x ≠ y) => cross_round (n := n) (r := r) (ss := ss) hl h2 hw hx hy hxy
  unfold distI
  generalize hA : richL ps who ((n * (n - 1) * r : Nat) : Int) = A at *
  generalize hB : thereL ps who ((n * r : Nat) : Int) = B at *
  generalize hM : ((n * r : Nat) : Int) = m at *
  have hf := full_sum (f := fun x y => crossI n ss A B x y) n (fun x y hx hy => by
    by_cases e : x = y
    · rw [e]
    · show crossI n ss A B x y = crossI n ss A B y x
      rw [hc x y hx hy e, hc y x hy hx (fun q => e q.symm)]
      by_cases h1 : x = who ∨ y = who
      · rw [if_pos h1, if_pos (by omega)]
      · rw [if_neg h1, if_neg (by omega)])
  have i1 : (sumR n fun x => sumR n fun y => crossI n ss A B x y) = sumR n fun x => if x = who then n * m - m else m := sumR_congr fun x hx => by
    by_cases e : x = who
    · rw [if_pos e]
      have : (sumR n fun y => crossI n ss A B x y) = sumR n fun y => if y = who then 0 else m := sumR_congr fun y hy => by
        by_cases e2 : y = who
        · rw [if_pos e2, e, e2, cross_self]
        · rw [if_neg e2, hc x y hx hy (by omega), if_pos (.inl e)]
      rw [this, sumR_ind, if_pos hw]
      omega
    · rw [if_neg e]
      have : (sumR n fun y => crossI n ss A B x y) = sumR n fun y => if y = who then m else 0 := sumR_congr fun y hy => by
        by_cases e2 : y = who
        · rw [if_pos e2, hc x y hx hy (by omega), if_pos (.inr e2)]
        · rw [if_neg e2]
          by_cases e3 : x = y
          · rw [e3, cross_self]
          · rw [hc x y hx hy e3, if_neg (by omega)]
      rw [this, sumR_ind, if_pos hw]
      omega
  have i2 : (sumR n fun x => crossI n ss A B x x) = 0 := by
    have : (sumR n fun x => crossI n ss A B x x) = sumR n fun x => if x = who then 0 else 0 := sumR_congr fun x _ => by
      rw [cross_self]; split <;> rfl
    rw [this, sumR_ind]
    simp
  rw [i1, i2, sumR_ind, if_pos hw] at hf
  rw [hK]
  generalize (n : Int) * m = nm at *
  omega
end
/-! ### the list of the crossings -/
def mates (n who : Nat) : List (Nat × Nat) := ((List.range n).filter fun y => decide (y ≠ who)).map fun y => (min who y, max who y)
def enc (n : Nat) (z : Nat × Nat) : Nat := z.1 * n + z.2
theorem enc_lt {n x y x' y' : Nat} (hy : y < n) (h : x < x' ∨ x = x' ∧ y < y') : enc n (x, y) < enc n (x', y') := by
  unfold enc
  show x * n + y < x' * n + y'
  rcases h with h | ⟨rfl, h⟩
  · have : (x + 1) * n ≤ x' * n := Nat.mul_le_mul_right _ h
    rw [Nat.add_mul] at this
    omega
  · omega
theorem enc_inj {n : Nat} {z z' : Nat × Nat} (h1 : z.2 < n) (h2 : z'.2 < n) (e : enc n z = enc n z') : z = z' := by
  unfold enc at e
  have a1 : (z.1 * n + z.2) / n = z.1 := by rw [Nat.mul_comm, Nat.mul_add_div (by omega), Nat.div_eq_of_lt h1, Nat.add_zero]
  have a2 : (z'.1 * n + z'.2) / n = z'.1 := by rw [Nat.mul_comm, Nat.mul_add_div (by omega), Nat.div_eq_of_lt h2, Nat.add_zero]
  have b1 : z.1 = z'.1 := by rw [← a1, e, a2]
  have b2 : z.2 = z'.2 := by rw [b1] at e; omega
  exact Prod.ext b1 b2
theorem pairs_asc (n : Nat) : (pairs n).Pairwise fun z z' => enc n z < enc n z' := by
  unfold pairs
  rw [List.pairwise_flatMap]
  refine ⟨fun x hx => ?_, List.pairwise_lt_range.imp fun {x x'} h z hz z' hz' => ?_⟩
  · rw [List.pairwise_map]
    refine (List.pairwise_lt_range' (s := x + 1) (n := n - (x + 1))).imp_of_mem fun {y y'} hy hy' h => ?_
    rw [List.mem_range'_1] at hy hy'
    exact enc_lt (by omega) (.inr ⟨rfl, h⟩)
  · obtain ⟨y, hy, rfl⟩ := List.mem_map.mp hz
    obtain ⟨y', hy', rfl⟩ := List.mem_map.mp hz'
    rw [List.mem_range'_1] at hy hy'
    exact enc_lt (by omega) (.inl h)
theorem mates_lt {n who y y' : Nat} (hw : who < n) (h1 : y ≠ who) (h2 : y' ≠ who) (h : y < y') (hy' : y' < n) : min who y < min who y' ∨ min who y = min who y' ∧ max who y < max who y' := by omega
theorem mates_asc {n who : Nat} (hw : who < n) : (mates n who).Pairwise fun z z' => enc n z < enc n z' := by
  unfold mates
  rw [List.pairwise_map]
  refine (List.pairwise_lt_range.filter _).imp_of_mem fun {y y'} hy hy' h => ?_
  rw [List.mem_filter, List.mem_range] at hy hy'
  exact enc_lt (by omega) (mates_lt hw (of_decide_eq_true hy.2) (of_decide_eq_true hy'.2) h hy'.1)
theorem mates_mem {n who : Nat} (hw : who < n) {z : Nat × Nat} : z ∈ mates n who ↔ (z.1 < z.2 ∧ z.2 < n) ∧ (z.1 = who ∨ z.2 = who) := by
  unfold mates
  rw [List.mem_map]
  constructor
  · rintro ⟨y, hy, rfl⟩
    rw [List.mem_filter, List.mem_range] at hy
    have := of_decide_eq_true hy.2
    have h1 := hy.1
    show (min who y < max who y ∧ max who y < n) ∧ (min who y = who ∨ max who y = who)
    omega
  · rintro ⟨h1, h2⟩
    obtain ⟨a, b⟩ := z
    have h1 : a < b ∧ b < n := h1
    have h2 : a = who ∨ b = who := h2
    by_cases e : a = who
    · refine ⟨b, List.mem_filter.mpr ⟨List.mem_range.mpr h1.2, decide_eq_true (by omega)⟩, ?_⟩
      show (min who b, max who b) = (a, b)
      rw [Nat.min_eq_left (by omega), Nat.max_eq_right (by omega), e]
    · refine ⟨a, List.mem_filter.mpr ⟨List.mem_range.mpr (by omega), decide_eq_true e⟩, ?_⟩
      show (min who a, max who a) = (a, b)
      rw [Nat.min_eq_right (by omega), Nat.max_eq_left (by omega)]
      congr 1
      omega
theorem list_enc {n : Nat} {l l' : List (Nat × Nat)} (h : ∀ z ∈ l, z.2 < n) (h' : ∀ z ∈ l', z.2 < n) (e : l.map (enc n) = l'.map (enc n)) : l = l' := by
  induction l generalizing l' with
  | nil => cases l' with
    | nil => rfl
    | cons _ _ => cases e
  | cons z l ih => cases l' with
    | nil => cases e
    | cons z' l' =>
      rw [List.map_cons, List.map_cons] at e
      injection e with e1 e2
      rw [enc_inj (h z List.mem_cons_self) (h' z' List.mem_cons_self) e1, ih (fun y hy => h y (List.mem_cons_of_mem _ hy)) (fun y hy => h' y (List.mem_cons_of_mem _ hy)) e2]
theorem pairs_who {n who : Nat} (hw : who < n) : (pairs n).filter (fun z => decide (z.1 = who ∨ z.2 = who)) = mates n who := by
  have hm : ∀ z, z ∈ (pairs n).filter (fun z => decide (z.1 = who ∨ z.2 = who)) ↔ z ∈ mates n who := fun z => by
    rw [List.mem_filter, mem_pairs, mates_mem hw, decide_eq_true_iff]
  have hs : ∀ z ∈ mates n who, z.2 < n := fun z hz => ((mates_mem hw).mp hz).1.2
  refine list_enc (n := n) (fun z hz => hs z ((hm z).mp hz)) hs (asc_ext (List.pairwise_map.mpr ((pairs_asc n).filter _)) (List.pairwise_map.mpr (mates_asc hw)) fun c => ?_)
  rw [List.mem_map, List.mem_map]
  exact ⟨fun ⟨z, hz, e⟩ => ⟨z, (hm z).mp hz, e⟩, fun ⟨z, hz, e⟩ => ⟨z, (hm z).mpr hz, e⟩⟩
def triD (m : Int) (z : Nat × Nat) : PyData := .tuple [nD z.1, nD z.2, .int m]
theorem fm_filter {α β : Type} {P : α → Bool} {g : α → β} {f : α → Option β} : ∀ l : List α, (∀ z ∈ l, f z = if P z = true then some (g z) else none) → l.filterMap f = (l.filter P).map g
  | [], _ => rfl
  | z :: l, h => by
    rw [List.filterMap_cons, h z List.mem_cons_self, List.filter_cons]
    by_cases e : P z = true
    · rw [if_pos e, if_pos e, List.map_cons, ← fm_filter l fun y hy => h y (List.mem_cons_of_mem _ hy)]
    · rw [if_neg e, if_neg e, ← fm_filter l fun y hy => h y (List.mem_cons_of_mem _ hy)]
theorem crossL_round {n who r : Nat} {ss : List Nat} {ps : List Int} (hl : ps.length = n) (h2 : 2 ≤ n) (hw : who < n) (hr : 0 < r) :
    crossL n ss (richL ps who ((n * (n - 1) * r : Nat) : Int)) (thereL ps who ((n * r : Nat) : Int)) = (mates n who).map (triD ((n * r : Nat) : Int)) := by
  unfold crossL
  rw [← pairs_who hw]
  refine fm_filter _ fun z hz => ?_
  have hz := mem_pairs.mp hz
  unfold crossD
  rw [cross_round hl h2 hw (by omega) hz.2 (by omega)]
  have hpos : (0 : Int) < ((n * r : Nat) : Int) := by
    have : 0 < n * r := Nat.mul_pos (by omega) hr
    omega
  by_cases e : z.1 = who ∨ z.2 = who
  · rw [if_pos e, if_pos hpos, if_pos (decide_eq_true e)]
    rfl
  · rw [if_neg e, if_neg (by omega), if_neg (by simpa using e)]
theorem sorted_due {n who : Nat} {m : Int} (hw : who < n) (hn : n ≤ 1000) (h0 : 0 ≤ m) (h1 : m ≤ 10 ^ 32) : (mates n who).map (triD m) = sortT ((mates n who).map (triD m)) ∧ ((mates n who).map (triD m)).all okT = true ∧ ((mates n who).map (triD m)).length < n := by
  have ho : ∀ d ∈ (mates n who).map (triD m), okT d = true := fun d hd => by
    obtain ⟨z, hz, rfl⟩ := List.mem_map.mp hd
    have := (mates_mem hw).mp hz
    unfold triD okT
    have a1 : (z.1 : Int) ≤ 1000 := by omega
    have a2 : (z.2 : Int) ≤ 1000 := by omega
    have a3 : (0 : Int) ≤ z.1 := by omega
    have a4 : (0 : Int) ≤ z.2 := by omega
    refine decide_eq_true ?_
    generalize (z.1 : Int) = u at *
    generalize (z.2 : Int) = v at *
    omega
  refine ⟨sortT_unique (.refl _) ho ?_, List.all_eq_true.mpr ho, ?_⟩
  · unfold mates
    rw [List.map_map, List.pairwise_map]
    refine (List.pairwise_lt_range.filter _).imp_of_mem fun {y y'} hy hy' h => ?_
    rw [List.mem_filter, List.mem_range] at hy hy'
    have := mates_lt hw (of_decide_eq_true hy.2) (of_decide_eq_true hy'.2) h hy'.1
    have hy1 := hy.1
    have hy1' := hy'.1
    show (((min who y : Nat) : Int) * _ + ((max who y : Nat) : Int)) * _ + m ≤ (((min who y' : Nat) : Int) * _ + ((max who y' : Nat) : Int)) * _ + m
    have b1 : max who y < n := by omega
    generalize min who y = a at *
    generalize max who y = b at *
    generalize min who y' = a' at *
    generalize max who y' = b' at *
    omega
  · unfold mates
    rw [List.length_map, List.length_map]
    have := List.length_filter_lt_length_iff_exists (l := List.range n) (p := fun y => decide (y ≠ who))
    rw [List.length_range] at this
    exact this.mpr ⟨who, List.mem_range.mpr hw, by simp⟩
end K28
end DL

namespace DL
namespace K28
open PySem PySem.Spec L2 DL DL.C
theorem pow_30 {M : Mem} : powV (.d (.int 10)) (.d (.int 30)) M = .ok (.d (.int 1000000000000000000000000000000)) M := Eq.trans rfl rfl
theorem pow_28 {M : Mem} : powV (.d (.int 10)) (.d (.int 28)) M = .ok (.d (.int 10000000000000000000000000000)) M := Eq.trans rfl rfl
theorem sub_a (p k : Int) : p + k - p = k := by omega
theorem sub_b (p k : Int) : p - (p + k) = 0 - k := by omega
theorem min_v {w y : Nat} {N : Mem} : minV [.d (.int (w : Nat)), .d (.int (y : Nat))] N = .ok (.d (nD (min w y))) N := by
  show Res.ok (Vl.d (.int (if (y : Int) < w then (y : Int) else w))) N = _
  have : (if (y : Int) < w then (y : Int) else w) = ((min w y : Nat) : Int) := by split <;> omega
  rw [this]
theorem max_v {w y : Nat} {N : Mem} : maxV [.d (.int (w : Nat)), .d (.int (y : Nat))] N = .ok (.d (nD (max w y))) N := by
  show Res.ok (Vl.d (.int (if (y : Int) > w then (y : Int) else w))) N = _
  have : (if (y : Int) > w then (y : Int) else w) = ((max w y : Nat) : Int) := by split <;> omega
  rw [this]
theorem rich_stt {n who : Nat} {ss : List Nat} {ps : List Int} {K : Int} (h : Stt n ss ps) (hw : who < n) (hK : 0 ≤ K) : Stt n ss (richL ps who K) := ⟨h.perm, by unfold richL; rw [List.length_set, h.len], fun p hp => by
  unfold richL at hp
  rcases List.mem_or_eq_of_mem_set hp with hp | rfl
  · exact h.nn p hp
  · obtain ⟨q, hq⟩ := get_some (show who < ps.length by rw [h.len]; exact hw)
    rw [pF_at hq]
    have := h.nn q (List.mem_of_getElem? hq)
    omega⟩
theorem sum_le_top {top : Int} : ∀ l : List Int, (∀ p ∈ l, p ≤ top) → l.sum ≤ l.length * top
  | [], _ => by simp
  | x :: l, h => by
    have h1 := h x List.mem_cons_self
    have h2 := sum_le_top l fun y hy => h y (List.mem_cons_of_mem _ hy)
    rw [List.sum_cons, List.length_cons]
    push_cast
    rw [Int.add_mul]
    omega
theorem eq_st_self {n : Nat} {ss : List Nat} {ps : List Int} {M : Mem} (h : Stt n ss ps) (hn : n ≤ 1000) (hS : ps.sum ≤ 10 ^ 60) : eqV (.d (stD ss ps)) (.d (stD ss ps)) M = .ok (.d (.bool true)) M := by
  rw [eq_st h h hn hS hS]
  simp
theorem ne_tri {n who : Nat} {m : Int} {M : Mem} (hw : who < n) (hn : n ≤ 1000) (h0 : 0 ≤ m) (h1 : m ≤ 10 ^ 32) : neV (.d (.list ((mates n who).map (triD m)))) (.d (.list ((mates n who).map (triD m)))) M = .ok (.d (.bool false)) M := by
  have g : gd (10 ^ 60) 2 (.list ((mates n who).map (triD m))) = true := gd_mkl fun d hd => by
    obtain ⟨z, hz, rfl⟩ := List.mem_map.mp hd
    have := (mates_mem hw).mp hz
    refine gd_ints (xs := [(z.1 : Int), (z.2 : Int), m]) fun x hx => ?_
    simp only [List.mem_cons, List.not_mem_nil, or_false] at hx
    rcases hx with rfl | rfl | rfl <;> omega
  obtain ⟨h1, _, _, h2⟩ := gd_all (by decide) g
  generalize (mates n who).map (triD m) = xs at *
  show neD (.list xs) (.list xs) M = _
  refine (if_pos (by unfold eqOk; rw [h1]; simp; omega)).trans ?_
  rw [SeqAt.eqv_refl _ h1]
  rfl
theorem right_ok (n0 i : Nat) (M : Mem) (o : MO) (hM : M[i]? = some o) (hB : Bx n0 o) (hn0 : n0 + 10 ^ 12 ≤ 2 ^ 44) : ∃ o', m_right [.h i] M = .ok (.d (.bool true)) (M.set i o') ∧ Bx (n0 + 10 ^ 12) o' := by
  have hsz : sizeLine = 2 ^ 24 := rfl
  have hi := lt_of_get hM
  obtain ⟨v, o1, e1, B1, v0, v1⟩ := C.take10 (sp := 8) hM hB (by omega) (by decide) (by omega)
  obtain ⟨n, hm⟩ := Int.eq_ofNat_of_zero_le (show 0 ≤ 2 + v by omega)
  have h2 : 2 ≤ n := by omega
  have hn9 : n ≤ 9 := by omega
  have h0 : 0 < n := by omega
  obtain ⟨d, o2, e2, B2, hd⟩ := C.of_ok (xs := [.int 2, .int 1000000000000000000000000000000]) (getM (o' := o1) hM) B1 (by omega) (by simp) (by simp)
  obtain ⟨top, rfl, ht0, ht1⟩ : ∃ top : Int, d = .int top ∧ 0 ≤ top ∧ top ≤ 1000000000000000000000000000000 := by
    rcases List.mem_cons.mp hd with rfl | hd
    · exact ⟨_, rfl, by decide, by decide⟩
    · rcases List.mem_cons.mp hd with rfl | hd
      · exact ⟨_, rfl, by decide, by decide⟩
      · cases hd
  obtain ⟨ss, ps, o3, e3, B3, st⟩ := C.random_ok (n := n) (top := top) (getM (o' := o2) hM) B2 (by omega) (by omega) ht0 (by omega)
  obtain ⟨whoI, o4, e4, B4, w0, w1⟩ := C.take10 (sp := (n : Nat)) (getM (o' := o3) hM) B3 (by omega) (by omega) (by omega)
  obtain ⟨who, rfl⟩ := Int.eq_ofNat_of_zero_le w0
  obtain ⟨d, o5, e5, B5, hd⟩ := C.of_ok (xs := [.int 2, .int 10000000000000000000000000000]) (getM (o' := o4) hM) B4 (by omega) (by simp) (by simp)
  obtain ⟨top2, rfl, tt0, tt1⟩ : ∃ top : Int, d = .int top ∧ 1 ≤ top ∧ top ≤ 10000000000000000000000000000 := by
    rcases List.mem_cons.mp hd with rfl | hd
    · exact ⟨_, rfl, by decide, by decide⟩
    · rcases List.mem_cons.mp hd with rfl | hd
      · exact ⟨_, rfl, by decide, by decide⟩
      · cases hd
  obtain ⟨u, o6, e6, B6, u0, u1⟩ := C.take10 (sp := top2) (getM (o' := o5) hM) B5 (by omega) (by omega) (by omega)
  obtain ⟨r, hr⟩ := Int.eq_ofNat_of_zero_le (show 0 ≤ 1 + u by omega)
  rw [List.set_set] at e2 e3 e4 e5 e6
  have hr0 : 0 < r := by omega
  have hr1 : r ≤ 10 ^ 28 := by omega
  have h := st.stt
  have hw : who < n := by omega
  obtain ⟨s, hs⟩ := get_some (show who < ss.length by rw [h.slen]; exact hw)
  obtain ⟨pw, hpw, hpw0⟩ := h.purse hs
  have R := round_run (r := r) h h2 hs
  have hD := dist_round (ss := ss) (r := r) h.len h2 hw
  have hC := crossL_round (ss := ss) (r := r) h.len h2 hw hr0
  have nr : n * r ≤ 9 * 10 ^ 28 := Nat.mul_le_mul hn9 hr1
  have nn : n * (n - 1) ≤ 9 * 8 := Nat.mul_le_mul hn9 (by omega)
  have nK : n * (n - 1) * r ≤ 9 * 8 * 10 ^ 28 := Nat.mul_le_mul nn hr1
  have nK2 : r ≤ 2 → n * (n - 1) * r ≤ 9 * 8 * 2 := fun h => Nat.mul_le_mul nn h
  have hm1 : ∀ N : Mem, mulV (.d (.int (n : Nat))) (.d (.int ((n : Int) - 1))) N = .ok (.d (.int ((n * (n - 1) : Nat) : Int))) N := fun N => by
    rw [mul_ii (.inl (by omega)), show (n : Int) - 1 = ((n - 1 : Nat) : Int) by omega]
    push_cast
    rfl
  have hm2 : ∀ N : Mem, mulV (.d (.int ((n * (n - 1) : Nat) : Int))) (.d (.int (r : Nat))) N = .ok (.d (.int ((n * (n - 1) * r : Nat) : Int))) N := fun N => by
    rw [mul_ii (.inl (by omega)), ← Int.natCast_mul]
  have hm3 : ∀ N : Mem, mulV (.d (.int (n : Nat))) (.d (.int (r : Nat))) N = .ok (.d (.int ((n * r : Nat) : Int))) N := fun N => by
    rw [mul_ii (.inl (by omega)), ← Int.natCast_mul]
  have hlt : ((mates n who).map (triD ((n * r : Nat) : Int))).length < 64 := by
    have := (sorted_due (m := ((n * r : Nat) : Int)) hw (by omega) (by omega) (by omega)).2.2
    omega
  obtain ⟨sd1, sd2, _⟩ := sorted_due (m := ((n * r : Nat) : Int)) hw (by omega) (by omega) (by omega)
  have hnt := fun N : Mem => ne_tri (M := N) (m := ((n * r : Nat) : Int)) hw (by omega) (by omega) (by omega)
  have hKn : ((n * (n - 1) * r : Nat) : Int) ≤ 9 * 8 * 10 ^ 28 := by omega
  have hK0 : 0 ≤ ((n * (n - 1) * r : Nat) : Int) := by omega
  have hrich := rich_stt (K := ((n * (n - 1) * r : Nat) : Int)) h hw hK0
  obtain ⟨hthere, L⟩ := R.ok hrich h2
  have hsum : (richL ps who ((n * (n - 1) * r : Nat) : Int)).sum ≤ 10 ^ 60 := by
    have h1 := sum_le_top (top := 10 ^ 32) (richL ps who ((n * (n - 1) * r : Nat) : Int)) fun p hp => by
      unfold richL at hp
      rcases List.mem_or_eq_of_mem_set hp with hp | rfl
      · have := (st.top p hp).2
        omega
      · rw [pF_at hpw]
        have := (st.top pw (List.mem_of_getElem? hpw)).2
        omega
    rw [hrich.len] at h1
    omega
  have hsum2 : (thereL ps who ((n * r : Nat) : Int)).sum ≤ 10 ^ 60 := by rw [← L.sum]; exact hsum
  have sh1 : (shiftL (richL ps who ((n * (n - 1) * r : Nat) : Int)) (thereL ps who ((n * r : Nat) : Int)))[who]? = some ((n * (n - 1) * r : Nat) : Int) := by
    rw [shift_at (p := pw + ((n * (n - 1) * r : Nat) : Int)) (q := pw) ?_ ?_]
    · rw [sub_a]
    · unfold richL
      rw [List.getElem?_set, if_pos rfl, if_pos (by rw [h.len]; exact hw), pF_at hpw]
    · unfold thereL
      rw [List.getElem?_set, if_pos rfl, if_pos (by rw [List.length_map, h.len]; exact hw), pF_at hpw]
  have sh2 : (shiftL (thereL ps who ((n * r : Nat) : Int)) (richL ps who ((n * (n - 1) * r : Nat) : Int)))[who]? = some (0 - ((n * (n - 1) * r : Nat) : Int)) := by
    rw [shift_at (p := pw) (q := pw + ((n * (n - 1) * r : Nat) : Int)) ?_ ?_]
    · rw [sub_b]
    · unfold thereL
      rw [List.getElem?_set, if_pos rfl, if_pos (by rw [List.length_map, h.len]; exact hw), pF_at hpw]
    · unfold richL
      rw [List.getElem?_set, if_pos rfl, if_pos (by rw [h.len]; exact hw), pF_at hpw]
  -- what the program says
  have D1 : ∀ N : Mem, C.m_distance [.d (stD ss (richL ps who ((n * (n - 1) * r : Nat) : Int))), .d (stD ss (thereL ps who ((n * r : Nat) : Int)))] N = .ok (.d (.int ((n * (n - 1) * r : Nat) : Int))) N := fun N => by rw [distance_ok hrich hthere h0 L (by omega), hD]
  have X1 : ∀ N : Mem, C.m_crossings [.d (stD ss (richL ps who ((n * (n - 1) * r : Nat) : Int))), .d (stD ss (thereL ps who ((n * r : Nat) : Int)))] N = .ok (.d (.list ((mates n who).map (triD ((n * r : Nat) : Int))))) N := fun N => by rw [crossings_ok hrich hthere h0 L (by omega), hC]
  have Z1 : ∀ N : Mem, C.m_leads [.d (stD ss (richL ps who ((n * (n - 1) * r : Nat) : Int))), .d (stD ss (thereL ps who ((n * r : Nat) : Int)))] N = .ok (.d (.bool true)) N := fun N => by
    rw [leads_ok (.inl rfl) (.inl rfl) rfl (by rw [h.slen]; omega) (by rw [hrich.len, h.slen]) (by rw [hthere.len, h.slen]), barD_lot L]; rfl
  have S1 : ∀ N : Mem, C.m_shifts [.d (stD ss (richL ps who ((n * (n - 1) * r : Nat) : Int))), .d (stD ss (thereL ps who ((n * r : Nat) : Int)))] N = _ := fun N => shifts_ok hrich hthere L (by omega)
  have S2 : ∀ N : Mem, C.m_shifts [.d (stD ss (thereL ps who ((n * r : Nat) : Int))), .d (stD ss (richL ps who ((n * (n - 1) * r : Nat) : Int)))] N = _ := fun N => shifts_ok hthere hrich L.symm (by omega)
  have s1 : ∀ N : Mem, ixV (.d (.tuple (intsD (shiftL (richL ps who ((n * (n - 1) * r : Nat) : Int)) (thereL ps who ((n * r : Nat) : Int)))))) (.d (.int (who : Nat))) N = .ok (.d (.int ((n * (n - 1) * r : Nat) : Int))) N := fun N => ixV_t (atI_some (getI sh1))
  have s2 : ∀ N : Mem, ixV (.d (.tuple (intsD (shiftL (thereL ps who ((n * r : Nat) : Int)) (richL ps who ((n * (n - 1) * r : Nat) : Int)))))) (.d (.int (who : Nat))) N = .ok (.d (.int (0 - ((n * (n - 1) * r : Nat) : Int)))) N := fun N => ixV_t (atI_some (getI sh2))
  have R1 : ∀ N : Mem, C.m_run [.d (stD ss (richL ps who ((n * (n - 1) * r : Nat) : Int))), .d (.list (((List.range (n * (n - 1) * r)).map fun i => (s + i) % n).map nD))] N = .ok (.d (stD ss (thereL ps who ((n * r : Nat) : Int)))) N := fun N => run_ok hrich h2 (by omega) (.inl rfl) rfl R
  have PR : r ≤ 2 → ∀ N : Mem, ∃ cs : List Nat, (C.m_plan [.d (stD ss (thereL ps who ((n * r : Nat) : Int))), .d (stD ss (richL ps who ((n * (n - 1) * r : Nat) : Int)))] N = .ok (.d (.list (cs.map nD))) N) ∧ C.m_run [.d (stD ss (thereL ps who ((n * r : Nat) : Int))), .d (.list (cs.map nD))] N = .ok (.d (stD ss (richL ps who ((n * (n - 1) * r : Nat) : Int)))) N := fun hr2 N => by
    have hd : distI n ss (thereL ps who ((n * r : Nat) : Int)) (richL ps who ((n * (n - 1) * r : Nat) : Int)) ≤ 1000 := by
      rw [distI_symm hrich hthere h0 L, hD]
      have := nK2 hr2
      omega
    obtain ⟨cs, e, R', _⟩ := plan_ok (M := N) hthere hrich h2 L.symm (by omega) hd
    exact ⟨cs, e, run_ok hthere h2 (by omega) (.inl rfl) rfl R'⟩
  have q1 := fun N : Mem => eq_st_self (M := N) hthere (by omega) hsum2
  have q2 := fun N : Mem => eq_st_self (M := N) hrich (by omega) hsum
  -- the pieces
  generalize hP : M.set i o6 = P at *
  have hPl : M.length = P.length := by rw [← hP]; simp
  have i0 : ∀ N : Mem, ixV (.d (stD ss ps)) (.d (.int 0)) N = .ok (.d (.tuple (ss.map nD))) N := fun N => ixV_t rfl
  have i1 : ∀ N : Mem, ixV (.d (stD ss ps)) (.d (.int 1)) N = .ok (.d (.tuple (intsD ps))) N := fun N => ixV_t rfl
  have i2 : ∀ N : Mem, ixV (.d (.tuple (ss.map nD))) (.d (.int (who : Nat))) N = .ok (.d (.int (s : Nat))) N := fun N => ixV_t (atI_some (getN hs))
  have i3 : ∀ N : Mem, ixV (.d (.tuple (intsD ps))) (.d (.int (who : Nat))) N = .ok (.d (.int pw)) N := fun N => ixV_t (atI_some (getI hpw))
  have A1 : PyData.tuple [.tuple (ss.map nD), .tuple (intsD (richL ps who ((n * (n - 1) * r : Nat) : Int)))] = stD ss (richL ps who ((n * (n - 1) * r : Nat) : Int)) := rfl
  have A2 : PyData.tuple [.tuple (ss.map nD), .tuple (intsD (thereL ps who ((n * r : Nat) : Int)))] = stD ss (thereL ps who ((n * r : Nat) : Int)) := rfl
  have rset : (intsD ps).set who (.int (pw + ((n * (n - 1) * r : Nat) : Int))) = intsD (richL ps who ((n * (n - 1) * r : Nat) : Int)) := by
    unfold richL intsD
    rw [← List.map_set, pF_at hpw]
  have tset : (intsD (ps.map fun p => p + ((n * r : Nat) : Int))).set who (.int pw) = intsD (thereL ps who ((n * r : Nat) : Int)) := by
    unfold thereL intsD
    rw [← List.map_set, pF_at hpw]
  have lE : ∀ (w3 w4 w5 w6 w7 w8 w9 w10 w11 w12 w13 w14 : Option Vl) (N : Mem), listE (op2 ixV (getV 2) (cst (.d (.int 1)))) [some (.h i), some (.d (.int (n : Nat))), some (.d (stD ss ps)), w3, w4, w5, w6, w7, w8, w9, w10, w11, w12, w13, w14] N = .ok (intsD ps) N := fun w3 w4 w5 w6 w7 w8 w9 w10 w11 w12 w13 w14 N => listE_a (x := .d (.tuple (intsD ps))) (by simp only [defM, startE, seqS_a, setS_a, bindS_ok, bindS_er, then_nx, then_rt, then_er, ifS_a, ifK_t, ifK_f, retS_a, dropS_a, asgS_a, asK_a, goG_ok, subT_a, nopS_a, getV_0, getV_s, cst_a, op2_a, o2a_ok, o2b_ok, opT_a, oTa_ok, oTb_ok, consA_a, cAa_ok, cAb_ok, nilA_a, callF_a, cFa_ok, callE_a, cEa_ok, newE_a, nwa_ok, datE_a, dta_ok, dispE_a, tupE_a, tpa_ok, asDs_a, datas, bind_ok, pur_ok, bool_b, leave_d, leave_nx, leave_er, ifE_a, ifa_t, ifa_f, notT_a, nta_ok, andT_a, ana_t, ana_f, orT_a, ora_t, ora_f, tstE_a, tsa_b, andE_a, aEa_t, aEa_f, orE_a, oEa_t, oEa_f, notE_a, nEa_ok, add_ii, sub_ii, gt_ii, lt_ii, ge_ii, le_ii, setT_a, consT_a, cTa_ok, nilT_a, tupT_a, seqT_t, seqT_l, forS_a, List.map_cons, List.map_nil, List.length_cons, List.length_nil, Nat.reduceAdd, Nat.reduceSub, Nat.zero_add, Nat.add_zero, List.replicate, List.cons_append, List.nil_append, List.append_nil, List.getElem?_cons_zero, List.getElem?_cons_succ, List.set_cons_zero, List.set_cons_succ, List.getElem?_nil, Option.map_some, Option.map_none, Option.bind_some, if_true, if_false, ite_true, ite_false, eq_self_iff_true, and_self, and_true, true_and, decide_true, decide_false, Bool.false_eq_true, Bool.not_true, Bool.not_false, sizeLine, Nat.reducePow, Nat.reduceLeDiff, Nat.zero_le, pow_7, pow_18, pow_40, i1]) rfl
  have hx1 : ixV (.h P.length) (.d (.int (who : Nat))) (P ++ [.lst (intsD ps)]) = _ := jx (k := 0) rfl rfl (getI hpw)
  have hp1 : ∀ e : Env, putV (.h P.length) (.d (.int (who : Nat))) (.d (.int (pw + ((n * (n - 1) * r : Nat) : Int)))) e (P ++ [.lst (intsD ps)]) = .ok e (P ++ [.lst (intsD (richL ps who ((n * (n - 1) * r : Nat) : Int)))]) := fun e => by
    rw [← rset]
    exact jput (L := P.length) (k := 0) rfl rfl (by rw [List.length_map, h.len]; exact hw)
  have hp2 : ∀ e : Env, putV (.h (P.length + 1)) (.d (.int (who : Nat))) (.d (.int pw)) e (P ++ [.gone, .lst (intsD (ps.map fun p => p + ((n * r : Nat) : Int)))]) = .ok e (P ++ [.gone, .lst (intsD (thereL ps who ((n * r : Nat) : Int)))]) := fun e => by
    rw [← tset]
    exact jput (L := P.length + 1) (k := 1) rfl rfl (by rw [List.length_map, List.length_map, h.len]; exact hw)
  have fz1 : ∀ (w7 w8 w9 w10 w11 w12 w13 w14 : Option Vl), freeze 6 [some (.h i), some (.d (.int (n : Nat))), some (.d (stD ss ps)), some (.d (.int (who : Nat))), some (.d (.int (r : Nat))), some (.d (.int ((n * (n - 1) * r : Nat) : Int))), some (.h P.length), w7, w8, w9, w10, w11, w12, w13, w14] (P ++ [.lst (intsD (richL ps who ((n * (n - 1) * r : Nat) : Int)))]) = _ := fun w7 w8 w9 w10 w11 w12 w13 w14 => jfz (L := P.length) (k := 0) rfl rfl rfl
  have fz2 : ∀ (w6 w7 w9 w10 w11 w12 w13 w14 : Option Vl), freeze 8 [some (.h i), some (.d (.int (n : Nat))), some (.d (stD ss ps)), some (.d (.int (who : Nat))), some (.d (.int (r : Nat))), some (.d (.int ((n * (n - 1) * r : Nat) : Int))), w6, w7, some (.h (P.length + 1)), w9, w10, w11, w12, w13, w14] (P ++ [.gone, .lst (intsD (thereL ps who ((n * r : Nat) : Int)))]) = _ := fun w6 w7 w9 w10 w11 w12 w13 w14 => jfz (L := P.length + 1) (k := 1) rfl rfl rfl
  have hlc1 : ∀ (w3 w5 w6 w7 w8 w9 w10 w11 w12 w13 w14 : Option Vl) (N : Mem), lcE [12] (seqI (op2 ixV (getV 2) (cst (.d (.int 1))))) (setT 12) (fun _ M => .ok true M) (op2 addV (getV 12) (op2 mulV (getV 1) (getV 4))) [some (.h i), some (.d (.int (n : Nat))), some (.d (stD ss ps)), w3, some (.d (.int (r : Nat))), w5, w6, w7, w8, w9, w10, w11, w12, w13, w14] N = .ok (intsD (ps.map fun p => p + ((n * r : Nat) : Int))) N := fun w3 w5 w6 w7 w8 w9 w10 w11 w12 w13 w14 N => by
    rw [lcE_at (seqI_a (x := .d (.tuple (intsD ps))) (M1 := N) (by simp only [defM, startE, seqS_a, setS_a, bindS_ok, bindS_er, then_nx, then_rt, then_er, ifS_a, ifK_t, ifK_f, retS_a, dropS_a, asgS_a, asK_a, goG_ok, subT_a, nopS_a, getV_0, getV_s, cst_a, op2_a, o2a_ok, o2b_ok, opT_a, oTa_ok, oTb_ok, consA_a, cAa_ok, cAb_ok, nilA_a, callF_a, cFa_ok, callE_a, cEa_ok, newE_a, nwa_ok, datE_a, dta_ok, dispE_a, tupE_a, tpa_ok, asDs_a, datas, bind_ok, pur_ok, bool_b, leave_d, leave_nx, leave_er, ifE_a, ifa_t, ifa_f, notT_a, nta_ok, andT_a, ana_t, ana_f, orT_a, ora_t, ora_f, tstE_a, tsa_b, andE_a, aEa_t, aEa_f, orE_a, oEa_t, oEa_f, notE_a, nEa_ok, add_ii, sub_ii, gt_ii, lt_ii, ge_ii, le_ii, setT_a, consT_a, cTa_ok, nilT_a, tupT_a, seqT_t, seqT_l, forS_a, List.map_cons, List.map_nil, List.length_cons, List.length_nil, Nat.reduceAdd, Nat.reduceSub, Nat.zero_add, Nat.add_zero, List.replicate, List.cons_append, List.nil_append, List.append_nil, List.getElem?_cons_zero, List.getElem?_cons_succ, List.set_cons_zero, List.set_cons_succ, List.getElem?_nil, Option.map_some, Option.map_none, Option.bind_some, if_true, if_false, ite_true, ite_false, eq_self_iff_true, and_self, and_true, true_and, decide_true, decide_false, Bool.false_eq_true, Bool.not_true, Bool.not_false, sizeLine, Nat.reducePow, Nat.reduceLeDiff, Nat.zero_le, pow_7, pow_18, pow_40, i1]) rfl)]
    refine (lcL_map (fun z => match z with | .int w => .int (w + ((n * r : Nat) : Int)) | z => z) (intsD ps) [] (by rw [hsz]; simp [h.len]; omega) fun z hz => ?_).trans ?_
    · obtain ⟨w, hw, rfl⟩ := List.mem_map.mp hz
      refine ⟨[some (.h i), some (.d (.int (n : Nat))), some (.d (stD ss ps)), w3, some (.d (.int (r : Nat))), w5, w6, w7, w8, w9, w10, w11, some (.d (.int w)), w13, w14], rfl, rfl, ?_⟩
      simp only [defM, startE, seqS_a, setS_a, bindS_ok, bindS_er, then_nx, then_rt, then_er, ifS_a, ifK_t, ifK_f, retS_a, dropS_a, asgS_a, asK_a, goG_ok, subT_a, nopS_a, getV_0, getV_s, cst_a, op2_a, o2a_ok, o2b_ok, opT_a, oTa_ok, oTb_ok, consA_a, cAa_ok, cAb_ok, nilA_a, callF_a, cFa_ok, callE_a, cEa_ok, newE_a, nwa_ok, datE_a, dta_ok, dispE_a, tupE_a, tpa_ok, asDs_a, datas, bind_ok, pur_ok, bool_b, leave_d, leave_nx, leave_er, ifE_a, ifa_t, ifa_f, notT_a, nta_ok, andT_a, ana_t, ana_f, orT_a, ora_t, ora_f, tstE_a, tsa_b, andE_a, aEa_t, aEa_f, orE_a, oEa_t, oEa_f, notE_a, nEa_ok, add_ii, sub_ii, gt_ii, lt_ii, ge_ii, le_ii, setT_a, consT_a, cTa_ok, nilT_a, tupT_a, seqT_t, seqT_l, forS_a, List.map_cons, List.map_nil, List.length_cons, List.length_nil, Nat.reduceAdd, Nat.reduceSub, Nat.zero_add, Nat.add_zero, List.replicate, List.cons_append, List.nil_append, List.append_nil, List.getElem?_cons_zero, List.getElem?_cons_succ, List.set_cons_zero, List.set_cons_succ, List.getElem?_nil, Option.map_some, Option.map_none, Option.bind_some, if_true, if_false, ite_true, ite_false, eq_self_iff_true, and_self, and_true, true_and, decide_true, decide_false, Bool.false_eq_true, Bool.not_true, Bool.not_false, sizeLine, Nat.reducePow, Nat.reduceLeDiff, Nat.zero_le, pow_7, pow_18, pow_40, hm3]
    · rw [List.nil_append]
      refine congrArg (fun l => Res.ok l N) ?_
      show _ = List.map PyData.int (List.map _ _)
      rw [List.map_map, List.map_map]
      rfl
  have hlc2 : ∀ (w5 w6 w7 w8 w9 w10 w11 w12 w13 w14 : Option Vl) (N : Mem), lcE [13] (rngI1 (getV 1)) (setT 13) (opT neV (getV 13) (getV 3)) (tupE (consA (callE minV (consA (getV 3) (consA (getV 13) nilA))) (consA (callE maxV (consA (getV 3) (consA (getV 13) nilA))) (consA (op2 mulV (getV 1) (getV 4)) nilA)))) [some (.h i), some (.d (.int (n : Nat))), some (.d (stD ss ps)), some (.d (.int (who : Nat))), some (.d (.int (r : Nat))), w5, w6, w7, w8, w9, w10, w11, w12, w13, w14] N = .ok ((mates n who).map (triD ((n * r : Nat) : Int))) N := fun w5 w6 w7 w8 w9 w10 w11 w12 w13 w14 N => by
    rw [lcE_at (rngI1_a (M1 := N) (i := (n : Int)) (by simp only [defM, startE, seqS_a, setS_a, bindS_ok, bindS_er, then_nx, then_rt, then_er, ifS_a, ifK_t, ifK_f, retS_a, dropS_a, asgS_a, asK_a, goG_ok, subT_a, nopS_a, getV_0, getV_s, cst_a, op2_a, o2a_ok, o2b_ok, opT_a, oTa_ok, oTb_ok, consA_a, cAa_ok, cAb_ok, nilA_a, callF_a, cFa_ok, callE_a, cEa_ok, newE_a, nwa_ok, datE_a, dta_ok, dispE_a, tupE_a, tpa_ok, asDs_a, datas, bind_ok, pur_ok, bool_b, leave_d, leave_nx, leave_er, ifE_a, ifa_t, ifa_f, notT_a, nta_ok, andT_a, ana_t, ana_f, orT_a, ora_t, ora_f, tstE_a, tsa_b, andE_a, aEa_t, aEa_f, orE_a, oEa_t, oEa_f, notE_a, nEa_ok, add_ii, sub_ii, gt_ii, lt_ii, ge_ii, le_ii, setT_a, consT_a, cTa_ok, nilT_a, tupT_a, seqT_t, seqT_l, forS_a, List.map_cons, List.map_nil, List.length_cons, List.length_nil, Nat.reduceAdd, Nat.reduceSub, Nat.zero_add, Nat.add_zero, List.replicate, List.cons_append, List.nil_append, List.append_nil, List.getElem?_cons_zero, List.getElem?_cons_succ, List.set_cons_zero, List.set_cons_succ, List.getElem?_nil, Option.map_some, Option.map_none, Option.bind_some, if_true, if_false, ite_true, ite_false, eq_self_iff_true, and_self, and_true, true_and, decide_true, decide_false, Bool.false_eq_true, Bool.not_true, Bool.not_false, sizeLine, Nat.reducePow, Nat.reduceLeDiff, Nat.zero_le, pow_7, pow_18, pow_40]) (by omega)), rangeD_nat]
    refine (lcL_filter (fun z => match z with | .int w => decide (w.toNat ≠ who) | _ => false) (fun z => match z with | .int w => triD ((n * r : Nat) : Int) (min who w.toNat, max who w.toNat) | z => z) ((List.range n).map nD) [] (by rw [hsz]; simp; omega) fun z hz => ?_).trans ?_
    · obtain ⟨y, _, rfl⟩ := List.mem_map.mp hz
      refine ⟨[some (.h i), some (.d (.int (n : Nat))), some (.d (stD ss ps)), some (.d (.int (who : Nat))), some (.d (.int (r : Nat))), w5, w6, w7, w8, w9, w10, w11, w12, some (.d (nD y)), w14], rfl, ?_, fun _ => ?_⟩
      · have hd : (!((y : Int) == (who : Int))) = decide (y ≠ who) := by
          rw [Bool.eq_iff_iff]
          simp
          omega
        simp only [defM, startE, seqS_a, setS_a, bindS_ok, bindS_er, then_nx, then_rt, then_er, ifS_a, ifK_t, ifK_f, retS_a, dropS_a, asgS_a, asK_a, goG_ok, subT_a, nopS_a, getV_0, getV_s, cst_a, op2_a, o2a_ok, o2b_ok, opT_a, oTa_ok, oTb_ok, consA_a, cAa_ok, cAb_ok, nilA_a, callF_a, cFa_ok, callE_a, cEa_ok, newE_a, nwa_ok, datE_a, dta_ok, dispE_a, tupE_a, tpa_ok, asDs_a, datas, bind_ok, pur_ok, bool_b, leave_d, leave_nx, leave_er, ifE_a, ifa_t, ifa_f, notT_a, nta_ok, andT_a, ana_t, ana_f, orT_a, ora_t, ora_f, tstE_a, tsa_b, andE_a, aEa_t, aEa_f, orE_a, oEa_t, oEa_f, notE_a, nEa_ok, add_ii, sub_ii, gt_ii, lt_ii, ge_ii, le_ii, setT_a, consT_a, cTa_ok, nilT_a, tupT_a, seqT_t, seqT_l, forS_a, List.map_cons, List.map_nil, List.length_cons, List.length_nil, Nat.reduceAdd, Nat.reduceSub, Nat.zero_add, Nat.add_zero, List.replicate, List.cons_append, List.nil_append, List.append_nil, List.getElem?_cons_zero, List.getElem?_cons_succ, List.set_cons_zero, List.set_cons_succ, List.getElem?_nil, Option.map_some, Option.map_none, Option.bind_some, if_true, if_false, ite_true, ite_false, eq_self_iff_true, and_self, and_true, true_and, decide_true, decide_false, Bool.false_eq_true, Bool.not_true, Bool.not_false, sizeLine, Nat.reducePow, Nat.reduceLeDiff, Nat.zero_le, pow_7, pow_18, pow_40, ne_ii, hd, Int.toNat_natCast]
      · simp only [defM, startE, seqS_a, setS_a, bindS_ok, bindS_er, then_nx, then_rt, then_er, ifS_a, ifK_t, ifK_f, retS_a, dropS_a, asgS_a, asK_a, goG_ok, subT_a, nopS_a, getV_0, getV_s, cst_a, op2_a, o2a_ok, o2b_ok, opT_a, oTa_ok, oTb_ok, consA_a, cAa_ok, cAb_ok, nilA_a, callF_a, cFa_ok, callE_a, cEa_ok, newE_a, nwa_ok, datE_a, dta_ok, dispE_a, tupE_a, tpa_ok, asDs_a, datas, bind_ok, pur_ok, bool_b, leave_d, leave_nx, leave_er, ifE_a, ifa_t, ifa_f, notT_a, nta_ok, andT_a, ana_t, ana_f, orT_a, ora_t, ora_f, tstE_a, tsa_b, andE_a, aEa_t, aEa_f, orE_a, oEa_t, oEa_f, notE_a, nEa_ok, add_ii, sub_ii, gt_ii, lt_ii, ge_ii, le_ii, setT_a, consT_a, cTa_ok, nilT_a, tupT_a, seqT_t, seqT_l, forS_a, List.map_cons, List.map_nil, List.length_cons, List.length_nil, Nat.reduceAdd, Nat.reduceSub, Nat.zero_add, Nat.add_zero, List.replicate, List.cons_append, List.nil_append, List.append_nil, List.getElem?_cons_zero, List.getElem?_cons_succ, List.set_cons_zero, List.set_cons_succ, List.getElem?_nil, Option.map_some, Option.map_none, Option.bind_some, if_true, if_false, ite_true, ite_false, eq_self_iff_true, and_self, and_true, true_and, decide_true, decide_false, Bool.false_eq_true, Bool.not_true, Bool.not_false, sizeLine, Nat.reducePow, Nat.reduceLeDiff, Nat.zero_le, pow_7, pow_18, pow_40, min_v, max_v, hm3, Int.toNat_natCast]
        rfl
    · rw [List.nil_append, List.filter_map, List.map_map]
      refine congrArg (fun l => Res.ok l N) ?_
      unfold mates
      rw [List.map_map]
      rfl
  have hlc3 : ∀ (w6 w7 w8 w9 w10 w11 w12 w13 w14 : Option Vl) (N : Mem), r ≤ 2 → lcE [14] (rngI1 (getV 5)) (setT 14) (fun _ M => .ok true M) (op2 modV (op2 addV (op2 ixV (op2 ixV (getV 2) (cst (.d (.int 0)))) (getV 3)) (getV 14)) (getV 1)) [some (.h i), some (.d (.int (n : Nat))), some (.d (stD ss ps)), some (.d (.int (who : Nat))), some (.d (.int (r : Nat))), some (.d (.int ((n * (n - 1) * r : Nat) : Int))), w6, w7, w8, w9, w10, w11, w12, w13, w14] N = .ok (((List.range (n * (n - 1) * r)).map fun i => (s + i) % n).map nD) N := fun w6 w7 w8 w9 w10 w11 w12 w13 w14 N hr2 => by
    have hk := nK2 hr2
    rw [lcE_at (rngI1_a (M1 := N) (i := ((n * (n - 1) * r : Nat) : Int)) (by simp only [defM, startE, seqS_a, setS_a, bindS_ok, bindS_er, then_nx, then_rt, then_er, ifS_a, ifK_t, ifK_f, retS_a, dropS_a, asgS_a, asK_a, goG_ok, subT_a, nopS_a, getV_0, getV_s, cst_a, op2_a, o2a_ok, o2b_ok, opT_a, oTa_ok, oTb_ok, consA_a, cAa_ok, cAb_ok, nilA_a, callF_a, cFa_ok, callE_a, cEa_ok, newE_a, nwa_ok, datE_a, dta_ok, dispE_a, tupE_a, tpa_ok, asDs_a, datas, bind_ok, pur_ok, bool_b, leave_d, leave_nx, leave_er, ifE_a, ifa_t, ifa_f, notT_a, nta_ok, andT_a, ana_t, ana_f, orT_a, ora_t, ora_f, tstE_a, tsa_b, andE_a, aEa_t, aEa_f, orE_a, oEa_t, oEa_f, notE_a, nEa_ok, add_ii, sub_ii, gt_ii, lt_ii, ge_ii, le_ii, setT_a, consT_a, cTa_ok, nilT_a, tupT_a, seqT_t, seqT_l, forS_a, List.map_cons, List.map_nil, List.length_cons, List.length_nil, Nat.reduceAdd, Nat.reduceSub, Nat.zero_add, Nat.add_zero, List.replicate, List.cons_append, List.nil_append, List.append_nil, List.getElem?_cons_zero, List.getElem?_cons_succ, List.set_cons_zero, List.set_cons_succ, List.getElem?_nil, Option.map_some, Option.map_none, Option.bind_some, if_true, if_false, ite_true, ite_false, eq_self_iff_true, and_self, and_true, true_and, decide_true, decide_false, Bool.false_eq_true, Bool.not_true, Bool.not_false, sizeLine, Nat.reducePow, Nat.reduceLeDiff, Nat.zero_le, pow_7, pow_18, pow_40]) (by omega)), rangeD_nat]
    refine (lcL_map (fun z => match z with | .int w => .int (((s : Int) + w) % (n : Nat)) | z => z) ((List.range (n * (n - 1) * r)).map nD) [] (by rw [hsz]; simp; omega) fun z hz => ?_).trans ?_
    · obtain ⟨w, _, rfl⟩ := List.mem_map.mp hz
      refine ⟨[some (.h i), some (.d (.int (n : Nat))), some (.d (stD ss ps)), some (.d (.int (who : Nat))), some (.d (.int (r : Nat))), some (.d (.int ((n * (n - 1) * r : Nat) : Int))), w6, w7, w8, w9, w10, w11, w12, w13, some (.d (nD w))], rfl, rfl, ?_⟩
      simp only [defM, startE, seqS_a, setS_a, bindS_ok, bindS_er, then_nx, then_rt, then_er, ifS_a, ifK_t, ifK_f, retS_a, dropS_a, asgS_a, asK_a, goG_ok, subT_a, nopS_a, getV_0, getV_s, cst_a, op2_a, o2a_ok, o2b_ok, opT_a, oTa_ok, oTb_ok, consA_a, cAa_ok, cAb_ok, nilA_a, callF_a, cFa_ok, callE_a, cEa_ok, newE_a, nwa_ok, datE_a, dta_ok, dispE_a, tupE_a, tpa_ok, asDs_a, datas, bind_ok, pur_ok, bool_b, leave_d, leave_nx, leave_er, ifE_a, ifa_t, ifa_f, notT_a, nta_ok, andT_a, ana_t, ana_f, orT_a, ora_t, ora_f, tstE_a, tsa_b, andE_a, aEa_t, aEa_f, orE_a, oEa_t, oEa_f, notE_a, nEa_ok, add_ii, sub_ii, gt_ii, lt_ii, ge_ii, le_ii, setT_a, consT_a, cTa_ok, nilT_a, tupT_a, seqT_t, seqT_l, forS_a, List.map_cons, List.map_nil, List.length_cons, List.length_nil, Nat.reduceAdd, Nat.reduceSub, Nat.zero_add, Nat.add_zero, List.replicate, List.cons_append, List.nil_append, List.append_nil, List.getElem?_cons_zero, List.getElem?_cons_succ, List.set_cons_zero, List.set_cons_succ, List.getElem?_nil, Option.map_some, Option.map_none, Option.bind_some, if_true, if_false, ite_true, ite_false, eq_self_iff_true, and_self, and_true, true_and, decide_true, decide_false, Bool.false_eq_true, Bool.not_true, Bool.not_false, sizeLine, Nat.reducePow, Nat.reduceLeDiff, Nat.zero_le, pow_7, pow_18, pow_40, i0, i2, mod_ii (show (0 : Int) < (n : Nat) by omega)]
    · rw [List.nil_append]
      refine congrArg (fun l => Res.ok l N) ?_
      rw [List.map_map, List.map_map]
      refine List.map_congr_left fun w _ => ?_
      show PyData.int (((s : Int) + (w : Nat)) % (n : Nat)) = PyData.int (((s + w) % n : Nat) : Int)
      simp
  have hso : ∀ (w6 w7 w8 w9 w11 w12 w13 w14 : Option Vl) (N : Mem), sortTE (getV 10) [some (.h i), some (.d (.int (n : Nat))), some (.d (stD ss ps)), some (.d (.int (who : Nat))), some (.d (.int (r : Nat))), some (.d (.int ((n * (n - 1) * r : Nat) : Int))), w6, w7, w8, w9, some (.d (.list ((mates n who).map (triD ((n * r : Nat) : Int))))), w11, w12, w13, w14] N = .ok ((mates n who).map (triD ((n * r : Nat) : Int))) N := fun w6 w7 w8 w9 w11 w12 w13 w14 N => by
    have : sortTE (getV 10) [some (.h i), some (.d (.int (n : Nat))), some (.d (stD ss ps)), some (.d (.int (who : Nat))), some (.d (.int (r : Nat))), some (.d (.int ((n * (n - 1) * r : Nat) : Int))), w6, w7, w8, w9, some (.d (.list ((mates n who).map (triD ((n * r : Nat) : Int))))), w11, w12, w13, w14] N = .ok (sortT ((mates n who).map (triD ((n * r : Nat) : Int)))) N := if_pos ⟨hlt, sd2⟩
    rw [this, ← sd1]
  refine ⟨o6, ?_, B6.mono (by omega)⟩
  generalize hKI : ((n * (n - 1) * r : Nat) : Int) = KI at *
  generalize hmI : ((n * r : Nat) : Int) = mI at *
  generalize hqI : ((n * (n - 1) : Nat) : Int) = qI at *
  generalize hDu : (mates n who).map (triD mI) = Du at *
  generalize hTp : ((List.range (n * (n - 1) * r)).map fun i => (s + i) % n).map nD = Tp at *
  generalize hW1 : shiftL (richL ps who KI) (thereL ps who mI) = W1 at *
  generalize hW2 : shiftL (thereL ps who mI) (richL ps who KI) = W2 at *
  generalize hRc : richL ps who KI = Rc at *
  generalize hTh : thereL ps who mI = Th at *
  generalize hS0 : stD ss ps = S0 at *
  generalize hSr : stD ss Rc = Sr at *
  generalize hSt : stD ss Th = St at *
  generalize hss : ss.map nD = sD at *
  generalize hA3 : intsD (ps.map fun p => p + mI) = A3 at *
  generalize hA4 : intsD Rc = A4 at *
  generalize hA5 : intsD Th = A5 at *
  generalize hA6 : intsD ps = A6 at *
  unfold m_right g_right
  by_cases hr2 : (2 : Int) < (r : Nat)
  · simp only [defM, startE, seqS_a, setS_a, bindS_ok, bindS_er, then_nx, then_rt, then_er, ifS_a, ifK_t, ifK_f, retS_a, dropS_a, asgS_a, asK_a, goG_ok, subT_a, nopS_a, getV_0, getV_s, cst_a, op2_a, o2a_ok, o2b_ok, opT_a, oTa_ok, oTb_ok, consA_a, cAa_ok, cAb_ok, nilA_a, callF_a, cFa_ok, callE_a, cEa_ok, newE_a, nwa_ok, datE_a, dta_ok, dispE_a, tupE_a, tpa_ok, asDs_a, datas, bind_ok, pur_ok, bool_b, leave_d, leave_nx, leave_er, ifE_a, ifa_t, ifa_f, notT_a, nta_ok, andT_a, ana_t, ana_f, orT_a, ora_t, ora_f, tstE_a, tsa_b, andE_a, aEa_t, aEa_f, orE_a, oEa_t, oEa_f, notE_a, nEa_ok, add_ii, sub_ii, gt_ii, lt_ii, ge_ii, le_ii, setT_a, consT_a, cTa_ok, nilT_a, tupT_a, seqT_t, seqT_l, forS_a, List.map_cons, List.map_nil, List.length_cons, List.length_nil, Nat.reduceAdd, Nat.reduceSub, Nat.zero_add, Nat.add_zero, List.replicate, List.cons_append, List.nil_append, List.append_nil, List.getElem?_cons_zero, List.getElem?_cons_succ, List.set_cons_zero, List.set_cons_succ, List.getElem?_nil, Option.map_some, Option.map_none, Option.bind_some, if_true, if_false, ite_true, ite_false, eq_self_iff_true, and_self, and_true, true_and, decide_true, decide_false, Bool.false_eq_true, Bool.not_true, Bool.not_false, sizeLine, Nat.reducePow, Nat.reduceLeDiff, Nat.zero_le, pow_7, pow_18, pow_40, e1, hm, pow_30, pow_28, e2, e3, e4, e5, e6, hr, hm1, hm2, lE, hx1, hp1, fz1, i0, tup_l, A1, hlc1, List.append_assoc, List.length_append, i1, i3, hp2, fz2, A2, hlc2, Z1, D1, X1, hso, ne_ii, beq_self_eq_true, hnt, S1, s1, S2, s2, hr2]
    rw [hPl, List.take_append_of_le_length (Nat.le_refl _), take_all (Nat.le_refl _), hP]
  · have hr3 : r ≤ 2 := by omega
    obtain ⟨cs, p1, p2⟩ := PR hr3 (P ++ [.gone, .gone])
    have hlc3 := fun (w6 w7 w8 w9 w10 w11 w12 w13 w14 : Option Vl) (N : Mem) => hlc3 w6 w7 w8 w9 w10 w11 w12 w13 w14 N hr3
    simp only [defM, startE, seqS_a, setS_a, bindS_ok, bindS_er, then_nx, then_rt, then_er, ifS_a, ifK_t, ifK_f, retS_a, dropS_a, asgS_a, asK_a, goG_ok, subT_a, nopS_a, getV_0, getV_s, cst_a, op2_a, o2a_ok, o2b_ok, opT_a, oTa_ok, oTb_ok, consA_a, cAa_ok, cAb_ok, nilA_a, callF_a, cFa_ok, callE_a, cEa_ok, newE_a, nwa_ok, datE_a, dta_ok, dispE_a, tupE_a, tpa_ok, asDs_a, datas, bind_ok, pur_ok, bool_b, leave_d, leave_nx, leave_er, ifE_a, ifa_t, ifa_f, notT_a, nta_ok, andT_a, ana_t, ana_f, orT_a, ora_t, ora_f, tstE_a, tsa_b, andE_a, aEa_t, aEa_f, orE_a, oEa_t, oEa_f, notE_a, nEa_ok, add_ii, sub_ii, gt_ii, lt_ii, ge_ii, le_ii, setT_a, consT_a, cTa_ok, nilT_a, tupT_a, seqT_t, seqT_l, forS_a, List.map_cons, List.map_nil, List.length_cons, List.length_nil, Nat.reduceAdd, Nat.reduceSub, Nat.zero_add, Nat.add_zero, List.replicate, List.cons_append, List.nil_append, List.append_nil, List.getElem?_cons_zero, List.getElem?_cons_succ, List.set_cons_zero, List.set_cons_succ, List.getElem?_nil, Option.map_some, Option.map_none, Option.bind_some, if_true, if_false, ite_true, ite_false, eq_self_iff_true, and_self, and_true, true_and, decide_true, decide_false, Bool.false_eq_true, Bool.not_true, Bool.not_false, sizeLine, Nat.reducePow, Nat.reduceLeDiff, Nat.zero_le, pow_7, pow_18, pow_40, e1, hm, pow_30, pow_28, e2, e3, e4, e5, e6, hr, hm1, hm2, lE, hx1, hp1, fz1, i0, tup_l, A1, hlc1, List.append_assoc, List.length_append, i1, i3, hp2, fz2, A2, hlc2, Z1, D1, X1, hso, ne_ii, beq_self_eq_true, hnt, S1, s1, S2, s2, hr2, hlc3, R1, p1, p2, q1, q2]
    rw [hPl, List.take_append_of_le_length (Nat.le_refl _), take_all (Nat.le_refl _), hP]
theorem law_ok (ns : List Int) (hn : ns.length ≤ 63) : ∃ M, m_law [.s (ns.map PyData.int)] [] = .ok (.d (.bool true)) M :=
  law_gen (k := 3) (t := 2) (right := m_right) (by decide) (by decide) (by decide) right_ok ns hn
end K28
end DL

namespace DL.K28
open PySem PySem.Spec L2 DL
def loose : List Str := (["NoSeat", "OtherPeople", "Empty", "Barred", "TooMany", "MOST_STEPS", "sitting", "inverse", "as_tuples", "total", "residues", "exchanged", "after_toll", "run", "kept", "leads", "bar", "check_people", "check_leads", "shifts"] : List Str) ++ (["crossings", "distance", "nearer", "plan", "_law_box", "_law_take", "_law_cells", "_law_of", "_law_strewn", "_law_random_state", "_law_right", "__name__"] : List Str)
theorem run (w : World) : HandSHeadRun.RunEq R (PySem.W.view R.prog [36]) hk ob 3000 loose w := by
  intro os
  kernel_rfl
end DL.K28
open PySem PySem.W PySem.Calls PyProof.Rows
theorem DL.K28.goal (hspec : ∀ ns : List Int, ns.length ≤ 63 → ∃ M, DL.K28.m_law [.s (ns.map PyData.int)] [] = .ok (.d (.bool true)) M) : PySem.Challenge.rw_tollround_k28_whole_round_the_table.Holds := by
  w_on; o_law
  refine HandSHeadRun.head_any (r := OpenLaw.row PySem.Challenge.rw_tollround_k28_whole_round_the_table) (q := view (OpenLaw.row PySem.Challenge.rw_tollround_k28_whole_round_the_table).prog [36]) (H := DL.K28.hk) (ob := DL.K28.ob) (M := 3000) (loose := DL.K28.loose) (d := HandSHeadRun.topDef (OpenLaw.row PySem.Challenge.rw_tollround_k28_whole_round_the_table).prog 36) (kwd := []) DL.K28.ob_eq
    (by kernel_rfl) (fun s => by kernel_rfl) DL.K28.run (by kernel_rfl) (by kernel_rfl) (by kernel_rfl) (by rfl) (by first | assumption | decide +kernel) (by decide +kernel) ⟨rfl, rfl, rfl, rfl, rfl, by decide +kernel⟩ ?hw ?hc
  case hw => w_witness2
  case hc =>
    refine DL.walk_end (l := PySem.Challenge.rw_tollround_k28_whole_round_the_table) (n := 63) (k := 14) (x := "_law_script") (m := DL.K28.m_law) rfl (by decide) (by kernel_rfl) ⟨rfl, by decide, by decide⟩ ?F hspec
    intro w mg fa h Y G hmg0
    obtain ⟨K, KX, c⟩ := Y
    have hmg : mg ("law" : PySem.Str) = some (.ref fa) := by
      have e : (HandSHeadRun.topDef (OpenLaw.row PySem.Challenge.rw_tollround_k28_whole_round_the_table).prog 36).name = ("law" : PySem.Str) := by kernel_rfl
      rw [← e]
      exact hmg0
    obtain ⟨fd, hb, hF⟩ := DL.K28.facts (P := (PySem.Challenge.rw_tollround_k28_whole_round_the_table).prog) (w := w) KX G hmg c
    exact ⟨K, fd, KX, hb, hF⟩

theorem PySem.Challenge.cw_tollround_k28_whole_round_the_table_holds : PySem.Challenge.rw_tollround_k28_whole_round_the_table.Holds :=
  DL.K28.goal fun ns h => DL.K28.law_ok ns h
