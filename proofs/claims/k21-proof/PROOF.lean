import PyProof.Rows.All
import Wide.All
import OpenK.AllK
import Wide.FinOn
import PySem.Challenge.RW_namehouse_k21_the_road
import HandS.ForMost
import HandS.ForExc
import HandS.IsInst
import HandS.Style
import HandS.TupAny
import HandS.TupMul
import HandS.Walk
import HandS.ExcIs
import HandS.More
import HandS.Keys
import HandS.SortKw
import KE.KRevSl
import KE.SortKeyHeap
import HandS.Zip
import HandS.Iter
import PyProof.Claim2Refuses
import HandS.Deep
import HandS.TupLe
import HandS.CallLocal
import HandS.WideBits
import HandS.Strs
import HandS.Replace
import KE.GoesEnum
import HandS.Set
import HandS.SetFor
import HandS.TupSets
import PyProof.Rows.SortStr
import KE.DataCmp
import KE.KAssignIn
set_option Elab.async false
set_option linter.all false
set_option maxRecDepth 100000
set_option maxHeartbeats 4000000
namespace Nh
open PySem PySem.Spec PyProof.Rows L2

inductive Dat where
  | non | bl (b : Bool) | int (i : Int) | str (s : Str) | tup (ds : List Dat) | cell (k : Nat) | ro (ns : List Int) | ty (n : String) | cls (n : Nat) | ct (ds : List Dat)
inductive Cell where
  | lst (ds : List Dat) | dict (kvs : List (Key × Dat)) | exc (n : Nat) | ins (n : Nat) (fs : List (Str × Dat)) | dictT (kvs : List (List Key × Dat))
abbrev Store := List Cell
structure Cfg where
  K : PySem.W.Frag
  cl : Nat → Addr

/-- a list that nobody changes -/
def RoL (K : PySem.W.Frag) (H : Hp) (a : Addr) (xs : List V) : Prop :=
  (∃ o, H a = some (.frz o (.lst xs))) ∨ ((∀ H', SqL K H' a xs) ∧ ∃ o, K.lookup a = some o ∧ o.cls = .type "list")
/-- a tuple -/
def RoT (K : PySem.W.Frag) (H : Hp) (a : Addr) (xs : List V) : Prop := H a = some (.tup xs)
/-- a tuple of the written part -/
def RoC (K : PySem.W.Frag) (H : Hp) (a : Addr) (xs : List V) : Prop := ((∀ H', SqT K H' a xs) ∧ ∃ o, K.lookup a = some o ∧ o.cls = .type "tuple" ∧ o.dict = none) ∨ ∃ o, H a = some (.frz o (.tup xs)) ∧ o.cls = .type "tuple" ∧ o.dict = none
mutual
inductive Rel (c : Cfg) (as : List Addr) (H : Hp) : V → Dat → Prop
  | non : Rel c as H .non .non
  | bl (b : Bool) : Rel c as H (.bl b) (.bl b)
  | int (i : Int) : Rel c as H (.int i) (.int i)
  | str (s : Str) : Rel c as H (.str s) (.str s)
  | tup {a : Addr} {xs : List V} {ds : List Dat} (h : RoT c.K H a xs) (r : RelAll c as H xs ds) : Rel c as H (.ref a) (.tup ds)
  | cell {k : Nat} {a : Addr} (h : as[k]? = some a) : Rel c as H (.ref a) (.cell k)
  | ro {a : Addr} {ns : List Int} (h : RoL c.K H a (ns.map V.int)) : Rel c as H (.ref a) (.ro ns)
  | ty (n : String) : Rel c as H (.ty n) (.ty n)
  | cls (n : Nat) : Rel c as H (.ref (c.cl n)) (.cls n)
  | ct {a : Addr} {xs : List V} {ds : List Dat} (h : RoC c.K H a xs) (r : RelAll c as H xs ds) : Rel c as H (.ref a) (.ct ds)
inductive RelAll (c : Cfg) (as : List Addr) (H : Hp) : List V → List Dat → Prop
  | nil : RelAll c as H [] []
  | cons {v : V} {vs : List V} {d : Dat} {ds : List Dat} (h : Rel c as H v d) (t : RelAll c as H vs ds) : RelAll c as H (v :: vs) (d :: ds)
end
/-- the heap later -/
structure Ext (as : List Addr) (H : Hp) (as' : List Addr) (H' : Hp) : Prop where
  pre : ∀ (k : Nat) (a : Addr), as[k]? = some a → as'[k]? = some a
  tup : ∀ a xs, H a = some (.tup xs) → H' a = some (.tup xs)
  frz : ∀ a o u, H a = some (.frz o u) → H' a = some (.frz o u)
theorem Ext.refl {as : List Addr} {H : Hp} : Ext as H as H := ⟨fun _ _ h => h, fun _ _ h => h, fun _ _ _ h => h⟩
theorem Ext.trans {as as1 as2 : List Addr} {H H1 H2 : Hp} (a : Ext as H as1 H1) (b : Ext as1 H1 as2 H2) : Ext as H as2 H2 :=
  ⟨fun k x h => b.pre k x (a.pre k x h), fun x y h => b.tup x y (a.tup x y h), fun x o u h => b.frz x o u (a.frz x o u h)⟩
section
variable {c : Cfg} {as as' : List Addr} {H H' : Hp}
theorem RoC.mono {a : Addr} {xs : List V} (e : Ext as H as' H') (h : RoC c.K H a xs) : RoC c.K H' a xs := by
  rcases h with h | ⟨o, h1, h2⟩
  · exact .inl h
  · exact .inr ⟨o, e.frz _ _ _ h1, h2⟩
theorem RoC.sq {a : Addr} {xs : List V} (h : RoC c.K H a xs) : SqT c.K H a xs := by
  rcases h with h | ⟨o, h1, _⟩
  · exact h.1 H
  · exact .inl (.inr ⟨o, h1⟩)
theorem RoL.mono {a : Addr} {xs : List V} (e : Ext as H as' H') (h : RoL c.K H a xs) : RoL c.K H' a xs := by
  rcases h with ⟨o, h⟩ | h
  · exact .inl ⟨o, e.frz _ _ _ h⟩
  · exact .inr h
theorem RoL.sq {a : Addr} {xs : List V} (h : RoL c.K H a xs) : SqL c.K H a xs := by
  rcases h with ⟨o, h⟩ | h
  · exact .inl (.inr ⟨o, h⟩)
  · exact h.1 H
theorem RoT.mono {a : Addr} {xs : List V} (e : Ext as H as' H') (h : RoT c.K H a xs) : RoT c.K H' a xs := e.tup _ _ h
theorem RoT.sq {a : Addr} {xs : List V} (h : RoT c.K H a xs) : SqT c.K H a xs := .inl (.inl h)
mutual
theorem Rel.mono (e : Ext as H as' H') : ∀ {v : V} {d : Dat}, Rel c as H v d → Rel c as' H' v d
  | _, _, .non => .non
  | _, _, .bl b => .bl b
  | _, _, .int i => .int i
  | _, _, .str s => .str s
  | _, _, .tup h r => .tup (h.mono e) (RelAll.mono e r)
  | _, _, .cell h => .cell (e.pre _ _ h)
  | _, _, .ro h => .ro (h.mono e)
  | _, _, .ty n => .ty n
  | _, _, .cls n => .cls n
  | _, _, .ct h r => .ct (h.mono e) (RelAll.mono e r)
theorem RelAll.mono (e : Ext as H as' H') : ∀ {vs : List V} {ds : List Dat}, RelAll c as H vs ds → RelAll c as' H' vs ds
  | _, _, .nil => .nil
  | _, _, .cons h t => .cons (Rel.mono e h) (RelAll.mono e t)
end
theorem RelAll.length : ∀ {vs : List V} {ds : List Dat}, RelAll c as H vs ds → vs.length = ds.length
  | _, _, .nil => rfl
  | _, _, .cons _ t => by rw [List.length_cons, List.length_cons, RelAll.length t]
theorem RelAll.get : ∀ {vs : List V} {ds : List Dat} {i : Nat} {d : Dat}, RelAll c as H vs ds → ds[i]? = some d → ∃ v, vs[i]? = some v ∧ Rel c as H v d
  | _, _, _, _, .nil, e => by simp at e
  | _, _, 0, _, .cons h _, e => by simp at e; subst e; exact ⟨_, rfl, h⟩
  | _, _, i + 1, _, .cons _ t, e => by
    obtain ⟨v, h1, h2⟩ := RelAll.get (i := i) t (by simpa using e)
    exact ⟨v, by simpa using h1, h2⟩
theorem RelAll.getV : ∀ {vs : List V} {ds : List Dat} {i : Nat} {v : V}, RelAll c as H vs ds → vs[i]? = some v → ∃ d, ds[i]? = some d ∧ Rel c as H v d
  | _, _, _, _, .nil, e => by simp at e
  | _, _, 0, _, .cons h _, e => by simp at e; subst e; exact ⟨_, rfl, h⟩
  | _, _, i + 1, _, .cons _ t, e => by
    obtain ⟨v, h1, h2⟩ := RelAll.getV (i := i) t (by simpa using e)
    exact ⟨v, by simpa using h1, h2⟩
theorem RelAll.append : ∀ {vs ws : List V} {ds es : List Dat}, RelAll c as H vs ds → RelAll c as H ws es → RelAll c as H (vs ++ ws) (ds ++ es)
  | _, _, _, _, .nil, s => s
  | _, _, _, _, .cons h t, s => .cons h (RelAll.append t s)
theorem RelAll.take : ∀ {vs : List V} {ds : List Dat} (n : Nat), RelAll c as H vs ds → RelAll c as H (vs.take n) (ds.take n)
  | _, _, 0, _ => .nil
  | _, _, _ + 1, .nil => .nil
  | _, _, n + 1, .cons h t => .cons h (RelAll.take n t)
theorem RelAll.drop : ∀ {vs : List V} {ds : List Dat} (n : Nat), RelAll c as H vs ds → RelAll c as H (vs.drop n) (ds.drop n)
  | _, _, 0, h => h
  | _, _, _ + 1, .nil => .nil
  | _, _, n + 1, .cons _ t => RelAll.drop n t
theorem RelAll.set {v : V} {d : Dat} (h : Rel c as H v d) : ∀ {vs : List V} {ds : List Dat} (i : Nat), RelAll c as H vs ds → RelAll c as H (vs.set i v) (ds.set i d)
  | _, _, _, .nil => .nil
  | _, _, 0, .cons _ t => .cons h t
  | _, _, i + 1, .cons q t => .cons q (RelAll.set h i t)
end

/-- an exception that the program keeps: its class -/
def ExO (cls : Value) (a : Addr) : HO := .ext fun h => ∃ oe vs, h.get? a = some oe ∧ Zc cls none oe ∧ oe.data = .fields vs
def RelKV (c : Cfg) (as : List Addr) (H : Hp) : List (Key × V) → List (Key × Dat) → Prop := Paired fun p q => p.1 = q.1 ∧ Rel c as H p.2 q.2
/-- pairs by equal keys -/
def RelP {κ : Type} (c : Cfg) (as : List Addr) (H : Hp) : List (κ × V) → List (κ × Dat) → Prop := Paired fun p q => p.1 = q.1 ∧ Rel c as H p.2 q.2
def CellOk (c : Cfg) (as : List Addr) (H : Hp) (a : Addr) : Cell → Prop
  | .lst ds => ∃ xs, H a = some (.lst xs) ∧ RelAll c as H xs ds
  | .dict kvs => ∃ ps, H a = some (.dK ps) ∧ RelKV c as H ps kvs
  | .exc n => H a = some (ExO (.ref (c.cl n)) a)
  | .ins n fs => ∃ dx vs, H a = some (.ins (c.cl n) dx vs) ∧ RelP c as H vs fs
  | .dictT kvs => ∃ ps, H a = some (.dT ps) ∧ RelP c as H ps kvs
structure StH (c : Cfg) (as : List Addr) (H : Hp) (μ : Store) : Prop where
  nd : as.Nodup
  len : as.length = μ.length
  at_ : ∀ (k : Nat) (x : Cell), μ[k]? = some x → ∃ a, as[k]? = some a ∧ CellOk c as H a x
abbrev Env := List (Option Dat)
structure EnvR (c : Cfg) (as : List Addr) (H : Hp) (σ : L2.St) (δ : Env) : Prop where
  len : σ.length = δ.length
  at_ : ∀ (i : Nat) (d : Dat), δ[i]? = some (some d) → ∃ v, σ[i]? = some (some v) ∧ Rel c as H v d
section
variable {c : Cfg} {as as' : List Addr} {H H' : Hp} {μ : Store} {σ : L2.St} {δ : Env}
theorem RelKV.mono (e : Ext as H as' H') {ps : List (Key × V)} {kvs : List (Key × Dat)} (r : RelKV c as H ps kvs) : RelKV c as' H' ps kvs := Paired.mapP r fun _ _ q => ⟨q.1, q.2.mono e⟩
theorem RelP.mono {κ : Type} (e : Ext as H as' H') {ps : List (κ × V)} {kvs : List (κ × Dat)} (r : RelP c as H ps kvs) : RelP c as' H' ps kvs := Paired.mapP r fun _ _ q => ⟨q.1, q.2.mono e⟩
theorem EnvR.mono (e : Ext as H as' H') (r : EnvR c as H σ δ) : EnvR c as' H' σ δ :=
  ⟨r.len, fun i d h => let ⟨v, h1, h2⟩ := r.at_ i d h; ⟨v, h1, h2.mono e⟩⟩
theorem EnvR.set {v : V} {d : Dat} (r : EnvR c as H σ δ) (i : Nat) (h : Rel c as H v d) : EnvR c as H (σ.set i (some v)) (δ.set i (some d)) :=
  ⟨by rw [List.length_set, List.length_set, r.len], fun j e hj => by
    by_cases hij : i = j
    · subst hij
      by_cases hl : i < δ.length
      · rw [List.getElem?_set_self hl] at hj
        cases hj
        exact ⟨v, by rw [List.getElem?_set_self (by rw [r.len]; exact hl)], h⟩
      · rw [List.getElem?_eq_none (by simpa using hl)] at hj
        cases hj
    · rw [List.getElem?_set_ne hij] at hj
      rw [List.getElem?_set_ne hij]
      exact r.at_ j e hj⟩
theorem EnvR.setN (r : EnvR c as H σ δ) (i : Nat) : EnvR c as H (σ.set i none) (δ.set i none) :=
  ⟨by rw [List.length_set, List.length_set, r.len], fun j e hj => by
    by_cases hij : i = j
    · subst hij
      by_cases hl : i < δ.length
      · rw [List.getElem?_set_self hl] at hj
        cases hj
      · rw [List.getElem?_eq_none (by simpa using hl)] at hj
        cases hj
    · rw [List.getElem?_set_ne hij] at hj
      rw [List.getElem?_set_ne hij]
      exact r.at_ j e hj⟩
theorem CellOk.mono {a : Addr} {x : Cell} (e : Ext as H as' H') (hx : H' a = H a) (h : CellOk c as H a x) : CellOk c as' H' a x := by
  cases x with
  | lst ds => obtain ⟨xs, h1, h2⟩ := h; exact ⟨xs, hx.trans h1, h2.mono e⟩
  | dict kvs => obtain ⟨ps, h1, h2⟩ := h; exact ⟨ps, hx.trans h1, h2.mono e⟩
  | exc n => exact hx.trans h
  | ins n fs => obtain ⟨dx, vs, h1, h2⟩ := h; exact ⟨dx, vs, hx.trans h1, h2.mono e⟩
  | dictT kvs => obtain ⟨ps, h1, h2⟩ := h; exact ⟨ps, hx.trans h1, h2.mono e⟩
theorem CellOk.not_tup {a : Addr} {x : Cell} (h : CellOk c as H a x) : ∀ xs, H a ≠ some (.tup xs) := by
  intro xs e
  cases x with
  | lst ds => obtain ⟨_, h1, _⟩ := h; rw [e] at h1; cases h1
  | dict kvs => obtain ⟨_, h1, _⟩ := h; rw [e] at h1; cases h1
  | exc n => rw [show H a = _ from h] at e; cases e
  | ins n fs => obtain ⟨_, _, h1, _⟩ := h; rw [e] at h1; cases h1
  | dictT kvs => obtain ⟨_, h1, _⟩ := h; rw [e] at h1; cases h1
theorem CellOk.not_frz {a : Addr} {x : Cell} (h : CellOk c as H a x) : ∀ o u, H a ≠ some (.frz o u) := by
  intro o u e
  cases x with
  | lst ds => obtain ⟨_, h1, _⟩ := h; rw [e] at h1; cases h1
  | dict kvs => obtain ⟨_, h1, _⟩ := h; rw [e] at h1; cases h1
  | exc n => rw [show H a = _ from h] at e; cases e
  | ins n fs => obtain ⟨_, _, h1, _⟩ := h; rw [e] at h1; cases h1
  | dictT kvs => obtain ⟨_, h1, _⟩ := h; rw [e] at h1; cases h1
theorem CellOk.some_ {a : Addr} {x : Cell} (h : CellOk c as H a x) : H a ≠ none := by
  intro e
  cases x with
  | lst ds => obtain ⟨_, h1, _⟩ := h; rw [e] at h1; cases h1
  | dict kvs => obtain ⟨_, h1, _⟩ := h; rw [e] at h1; cases h1
  | exc n => rw [show H a = _ from h] at e; cases e
  | ins n fs => obtain ⟨_, _, h1, _⟩ := h; rw [e] at h1; cases h1
  | dictT kvs => obtain ⟨_, h1, _⟩ := h; rw [e] at h1; cases h1
theorem StH.mem {a : Addr} (s : StH c as H μ) (h : a ∈ as) : H a ≠ none := by
  obtain ⟨k, hk, e⟩ := List.getElem_of_mem h
  have hk' : k < μ.length := by rw [← s.len]; exact hk
  obtain ⟨b, h1, h2⟩ := s.at_ k μ[k] (List.getElem?_eq_getElem hk')
  rw [List.getElem?_eq_getElem hk, e] at h1
  cases h1
  exact h2.some_
/-- a new tuple -/
theorem ext_new {p : Addr} {o : HO} (h : H p = none) : Ext as H as (upd H p o) :=
  ⟨fun _ _ h => h, fun a xs e => by rw [upd_ne (ne_of_none e h)]; exact e, fun a o u e => by rw [upd_ne (ne_of_none e h)]; exact e⟩
theorem StH.tup {p : Addr} {o : HO} (s : StH c as H μ) (h : H p = none) : StH c as (upd H p o) μ :=
  ⟨s.nd, s.len, fun k x e => by
    obtain ⟨a, h1, h2⟩ := s.at_ k x e
    have ne : a ≠ p := fun z => h2.some_ (by rw [z]; exact h)
    exact ⟨a, h1, h2.mono (ext_new h) (upd_ne ne)⟩⟩
/-- a new object of the store -/
theorem ext_alloc {p : Addr} {o : HO} (h : H p = none) : Ext as H (as ++ [p]) (upd H p o) :=
  ⟨fun k a e => by
    have hk : k < as.length := (List.getElem?_eq_some_iff.mp e).1
    rw [List.getElem?_append_left hk]
    exact e, (ext_new (as := as) h).tup, (ext_new (as := as) h).frz⟩
theorem StH.alloc {p : Addr} {o : HO} {x : Cell} (s : StH c as H μ) (h : H p = none) (new : CellOk c (as ++ [p]) (upd H p o) p x) : StH c (as ++ [p]) (upd H p o) (μ ++ [x]) := by
  refine ⟨?_, by simp [s.len], fun k y e => ?_⟩
  · rw [List.nodup_append]
    refine ⟨s.nd, by simp, fun a ha b hb => ?_⟩
    have hb' : b = p := by simpa using hb
    subst hb'
    exact fun z => s.mem ha (by rw [z]; exact h)
  · by_cases hk : k < μ.length
    · rw [List.getElem?_append_left hk] at e
      obtain ⟨a, h1, h2⟩ := s.at_ k y e
      have ne : a ≠ p := fun z => h2.some_ (by rw [z]; exact h)
      exact ⟨a, (ext_alloc (o := o) h).pre _ _ h1, h2.mono (ext_alloc h) (upd_ne ne)⟩
    · have hk2 : k = μ.length := by
        have := (List.getElem?_eq_some_iff.mp e).1
        rw [List.length_append, List.length_singleton] at this
        omega
      subst hk2
      rw [List.getElem?_concat_length] at e
      cases e
      exact ⟨p, by rw [← s.len, List.getElem?_concat_length], new⟩
theorem rel_alloc {p : Addr} (s : StH c as H μ) {H' : Hp} : Rel c (as ++ [p]) H' (.ref p) (.cell μ.length) := .cell (by rw [← s.len, List.getElem?_concat_length])
/-- an object of the store is changed -/
theorem ext_set {k : Nat} {a : Addr} {x : Cell} {o : HO} (s : StH c as H μ) (hk : μ[k]? = some x) (ha : as[k]? = some a) : Ext as H as (upd H a o) := by
  obtain ⟨b, h1, h2⟩ := s.at_ k x hk
  rw [ha] at h1
  cases h1
  refine ⟨fun _ _ h => h, fun b xs e => ?_, fun b o u e => ?_⟩
  · have ne : b ≠ a := fun z => by rw [z] at e; exact h2.not_tup _ e
    rw [upd_ne ne]; exact e
  · have ne : b ≠ a := fun z => by rw [z] at e; exact h2.not_frz _ _ e
    rw [upd_ne ne]; exact e
theorem StH.set {k : Nat} {a : Addr} {x y : Cell} {o : HO} (s : StH c as H μ) (hk : μ[k]? = some x) (ha : as[k]? = some a) (new : CellOk c as (upd H a o) a y) : StH c as (upd H a o) (μ.set k y) := by
  refine ⟨s.nd, by rw [List.length_set]; exact s.len, fun j z e => ?_⟩
  have hkl : k < μ.length := (List.getElem?_eq_some_iff.mp hk).1
  by_cases hj : k = j
  · subst hj
    rw [List.getElem?_set_self hkl] at e
    cases e
    exact ⟨a, ha, new⟩
  · rw [List.getElem?_set_ne hj] at e
    obtain ⟨b, h1, h2⟩ := s.at_ j z e
    have ne : b ≠ a := fun q => hj (nd_ix s.nd ha (q ▸ h1))
    exact ⟨b, h1, h2.mono (ext_set s hk ha) (upd_ne ne)⟩
theorem StH.cell_at {k : Nat} {a : Addr} {x : Cell} (s : StH c as H μ) (hk : μ[k]? = some x) (ha : as[k]? = some a) : CellOk c as H a x := by
  obtain ⟨b, h1, h2⟩ := s.at_ k x hk
  rw [ha] at h1
  cases h1
  exact h2
end

/-! ### what a step gives -/
inductive Res (α : Type) where
  | ok (x : α) (μ : Store) | raise (n : Nat) (μ : Store) | stuck
def Res.bind {α β : Type} (r : Res α) (f : α → Store → Res β) : Res β := match r with
  | .ok x μ => f x μ
  | .raise n μ => .raise n μ
  | .stuck => .stuck
abbrev M (α : Type) := Env → Store → Res α
section
variable {c : Cfg} {as as' : List Addr} {H H' : Hp} {σ : L2.St} {δ : Env} {μ : Store} {α β γ ε : Type}
def Want (c : Cfg) (R : List Addr → Hp → β → α → Prop) (r : Res α) (as : List Addr) (H : Hp) (σ : L2.St) (Q : β → Hp → Prop) (W : WX) : Prop := match r with
  | .ok x μ' => ∀ v as' H', Ext as H as' H' → StH c as' H' μ' → R as' H' v x → Q v H'
  | .raise n μ' => ∀ as' H', Ext as H as' H' → StH c as' H' μ' → W (.ref (c.cl n)) none σ H'
  | .stuck => False
theorem Want.mono {R : List Addr → Hp → β → α → Prop} {r : Res α} {Q : β → Hp → Prop} {W : WX} (e : Ext as H as' H') (w : Want c R r as H σ Q W) : Want c R r as' H' σ Q W := by
  cases r with
  | ok x μ' => exact fun v a h q => w v a h (e.trans q)
  | raise n μ' => exact fun a h q => w a h (e.trans q)
  | stuck => exact w
theorem Want.imp {R : List Addr → Hp → β → α → Prop} {r : Res α} {Q Q' : β → Hp → Prop} {W : WX} (w : Want c R r as H σ Q W) (h : ∀ v H', Q v H' → Q' v H') : Want c R r as H σ Q' W := by
  cases r with
  | ok x μ' => exact fun v a q e s r => h _ _ (w v a q e s r)
  | raise n μ' => exact w
  | stuck => exact w
theorem want_bind {R1 : List Addr → Hp → β → α → Prop} {R2 : List Addr → Hp → ε → γ → Prop} {r : Res α} {f : α → Store → Res γ} {Q : ε → Hp → Prop} {W : WX} (h : Want c R2 (r.bind f) as H σ Q W) :
    Want c R1 r as H σ (fun v H1 => ∃ as1 μ1 x, Ext as H as1 H1 ∧ StH c as1 H1 μ1 ∧ R1 as1 H1 v x ∧ Want c R2 (f x μ1) as1 H1 σ Q W) W := by
  cases r with
  | ok x μ' => exact fun v a q e s r => ⟨a, μ', x, e, s, r, Want.mono (r := f x μ') e h⟩
  | raise n μ' => exact h
  | stuck => exact h
/-- a reading follows a function -/
def Sim (c : Cfg) (W : WX) (R : List Addr → Hp → β → α → Prop) (t : L2.St → Hp → (β → Hp → Prop) → Prop) (m : M α) : Prop :=
  ∀ as H σ δ μ, StH c as H μ → EnvR c as H σ δ → ∀ Q, Want c R (m δ μ) as H σ Q W → t σ H Q
abbrev SimE (c : Cfg) (W : WX) (t : TE) (m : M Dat) : Prop := Sim c W (Rel c) t m
abbrev SimT (c : Cfg) (W : WX) (t : TT) (m : M Bool) : Prop := Sim c W (fun _ _ b d => b = d) t m
abbrev SimA (c : Cfg) (W : WX) (t : TA) (m : M (List Dat)) : Prop := Sim c W (RelAll c) t m
variable {W : WX}
theorem sim_bind {R1 : List Addr → Hp → β → α → Prop} {R2 : List Addr → Hp → ε → γ → Prop} {t : L2.St → Hp → (β → Hp → Prop) → Prop} {m : M α} {k : β → L2.St → Hp → (ε → Hp → Prop) → Prop} {f : α → M γ}
    (h : Sim c W R1 t m) (hk : ∀ as H σ δ μ v x, StH c as H μ → EnvR c as H σ δ → R1 as H v x → ∀ Q, Want c R2 (f x δ μ) as H σ Q W → k v σ H Q) :
    Sim c W R2 (fun σ H Q => t σ H fun v H1 => k v σ H1 Q) (fun δ μ => (m δ μ).bind fun x μ1 => f x δ μ1) := by
  intro as H σ δ μ st env Q w
  refine h as H σ δ μ st env _ ((want_bind (R1 := R1) w).imp ?_)
  rintro v H1 ⟨as1, μ1, x, e, s1, r, w1⟩
  exact hk as1 H1 σ δ μ1 v x s1 (env.mono e) r Q w1

/-! ### names, constants -/
def mVar (i : Nat) : M Dat := fun δ μ => match δ[i]? with
  | some (some d) => .ok d μ
  | _ => .stuck
theorem sim_var (i : Nat) : SimE c W (tVar i) (mVar i) := by
  intro as H σ δ μ st env Q w
  unfold mVar at w
  split at w
  · rename_i d hd
    obtain ⟨v, h1, h2⟩ := env.at_ i d hd
    exact ⟨v, h1, w v as H .refl st h2⟩
  · exact w.elim
def mC (d : Dat) : M Dat := fun _ μ => .ok d μ
theorem sim_c {v : V} {d : Dat} (h : ∀ as H, Rel c as H v d) : SimE c W (tC v) (mC d) := fun as H σ δ μ st env Q w => w v as H .refl st (h as H)
theorem sim_int (i : Int) : SimE c W (tC (.int i)) (mC (.int i)) := sim_c fun _ _ => .int i
theorem sim_str (s : Str) : SimE c W (tC (.str s)) (mC (.str s)) := sim_c fun _ _ => .str s
theorem sim_bl (b : Bool) : SimE c W (tC (.bl b)) (mC (.bl b)) := sim_c fun _ _ => .bl b
theorem sim_non : SimE c W (tC .non) (mC .non) := sim_c fun _ _ => .non
theorem sim_ty (n : String) : SimE c W (tC (.ty n)) (mC (.ty n)) := sim_c fun _ _ => .ty n
theorem sim_cls (n : Nat) : SimE c W (tC (.ref (c.cl n))) (mC (.cls n)) := sim_c fun _ _ => .cls n

/-! ### operators -/
abbrev F1 := Dat → Store → Res Dat
abbrev F2 := Dat → Dat → Store → Res Dat
def SimR (c : Cfg) (r : R2) (f : F2) : Prop :=
  ∀ as H μ v w x y, StH c as H μ → Rel c as H v x → Rel c as H w y → ∀ σ W Q, Want c (Rel c) (f x y μ) as H σ Q W → r v w H Q
def mOp (f : F2) (a b : M Dat) : M Dat := fun δ μ => (a δ μ).bind fun x μ1 => (b δ μ1).bind fun y μ2 => f x y μ2
theorem sim_op {r : R2} {f : F2} {ta tb : TE} {a b : M Dat} (hr : SimR c r f) (ha : SimE c W ta a) (hb : SimE c W tb b) : SimE c W (tOp r ta tb) (mOp f a b) := by
  intro as H σ δ μ st env Q w
  refine ha as H σ δ μ st env _ ((want_bind (R1 := Rel c) w).imp ?_)
  rintro v H1 ⟨as1, μ1, x, e, s1, rx, w1⟩
  refine hb as1 H1 σ δ μ1 s1 (env.mono e) _ ((want_bind (R1 := Rel c) w1).imp ?_)
  rintro u H2 ⟨as2, μ2, y, e2, s2, ry, w2⟩
  exact hr as2 H2 μ2 v u x y s2 (rx.mono e2) ry σ W Q w2
def intOp (g : Int → Int → Dat) : F2 := fun x y μ => match x, y with
  | .int i, .int j => .ok (g i j) μ
  | _, _ => .stuck
theorem simr_I0 {g : Int → Int → V} {g' : Int → Int → Dat} (hg : ∀ i j as H, Rel c as H (g i j) (g' i j)) : SimR c (rI0 g) (intOp g') := by
  intro as H μ v w x y st rx ry σ W Q h
  unfold intOp at h
  split at h
  · cases rx
    cases ry
    exact ⟨_, _, rfl, rfl, h _ as H .refl st (hg ..)⟩
  · exact h.elim
def intOpC (C : Int → Int → Prop) [∀ i j, Decidable (C i j)] (g : Int → Int → Dat) : F2 := fun x y μ => match x, y with
  | .int i, .int j => if C i j then .ok (g i j) μ else .stuck
  | _, _ => .stuck
theorem simr_I {C : Int → Int → Prop} [∀ i j, Decidable (C i j)] {g : Int → Int → V} {g' : Int → Int → Dat} (hg : ∀ i j as H, Rel c as H (g i j) (g' i j)) : SimR c (rI C g) (intOpC C g') := by
  intro as H μ v w x y st rx ry σ W Q h
  unfold intOpC at h
  split at h
  · rename_i i j
    cases rx
    cases ry
    by_cases hc : C i j
    · rw [if_pos hc] at h
      exact ⟨_, _, rfl, rfl, hc, h _ as H .refl st (hg ..)⟩
    · rw [if_neg hc] at h
      exact h.elim
  · exact h.elim
instance : ∀ i j, Decidable (CMul i j) := fun i j => by unfold CMul; infer_instance
instance : ∀ i j, Decidable (CDiv i j) := fun i j => by unfold CDiv; infer_instance
instance : ∀ i j, Decidable (CPow i j) := fun i j => by unfold CPow; infer_instance
def fAdd : F2 := intOp fun i j => .int (i + j)
def fSub : F2 := intOp fun i j => .int (i - j)
def fMul : F2 := intOpC CMul fun i j => .int (i * j)
def fDiv : F2 := intOpC CDiv fun i j => .int (i / j)
def fMod : F2 := intOpC (fun _ j => 0 < j) fun i j => .int (i % j)
def fPow : F2 := intOpC CPow fun i j => .int (i ^ j.toNat)
def fLt : F2 := intOp fun i j => .bl (decide (i < j))
def fLe : F2 := intOp fun i j => .bl (decide (i ≤ j))
def fGt : F2 := intOp fun i j => .bl (decide (j < i))
def fGe : F2 := intOp fun i j => .bl (decide (j ≤ i))
theorem simr_add : SimR c (rI0 fun i j => .int (i + j)) fAdd := simr_I0 fun _ _ _ _ => .int _
theorem simr_sub : SimR c (rI0 fun i j => .int (i - j)) fSub := simr_I0 fun _ _ _ _ => .int _
theorem simr_mul : SimR c (rI CMul fun i j => .int (i * j)) fMul := simr_I fun _ _ _ _ => .int _
theorem simr_fdiv : SimR c (rI CDiv fun i j => .int (i / j)) fDiv := simr_I fun _ _ _ _ => .int _
theorem simr_mod : SimR c (rI (fun _ j => 0 < j) fun i j => .int (i % j)) fMod := simr_I fun _ _ _ _ => .int _
theorem simr_pow : SimR c (rI CPow fun i j => .int (i ^ j.toNat)) fPow := simr_I fun _ _ _ _ => .int _
theorem simr_lt : SimR c (rI0 fun i j => .bl (decide (i < j))) fLt := simr_I0 fun _ _ _ _ => .bl _
theorem simr_le : SimR c (rI0 fun i j => .bl (decide (i ≤ j))) fLe := simr_I0 fun _ _ _ _ => .bl _
theorem simr_gt : SimR c (rI0 fun i j => .bl (decide (j < i))) fGt := simr_I0 fun _ _ _ _ => .bl _
theorem simr_ge : SimR c (rI0 fun i j => .bl (decide (j ≤ i))) fGe := simr_I0 fun _ _ _ _ => .bl _
/-- a datum that stands for itself -/
def toV : Dat → Option V
  | .non => some .non
  | .bl b => some (.bl b)
  | .int i => some (.int i)
  | .str s => some (.str s)
  | _ => none
theorem Rel.toV {v u : V} {d : Dat} (h : Rel c as H v d) (e : toV d = some u) : v = u := by
  cases h <;> first | (cases e; rfl) | cases e
def fEq : F2 := fun x y μ => match toV x, toV y with
  | some u, some v => if scal u v = true then .ok (.bl (decide (u = v))) μ else .stuck
  | _, _ => .stuck
def fNe : F2 := fun x y μ => match toV x, toV y with
  | some u, some v => if scal u v = true then .ok (.bl (!decide (u = v))) μ else .stuck
  | _, _ => .stuck
theorem simr_eq : SimR c rEq fEq := by
  intro as H μ v w x y st rx ry σ W Q h
  unfold fEq at h
  split at h
  · rename_i u1 u2 e1 e2
    obtain rfl := rx.toV e1
    obtain rfl := ry.toV e2
    by_cases hs : scal v w = true
    · rw [if_pos hs] at h
      exact ⟨hs, h _ as H .refl st (.bl _)⟩
    · rw [if_neg hs] at h
      exact h.elim
  · exact h.elim
theorem simr_ne : SimR c rNe fNe := by
  intro as H μ v w x y st rx ry σ W Q h
  unfold fNe at h
  split at h
  · rename_i u1 u2 e1 e2
    obtain rfl := rx.toV e1
    obtain rfl := ry.toV e2
    by_cases hs : scal v w = true
    · rw [if_pos hs] at h
      exact ⟨hs, h _ as H .refl st (.bl _)⟩
    · rw [if_neg hs] at h
      exact h.elim
  · exact h.elim
end
end Nh

namespace Nh
open PySem PySem.Spec PyProof.Rows L2
section
variable {c : Cfg} {as as' : List Addr} {H H' : Hp} {σ : L2.St} {δ : Env} {μ : Store} {α β γ ε : Type} {W : WX}

/-! ### tests, and, or, not, if -/
def asB (m : M Dat) : M Bool := fun δ μ => (m δ μ).bind fun d μ1 => match d with
  | .bl b => .ok b μ1
  | _ => .stuck
theorem sim_tB {t : TE} {m : M Dat} (h : SimE c W t m) : SimT c W (tB t) (asB m) := by
  intro as0 H0 σ δ μ0 st0 env0 Q w0
  refine h as0 H0 σ δ μ0 st0 env0 _ ((want_bind (R1 := Rel c) w0).imp ?_)
  rintro v H ⟨as, μ, x, e0, st, r, w⟩
  have env := env0.mono e0
  split at w
  · cases r
    exact ⟨_, rfl, w _ as H .refl st rfl⟩
  · exact w.elim
theorem sim_tTest {t : TE} {m : M Dat} (h : SimE c W t m) : SimT c W (tTest t) (asB m) := sim_tB h
def mtNot (m : M Bool) : M Bool := fun δ μ => (m δ μ).bind fun b μ1 => .ok (!b) μ1
theorem sim_tNot {t : TT} {m : M Bool} (h : SimT c W t m) : SimT c W (tNot t) (mtNot m) := by
  intro as0 H0 σ δ μ0 st0 env0 Q w0
  refine h as0 H0 σ δ μ0 st0 env0 _ ((want_bind (R1 := fun _ _ b d => b = d) w0).imp ?_)
  rintro v H ⟨as, μ, x, e0, st, r, w⟩
  have env := env0.mono e0
  subst r
  exact w _ as H .refl st rfl
def mtAnd (a b : M Bool) : M Bool := fun δ μ => (a δ μ).bind fun k μ1 => if k = true then b δ μ1 else .ok false μ1
def mtOr (a b : M Bool) : M Bool := fun δ μ => (a δ μ).bind fun k μ1 => if k = true then .ok true μ1 else b δ μ1
theorem sim_tAnd {t u : TT} {a b : M Bool} (ha : SimT c W t a) (hb : SimT c W u b) : SimT c W (tAnd t u) (mtAnd a b) := by
  intro as0 H0 σ δ μ0 st0 env0 Q w0
  refine ha as0 H0 σ δ μ0 st0 env0 _ ((want_bind (R1 := fun _ _ b d => b = d) w0).imp ?_)
  rintro v H ⟨as, μ, x, e0, st, r, w⟩
  have env := env0.mono e0
  subst r
  cases v with
  | true => exact hb as H σ δ μ st env Q w
  | false => exact w _ as H .refl st rfl
theorem sim_tOr {t u : TT} {a b : M Bool} (ha : SimT c W t a) (hb : SimT c W u b) : SimT c W (tOr t u) (mtOr a b) := by
  intro as0 H0 σ δ μ0 st0 env0 Q w0
  refine ha as0 H0 σ δ μ0 st0 env0 _ ((want_bind (R1 := fun _ _ b d => b = d) w0).imp ?_)
  rintro v H ⟨as, μ, x, e0, st, r, w⟩
  have env := env0.mono e0
  subst r
  cases v with
  | true => exact w _ as H .refl st rfl
  | false => exact hb as H σ δ μ st env Q w
def mAnd (a b : M Dat) : M Dat := fun δ μ => (a δ μ).bind fun k μ1 => match k with
  | .bl true => b δ μ1
  | .bl false => .ok (.bl false) μ1
  | _ => .stuck
def mOr (a b : M Dat) : M Dat := fun δ μ => (a δ μ).bind fun k μ1 => match k with
  | .bl true => .ok (.bl true) μ1
  | .bl false => b δ μ1
  | _ => .stuck
theorem sim_and {t u : TE} {a b : M Dat} (ha : SimE c W t a) (hb : SimE c W u b) : SimE c W (tAndV t u) (mAnd a b) := by
  intro as0 H0 σ δ μ0 st0 env0 Q w0
  refine ha as0 H0 σ δ μ0 st0 env0 _ ((want_bind (R1 := Rel c) w0).imp ?_)
  rintro v H ⟨as, μ, x, e0, st, r, w⟩
  have env := env0.mono e0
  split at w
  · cases r
    exact ⟨_, rfl, hb as H σ δ μ st env Q w⟩
  · cases r
    exact ⟨_, rfl, w _ as H .refl st (.bl _)⟩
  · exact w.elim
theorem sim_or {t u : TE} {a b : M Dat} (ha : SimE c W t a) (hb : SimE c W u b) : SimE c W (tOrV t u) (mOr a b) := by
  intro as0 H0 σ δ μ0 st0 env0 Q w0
  refine ha as0 H0 σ δ μ0 st0 env0 _ ((want_bind (R1 := Rel c) w0).imp ?_)
  rintro v H ⟨as, μ, x, e0, st, r, w⟩
  have env := env0.mono e0
  split at w
  · cases r
    exact ⟨_, rfl, w _ as H .refl st (.bl _)⟩
  · cases r
    exact ⟨_, rfl, hb as H σ δ μ st env Q w⟩
  · exact w.elim
def mNot (a : M Dat) : M Dat := fun δ μ => (a δ μ).bind fun k μ1 => match k with
  | .bl b => .ok (.bl (!b)) μ1
  | _ => .stuck
theorem sim_not {t : TE} {a : M Dat} (ha : SimE c W t a) : SimE c W (tNotV t) (mNot a) := by
  intro as0 H0 σ δ μ0 st0 env0 Q w0
  refine ha as0 H0 σ δ μ0 st0 env0 _ ((want_bind (R1 := Rel c) w0).imp ?_)
  rintro v H ⟨as, μ, x, e0, st, r, w⟩
  have env := env0.mono e0
  split at w
  · cases r
    exact ⟨_, rfl, w _ as H .refl st (.bl _)⟩
  · exact w.elim
def mIf (q : M Bool) (a b : M α) : M α := fun δ μ => (q δ μ).bind fun k μ1 => if k = true then a δ μ1 else b δ μ1
theorem sim_if {q : TT} {t u : TE} {mq : M Bool} {a b : M Dat} (hq : SimT c W q mq) (ha : SimE c W t a) (hb : SimE c W u b) : SimE c W (tIf q t u) (mIf mq a b) := by
  intro as0 H0 σ δ μ0 st0 env0 Q w0
  refine hq as0 H0 σ δ μ0 st0 env0 _ ((want_bind (R1 := fun _ _ b d => b = d) w0).imp ?_)
  rintro v H ⟨as, μ, x, e0, st, r, w⟩
  have env := env0.mono e0
  subst r
  cases v with
  | true => exact ha as H σ δ μ st env Q w
  | false => exact hb as H σ δ μ st env Q w
/-- what a value is worth as a test -/
def truD (μ : Store) : Dat → Option Bool
  | .non => some false
  | .bl b => some b
  | .int i => some (i != 0)
  | .str y => if y.length ≤ sizeLine then some ((y.length : Int) != 0) else none
  | .tup ds => some (!ds.isEmpty)
  | .ro ns => some (!ns.isEmpty)
  | .ct ds => some (!ds.isEmpty)
  | .cell k => match μ[k]? with
    | some (.lst ds) => some (!ds.isEmpty)
    | some (.dict kvs) => some (!kvs.isEmpty)
    | _ => none
  | _ => none
theorem RelAll.isEmpty {vs : List V} {ds : List Dat} (h : RelAll c as H vs ds) : vs.isEmpty = ds.isEmpty := by
  cases h <;> rfl
theorem truV_of {v : V} {d : Dat} {b : Bool} (st : StH c as H μ) (r : Rel c as H v d) (h : truD μ d = some b) : TruV c.K v H b := by
  cases r with
  | non => exact (Option.some.inj h).symm
  | bl k => exact (Option.some.inj h).symm
  | int i => exact (Option.some.inj h).symm
  | str y =>
    dsimp only [truD] at h
    split at h
    · rename_i hy
      exact ⟨hy, (Option.some.inj h).symm⟩
    · cases h
  | tup ht ra =>
    refine .inr (.inl ⟨_, ht.sq, ?_⟩)
    rw [ra.isEmpty]
    exact (Option.some.inj h).symm
  | ro hl =>
    refine .inl ⟨_, hl.sq, ?_⟩
    rw [← Option.some.inj h, List.isEmpty_map]
  | @cell k a ha =>
    dsimp only [truD] at h
    split at h
    · rename_i ds hk
      obtain ⟨xs, h1, h2⟩ := st.cell_at hk ha
      refine .inl ⟨xs, SqL.of h1, ?_⟩
      rw [h2.isEmpty]
      exact (Option.some.inj h).symm
    · rename_i kvs hk
      obtain ⟨ps, h1, h2⟩ := st.cell_at hk ha
      refine .inr (.inr ⟨ps, h1, ?_⟩)
      rw [← Option.some.inj h]
      cases h2 <;> rfl
    · cases h
  | ty n => cases h
  | cls n => cases h
  | ct ht ra =>
    refine .inr (.inl ⟨_, ht.sq, ?_⟩)
    rw [ra.isEmpty]
    exact (Option.some.inj h).symm
def mTru (m : M Dat) : M Bool := fun δ μ => (m δ μ).bind fun d μ1 => match truD μ1 d with
  | some b => .ok b μ1
  | none => .stuck
theorem sim_truth {t : TE} {m : M Dat} (h : SimE c W t m) : SimT c W (fun σ H Q => t σ H fun x H' => ∃ k, TruV c.K x H' k ∧ Q k H') (mTru m) := by
  intro as0 H0 σ δ μ0 st0 env0 Q w0
  refine h as0 H0 σ δ μ0 st0 env0 _ ((want_bind (R1 := Rel c) w0).imp ?_)
  rintro v H ⟨as, μ, x, e0, st, r, w⟩
  have env := env0.mono e0
  split at w
  · rename_i b hb
    exact ⟨b, truV_of st r hb, w _ as H .refl st rfl⟩
  · exact w.elim
def mChain (f g : F2) (a b d : M Dat) : M Dat := fun δ μ => (a δ μ).bind fun x μ1 => (b δ μ1).bind fun y μ2 => (f x y μ2).bind fun k μ3 => match k with
  | .bl true => (d δ μ3).bind fun z μ4 => g y z μ4
  | .bl false => .ok (.bl false) μ3
  | _ => .stuck
theorem sim_chain {r r' : R2} {f g : F2} {ta tb tc : TE} {a b d : M Dat} (hr : SimR c r f) (hr' : SimR c r' g) (ha : SimE c W ta a) (hb : SimE c W tb b) (hd : SimE c W tc d) : SimE c W (tChain r r' ta tb tc) (mChain f g a b d) := by
  intro as H σ δ μ st env Q w
  refine ha as H σ δ μ st env _ ((want_bind (R1 := Rel c) w).imp ?_)
  rintro v H1 ⟨as1, μ1, x, e, s1, rx, w1⟩
  refine hb as1 H1 σ δ μ1 s1 (env.mono e) _ ((want_bind (R1 := Rel c) w1).imp ?_)
  rintro u H2 ⟨as2, μ2, y, e2, s2, ry, w2⟩
  refine hr as2 H2 μ2 v u x y s2 (rx.mono e2) ry σ W _ ((want_bind (R1 := Rel c) w2).imp ?_)
  rintro z H3 ⟨as3, μ3, k, e3, s3, rz, w3⟩
  split at w3
  · cases rz
    refine ⟨true, rfl, iteT ?_⟩
    refine hd as3 H3 σ δ μ3 s3 ((env.mono e).mono (e2.trans e3)) _ ((want_bind (R1 := Rel c) w3).imp ?_)
    rintro z H4 ⟨as4, μ4, z', e4, s4, rz', w4⟩
    exact hr' as4 H4 μ4 u z y z' s4 (ry.mono (e3.trans e4)) rz' σ W Q w4
  · cases rz
    exact ⟨false, rfl, iteF (w3 _ as3 H3 .refl s3 (.bl _))⟩
  · exact w3.elim

/-! ### arguments, displays -/
def maNil : M (List Dat) := fun _ μ => .ok [] μ
def maCons (a : M Dat) (r : M (List Dat)) : M (List Dat) := fun δ μ => (a δ μ).bind fun x μ1 => (r δ μ1).bind fun xs μ2 => .ok (x :: xs) μ2
theorem sim_nil : SimA c W tNil maNil := fun as H σ δ μ st env Q w => w [] as H .refl st .nil
theorem sim_cons {ta : TE} {tr : TA} {a : M Dat} {r : M (List Dat)} (ha : SimE c W ta a) (hr : SimA c W tr r) : SimA c W (tCons ta tr) (maCons a r) := by
  intro as H σ δ μ st env Q w
  refine ha as H σ δ μ st env _ ((want_bind (R1 := Rel c) w).imp ?_)
  rintro v H1 ⟨as1, μ1, x, e, s1, rx, w1⟩
  refine hr as1 H1 σ δ μ1 s1 (env.mono e) _ ((want_bind (R1 := RelAll c) w1).imp ?_)
  rintro vs H2 ⟨as2, μ2, xs, e2, s2, rxs, w2⟩
  exact w2 _ as2 H2 .refl s2 (.cons (rx.mono e2) rxs)
def mTup (a : M (List Dat)) : M Dat := fun δ μ => (a δ μ).bind fun ds μ1 => if ds.length ≤ sizeLine then .ok (.tup ds) μ1 else .stuck
theorem sim_tup {t : TA} {a : M (List Dat)} (h : SimA c W t a) : SimE c W (tTup t) (mTup a) := by
  intro as0 H0 σ δ μ0 st0 env0 Q w0
  refine h as0 H0 σ δ μ0 st0 env0 _ ((want_bind (R1 := RelAll c) w0).imp ?_)
  rintro vs H ⟨as, μ, ds, e0, st, r, w⟩
  have env := env0.mono e0
  by_cases hz : ds.length ≤ sizeLine
  · rw [if_pos hz] at w
    exact ⟨by rw [r.length]; exact hz, fun p hp => w _ as _ (ext_new hp) (st.tup hp) (.tup upd_same (r.mono (ext_new hp)))⟩
  · rw [if_neg hz] at w
    exact w.elim
def allocR (x : Cell) (μ : Store) : Res Dat := .ok (.cell μ.length) (μ ++ [x])
def mLst (a : M (List Dat)) : M Dat := fun δ μ => (a δ μ).bind fun ds μ1 => if ds.length ≤ sizeLine then allocR (.lst ds) μ1 else .stuck
theorem sim_lst {t : TA} {a : M (List Dat)} (h : SimA c W t a) : SimE c W (tLst t) (mLst a) := by
  intro as0 H0 σ δ μ0 st0 env0 Q w0
  refine h as0 H0 σ δ μ0 st0 env0 _ ((want_bind (R1 := RelAll c) w0).imp ?_)
  rintro vs H ⟨as, μ, ds, e0, st, r, w⟩
  have env := env0.mono e0
  by_cases hz : ds.length ≤ sizeLine
  · rw [if_pos hz] at w
    exact ⟨by rw [r.length]; exact hz, fun p hp => w _ _ _ (ext_alloc hp) (st.alloc hp ⟨vs, upd_same, r.mono (ext_alloc hp)⟩) (rel_alloc st)⟩
  · rw [if_neg hz] at w
    exact w.elim
def mDNew : M Dat := fun _ μ => allocR (.dict []) μ
theorem sim_dnew : SimE c W tDNewK mDNew := fun as H σ δ μ st env Q w => fun p hp => w _ _ _ (ext_alloc hp) (st.alloc hp ⟨[], upd_same, .nil⟩) (rel_alloc st)
/-- a key -/
def keyD : Dat → Option Key
  | .int i => some (.inl i)
  | .str s => some (.inr s)
  | _ => none
theorem keyD_of {v : V} {d : Dat} {k : Key} (r : Rel c as H v d) (h : keyD d = some k) : v = kV k := by
  cases r <;> first | (cases h; rfl) | cases h
def lookD (kvs : List (Key × Dat)) (k : Key) : Option Dat := (kvs.find? fun kv => decide (kv.1 = k)).map (·.2)
def putD (kvs : List (Key × Dat)) (k : Key) (v : Dat) : List (Key × Dat) :=
  if (kvs.any fun kv => decide (kv.1 = k)) = true then kvs.map (fun kv => if kv.1 = k then (kv.1, v) else kv) else kvs ++ [(k, v)]
def mergeD (kvs more : List (Key × Dat)) : List (Key × Dat) := more.foldl (fun acc kv => putD acc kv.1 kv.2) kvs
theorem RelKV.any {ps : List (Key × V)} {kvs : List (Key × Dat)} (r : RelKV c as H ps kvs) (k : Key) : (ps.any fun kv => decide (kv.1 = k)) = kvs.any fun kv => decide (kv.1 = k) := by
  induction r with
  | nil => rfl
  | cons h t ih => rw [List.any_cons, List.any_cons, h.1, ih]
theorem RelKV.look {ps : List (Key × V)} {kvs : List (Key × Dat)} (r : RelKV c as H ps kvs) {k : Key} {d : Dat} (h : lookD kvs k = some d) : ∃ v, valV ps k = some v ∧ Rel c as H v d := by
  induction r with
  | nil => cases h
  | @cons p q ps qs h1 t ih =>
    unfold lookD at h
    rw [List.find?_cons] at h
    by_cases e : q.1 = k
    · rw [decide_eq_true e] at h
      cases h
      exact ⟨p.2, valV_pos (h1.1.trans e), h1.2⟩
    · rw [decide_eq_false e] at h
      obtain ⟨v, h2, h3⟩ := ih h
      exact ⟨v, by rw [valV_neg (by rw [h1.1]; exact e)]; exact h2, h3⟩
theorem RelKV.lookN {ps : List (Key × V)} {kvs : List (Key × Dat)} (r : RelKV c as H ps kvs) {k : Key} (h : lookD kvs k = none) : valV ps k = none := by
  induction r with
  | nil => rfl
  | @cons p q ps qs h1 t ih =>
    unfold lookD at h
    rw [List.find?_cons] at h
    by_cases e : q.1 = k
    · rw [decide_eq_true e] at h
      cases h
    · rw [decide_eq_false e] at h
      rw [valV_neg (by rw [h1.1]; exact e)]
      exact ih h
theorem Paired.append_ {α β : Type} {F : α → β → Prop} : ∀ {l l' : List α} {m m' : List β}, Paired F l m → Paired F l' m' → Paired F (l ++ l') (m ++ m')
  | _, _, _, _, .nil, s => s
  | _, _, _, _, .cons r t, s => .cons r (Paired.append_ t s)
theorem RelKV.put {ps : List (Key × V)} {kvs : List (Key × Dat)} (r : RelKV c as H ps kvs) {k : Key} {v : V} {d : Dat} (h : Rel c as H v d) : RelKV c as H (putK ps k v) (putD kvs k d) := by
  unfold putK putD
  rw [r.any k]
  by_cases e : (kvs.any fun kv => decide (kv.1 = k)) = true
  · rw [if_pos e, if_pos e]
    clear e
    induction r with
    | nil => exact .nil
    | @cons p q ps qs h1 t ih =>
      refine .cons ?_ ih
      show (if p.1 = k then (p.1, v) else p).1 = (if q.1 = k then (q.1, d) else q).1 ∧ Rel c as H (if p.1 = k then (p.1, v) else p).2 (if q.1 = k then (q.1, d) else q).2
      by_cases z : q.1 = k
      · rw [if_pos (h1.1.trans z), if_pos z]
        exact ⟨h1.1, h⟩
      · rw [if_neg (show ¬ p.1 = k by rw [h1.1]; exact z), if_neg z]
        exact h1
  · rw [if_neg e, if_neg e]
    exact Paired.append_ r (.cons ⟨rfl, h⟩ .nil)
theorem RelKV.merge : ∀ {more : List (Key × V)} {mD : List (Key × Dat)} {ps : List (Key × V)} {kvs : List (Key × Dat)}, RelKV c as H more mD → RelKV c as H ps kvs → RelKV c as H (mergeK ps more) (mergeD kvs mD)
  | _, _, _, _, .nil, r => r
  | _, _, ps, kvs, @Paired.cons _ _ _ p q _ _ h t, r => by
    have z := RelKV.merge t (RelKV.put r (k := p.1) h.2)
    show RelKV c as H (mergeK (putK ps p.1 p.2) _) (mergeD (putD kvs q.1 q.2) _)
    rw [← h.1]
    exact z
theorem RelKV.length {ps : List (Key × V)} {kvs : List (Key × Dat)} (r : RelKV c as H ps kvs) : ps.length = kvs.length := Paired.length r
def mPairs : List (M Dat × M Dat) → M (List (Key × Dat))
  | [] => fun _ μ => .ok [] μ
  | (a, b) :: r => fun δ μ => (a δ μ).bind fun x μ1 => (b δ μ1).bind fun y μ2 => (mPairs r δ μ2).bind fun kvs μ3 => match keyD x with
    | some k => .ok ((k, y) :: kvs) μ3
    | none => .stuck
def RelPs (c : Cfg) (as : List Addr) (H : Hp) (ps : List (V × V)) (kvs : List (Key × Dat)) : Prop := ∃ qs : List (Key × V), ps = qs.map (fun kv => (kV kv.1, kv.2)) ∧ RelKV c as H qs kvs
def SimPs (c : Cfg) (W : WX) (trs : List (TE × TE)) (ms : List (M Dat × M Dat)) : Prop := Sim c W (RelPs c) (tPairs trs) (mPairs ms)
theorem simp_nil : SimPs c W [] [] := fun as H σ δ μ st env Q w => w [] as H .refl st ⟨[], rfl, .nil⟩
theorem simp_cons {tk tv : TE} {trs : List (TE × TE)} {a b : M Dat} {ms : List (M Dat × M Dat)} (ha : SimE c W tk a) (hb : SimE c W tv b) (hr : SimPs c W trs ms) : SimPs c W ((tk, tv) :: trs) ((a, b) :: ms) := by
  intro as H σ δ μ st env Q w
  refine ha as H σ δ μ st env _ ((want_bind (R1 := Rel c) w).imp ?_)
  rintro v H1 ⟨as1, μ1, x, e, s1, rx, w1⟩
  refine hb as1 H1 σ δ μ1 s1 (env.mono e) _ ((want_bind (R1 := Rel c) w1).imp ?_)
  rintro u H2 ⟨as2, μ2, y, e2, s2, ry, w2⟩
  refine hr as2 H2 σ δ μ2 s2 ((env.mono e).mono e2) _ ((want_bind (R1 := RelPs c) w2).imp ?_)
  rintro ps H3 ⟨as3, μ3, kvs, e3, s3, ⟨qs, eq, rq⟩, w3⟩
  split at w3
  · rename_i k hk
    have ev := keyD_of rx hk
    subst ev
    refine w3 _ as3 H3 .refl s3 ⟨(k, u) :: qs, ?_, .cons ⟨rfl, ry.mono e3⟩ rq⟩
    rw [List.map_cons, eq]
  · exact w3.elim
def mDisp (ms : List (M Dat × M Dat)) : M Dat := fun δ μ => (mPairs ms δ (μ ++ [.dict []])).bind fun kvs μ1 => match μ1[μ.length]? with
  | some (.dict []) => if kvs.length ≤ 15 then .ok (.cell μ.length) (μ1.set μ.length (.dict (mergeD [] kvs))) else .stuck
  | _ => .stuck
theorem sim_disp {trs : List (TE × TE)} {ms : List (M Dat × M Dat)} (h : SimPs c W trs ms) : SimE c W (tDisp trs) (mDisp ms) := by
  intro as H σ δ μ st env Q w p hp
  have s0 := st.alloc (o := .dK []) (x := .dict []) hp ⟨[], upd_same, .nil⟩
  have e0 : Ext as H (as ++ [p]) (upd H p (.dK [])) := ext_alloc hp
  have a0 : (as ++ [p])[μ.length]? = some p := by rw [← st.len, List.getElem?_concat_length]
  refine h _ _ σ δ _ s0 (env.mono e0) _ ((want_bind (R1 := RelPs c) (Want.mono e0 w)).imp ?_)
  rintro ps H2 ⟨as2, μ2, kvs, e2, s2, ⟨qs, eq, rq⟩, w2⟩
  split at w2
  · rename_i hk
    have ha := e2.pre _ _ a0
    obtain ⟨xs, h1, h2⟩ := s2.cell_at hk ha
    have hx : xs = [] := by cases h2; rfl
    subst hx
    by_cases hl : kvs.length ≤ 15
    · rw [if_pos hl] at w2
      have ee := ext_set (o := .dK (mergeK [] qs)) s2 hk ha
      refine ⟨h1, qs, eq, by rw [rq.length]; exact hl, ?_⟩
      exact w2 _ as2 _ ee (s2.set hk ha ⟨_, upd_same, RelKV.merge (rq.mono ee) .nil⟩) (.cell ha)
    · rw [if_neg hl] at w2
      exact w2.elim
  · exact w2.elim
/-! ### dicts read and written -/
def mDGet (a b : M Dat) : M Dat := fun δ μ => (a δ μ).bind fun x μ1 => (b δ μ1).bind fun y μ2 => match x, keyD y with
  | .cell k, some q => match μ2[k]? with
    | some (.dict kvs) => match lookD kvs q with
      | some d => .ok d μ2
      | none => .stuck
    | _ => .stuck
  | _, _ => .stuck
theorem sim_dget {td ty : TE} {a b : M Dat} (ha : SimE c W td a) (hb : SimE c W ty b) : SimE c W (tDGet td ty) (mDGet a b) := by
  intro as H σ δ μ st env Q w
  refine ha as H σ δ μ st env _ ((want_bind (R1 := Rel c) w).imp ?_)
  rintro v H1 ⟨as1, μ1, x, e, s1, rx, w1⟩
  refine hb as1 H1 σ δ μ1 s1 (env.mono e) _ ((want_bind (R1 := Rel c) w1).imp ?_)
  rintro u H2 ⟨as2, μ2, y, e2, s2, ry, w2⟩
  split at w2
  · rename_i k q hq
    split at w2
    · rename_i kvs hk
      split at w2
      · rename_i d hd
        have rx2 := rx.mono e2
        cases rx2 with
        | cell ha2 =>
          obtain ⟨ps, h1, h2⟩ := s2.cell_at hk ha2
          obtain ⟨v', h3, h4⟩ := h2.look hd
          have ev := keyD_of ry hq
          subst ev
          refine ⟨_, v', rfl, ?_, w2 _ as2 H2 .refl s2 h4⟩
          rw [← h3]
          exact DGet.k h1
      · exact w2.elim
    · exact w2.elim
  · exact w2.elim

/-! ### subscripts, slices -/
def ixD {α : Type} (xs : List α) (i : Int) : Option α := atI xs i
def lstAt (μ : Store) : Dat → Option (List Dat)
  | .cell k => match μ[k]? with
    | some (.lst ds) => some ds
    | _ => none
  | .ro ns => some (ns.map Dat.int)
  | _ => none
theorem relInts : ∀ ns : List Int, RelAll c as H (ns.map V.int) (ns.map Dat.int)
  | [] => .nil
  | n :: r => .cons (.int n) (relInts r)
theorem lstAt_of {v : V} {d : Dat} {ds : List Dat} (st : StH c as H μ) (r : Rel c as H v d) (h : lstAt μ d = some ds) : ∃ a xs, v = .ref a ∧ SqL c.K H a xs ∧ RelAll c as H xs ds := by
  unfold lstAt at h
  split at h
  · split at h
    · rename_i k ds' hk
      cases h
      cases r with
      | cell ha =>
        obtain ⟨xs, h1, h2⟩ := st.cell_at hk ha
        exact ⟨_, xs, rfl, SqL.of h1, h2⟩
    · cases h
  · cases h
    cases r with
    | ro hl => exact ⟨_, _, rfl, hl.sq, relInts _⟩
  · cases h
theorem atI_rel {vs : List V} {ds : List Dat} {i : Int} {d : Dat} (r : RelAll c as H vs ds) (h : atI ds i = some d) : ∃ v, atI vs i = some v ∧ Rel c as H v d := by
  unfold atI at h ⊢
  rw [r.length]
  cases e : ixN ds.length i with
  | none => rw [e] at h; cases h
  | some j =>
    rw [e] at h
    exact r.get h
def fIxL : F2 := fun x y μ => match lstAt μ x, y with
  | some ds, .int i => match atI ds i with
    | some d => .ok d μ
    | none => .stuck
  | _, _ => .stuck
theorem simr_ixL : SimR c (rIxL c.K) fIxL := by
  intro as H μ v w x y st rx ry σ W Q h
  unfold fIxL at h
  split at h
  · rename_i ds i hd
    split at h
    · rename_i d he
      cases ry
      obtain ⟨a, xs, rfl, h1, h2⟩ := lstAt_of st rx hd
      obtain ⟨u, h3, h4⟩ := atI_rel h2 he
      exact ⟨a, xs, i, u, rfl, rfl, h1, h3, h _ as H .refl st h4⟩
    · exact h.elim
  · exact h.elim
def fIxT : F2 := fun x y μ => match x, y with
  | .tup ds, .int i => match atI ds i with
    | some d => .ok d μ
    | none => .stuck
  | .ct ds, .int i => match atI ds i with
    | some d => .ok d μ
    | none => .stuck
  | _, _ => .stuck
theorem simr_ixT : SimR c (rIxT c.K) fIxT := by
  intro as H μ v w x y st rx ry σ W Q h
  unfold fIxT at h
  split at h
  · rename_i ds i
    split at h
    · rename_i d he
      cases ry
      cases rx with
      | tup h1 h2 =>
        obtain ⟨u, h3, h4⟩ := atI_rel h2 he
        exact ⟨_, _, i, u, rfl, rfl, h1.sq, h3, h _ as H .refl st h4⟩
    · exact h.elim
  · rename_i ds i
    split at h
    · rename_i d he
      cases ry
      cases rx with
      | ct h1 h2 =>
        obtain ⟨u, h3, h4⟩ := atI_rel h2 he
        exact ⟨_, _, i, u, rfl, rfl, h1.sq, h3, h _ as H .refl st h4⟩
    · exact h.elim
  · exact h.elim
def fIxS : F2 := fun x y μ => match x, y with
  | .str z, .int i => if z.length ≤ sizeLine then match atI z.cps.toList i with
    | some q => .ok (.str ⟨#[q]⟩) μ
    | none => .stuck else .stuck
  | _, _ => .stuck
theorem simr_ixS : SimR c rIxS fIxS := by
  intro as H μ v w x y st rx ry σ W Q h
  unfold fIxS at h
  split at h
  · rename_i z i
    split at h
    · rename_i hz
      split at h
      · rename_i q he
        cases ry
        cases rx
        exact ⟨z, i, q, rfl, rfl, hz, he, h _ as H .refl st (.str _)⟩
      · exact h.elim
    · exact h.elim
  · exact h.elim
abbrev F3 := Dat → Option Int → Option Int → Store → Res Dat
def moNone : M (Option Int) := fun _ μ => .ok none μ
def moPart (a : M Dat) : M (Option Int) := fun δ μ => (a δ μ).bind fun x μ1 => match x with
  | .int i => .ok (some i) μ1
  | _ => .stuck
abbrev SimO (c : Cfg) (W : WX) (t : TO) (m : M (Option Int)) : Prop := Sim c W (fun _ _ b d => b = d) t m
theorem sim_noPart : SimO c W tNoPart moNone := fun as H σ δ μ st env Q w => w _ as H .refl st rfl
theorem sim_part {t : TE} {a : M Dat} (h : SimE c W t a) : SimO c W (tPart t) (moPart a) := by
  intro as0 H0 σ δ μ0 st0 env0 Q w0
  refine h as0 H0 σ δ μ0 st0 env0 _ ((want_bind (R1 := Rel c) w0).imp ?_)
  rintro v H ⟨as, μ, x, e0, st, r, w⟩
  have env := env0.mono e0
  split at w
  · cases r
    exact ⟨_, rfl, w _ as H .refl st rfl⟩
  · exact w.elim
def SimSl (c : Cfg) (r : V → Option Int → Option Int → Hp → VK → Prop) (f : F3) : Prop :=
  ∀ as H μ v x lo hi, StH c as H μ → Rel c as H v x → ∀ σ W Q, Want c (Rel c) (f x lo hi μ) as H σ Q W → r v lo hi H Q
def mSl (f : F3) (a : M Dat) (l h : M (Option Int)) : M Dat := fun δ μ => (a δ μ).bind fun x μ1 => (l δ μ1).bind fun lo μ2 => (h δ μ2).bind fun hi μ3 => f x lo hi μ3
theorem sim_sl {r : V → Option Int → Option Int → Hp → VK → Prop} {f : F3} {te : TE} {tl th : TO} {a : M Dat} {l h : M (Option Int)} (hr : SimSl c r f) (ha : SimE c W te a) (hl : SimO c W tl l) (hh : SimO c W th h) : SimE c W (tSl r te tl th) (mSl f a l h) := by
  intro as H σ δ μ st env Q w
  refine ha as H σ δ μ st env _ ((want_bind (R1 := Rel c) w).imp ?_)
  rintro v H1 ⟨as1, μ1, x, e, s1, rx, w1⟩
  refine hl as1 H1 σ δ μ1 s1 (env.mono e) _ ((want_bind (R1 := fun _ _ b d => b = d) w1).imp ?_)
  rintro lo H2 ⟨as2, μ2, y, e2, s2, ry, w2⟩
  refine hh as2 H2 σ δ μ2 s2 ((env.mono e).mono e2) _ ((want_bind (R1 := fun _ _ b d => b = d) w2).imp ?_)
  rintro hi H3 ⟨as3, μ3, z, e3, s3, rz, w3⟩
  subst ry
  subst rz
  exact hr as3 H3 μ3 v x lo hi s3 (rx.mono (e2.trans e3)) σ W Q w3
def cutD {α : Type} (xs : List α) (lo hi : Option Int) : List α := (xs.drop (HT.sIx xs.length 0 lo)).take (HT.sIx xs.length xs.length hi - HT.sIx xs.length 0 lo)
theorem cut_rel {vs : List V} {ds : List Dat} (r : RelAll c as H vs ds) (lo hi : Option Int) : RelAll c as H (cutV vs lo hi) (cutD ds lo hi) := by
  unfold cutV cutD
  rw [r.length]
  exact (r.drop _).take _
def fSlS : F3 := fun x lo hi μ => match x with
  | .str z => if z.length ≤ sizeLine then .ok (.str (cutS z lo hi)) μ else .stuck
  | _ => .stuck
theorem sims_str : SimSl c rSlS fSlS := by
  intro as H μ v x lo hi st rx σ W Q h
  unfold fSlS at h
  split at h
  · split at h
    · rename_i hz
      cases rx
      exact ⟨_, rfl, hz, h _ as H .refl st (.str _)⟩
    · exact h.elim
  · exact h.elim
def fSlT : F3 := fun x lo hi μ => match x with
  | .tup ds => .ok (.tup (cutD ds lo hi)) μ
  | _ => .stuck
theorem cutD_whole {α : Type} {xs : List α} {lo hi : Option Int} (h : HT.sIx xs.length 0 lo = 0 ∧ HT.sIx xs.length xs.length hi = xs.length) : cutD xs lo hi = xs := by
  unfold cutD
  rw [h.1, h.2, List.drop_zero, Nat.sub_zero, List.take_length]
theorem sims_tup : SimSl c (rSlA c.K) fSlT := by
  intro as H μ v x lo hi st rx σ W Q h
  unfold fSlT at h
  split at h
  · cases rx with
    | @tup a xs ds h1 h2 =>
      refine ⟨a, xs, rfl, h1.sq, fun e => ?_, fun _ p hp => ?_⟩
      · rw [h2.length] at e
        rw [cutD_whole e] at h
        exact h _ as H .refl st (.tup h1 h2)
      · exact h _ as _ (ext_new hp) (st.tup hp) (.tup upd_same ((cut_rel h2 lo hi).mono (ext_new hp)))
  · exact h.elim
def fSlL : F3 := fun x lo hi μ => match lstAt μ x with
  | some ds => allocR (.lst (cutD ds lo hi)) μ
  | none => .stuck
theorem sims_lst : SimSl c (rSlL c.K) fSlL := by
  intro as H μ v x lo hi st rx σ W Q h
  unfold fSlL at h
  split at h
  · rename_i ds hd
    obtain ⟨a, xs, rfl, h1, h2⟩ := lstAt_of st rx hd
    exact ⟨a, xs, rfl, h1, fun p hp => h _ _ _ (ext_alloc hp) (st.alloc hp ⟨_, upd_same, (cut_rel h2 lo hi).mono (ext_alloc hp)⟩) (rel_alloc st)⟩
  · exact h.elim

/-! ### more operators -/
def fAddS : F2 := fun x y μ => match x, y with
  | .str i, .str j => if i.length + j.length ≤ sizeLine then .ok (.str (i ++ j)) μ else .stuck
  | _, _ => .stuck
theorem simr_addS : SimR c (fun x y H Q => ∃ i j, x = .str i ∧ y = .str j ∧ i.length + j.length ≤ sizeLine ∧ Q (.str (i ++ j)) H) fAddS := by
  intro as H μ v w x y st rx ry σ W Q h
  unfold fAddS at h
  split at h
  · split at h
    · rename_i hz
      cases rx
      cases ry
      exact ⟨_, _, rfl, rfl, hz, h _ as H .refl st (.str _)⟩
    · exact h.elim
  · exact h.elim
def fCatT : F2 := fun x y μ => match x, y with
  | .tup a, .tup b => if a.length + b.length ≤ sizeLine then .ok (.tup (a ++ b)) μ else .stuck
  | _, _ => .stuck
theorem simr_catT : SimR c (rCatA c.K) fCatT := by
  intro as H μ v w x y st rx ry σ W Q h
  unfold fCatT at h
  split at h
  · rename_i da db
    split at h
    · rename_i hz
      cases rx with
      | @tup a xs _ h1 h2 =>
        cases ry with
        | @tup b ys _ h3 h4 =>
          refine ⟨a, b, xs, ys, rfl, rfl, h1.sq, h3.sq, by rw [h2.length, h4.length]; exact hz, fun e => ?_, fun _ e => ?_, fun _ _ p hp => ?_⟩
          · subst e
            have hd : da = [] := by cases h2; rfl
            subst hd
            exact h _ as H .refl st (.tup h3 h4)
          · subst e
            have hd : db = [] := by cases h4; rfl
            subst hd
            rw [List.append_nil] at h
            exact h _ as H .refl st (.tup h1 h2)
          · exact h _ as _ (ext_new hp) (st.tup hp) (.tup upd_same ((h2.append h4).mono (ext_new hp)))
    · exact h.elim
  · exact h.elim
/-- two changeable lists joined -/
def celL (μ : Store) : Dat → Option (List Dat)
  | .cell k => match μ[k]? with
    | some (.lst ds) => some ds
    | _ => none
  | _ => none
theorem celL_of {v : V} {d : Dat} {ds : List Dat} (st : StH c as H μ) (r : Rel c as H v d) (h : celL μ d = some ds) : ∃ k a xs, d = .cell k ∧ v = .ref a ∧ μ[k]? = some (.lst ds) ∧ as[k]? = some a ∧ H a = some (.lst xs) ∧ RelAll c as H xs ds := by
  unfold celL at h
  split at h
  · split at h
    · rename_i ds' hk
      cases h
      cases r with
      | cell ha =>
        obtain ⟨xs, h1, h2⟩ := st.cell_at hk ha
        exact ⟨_, _, xs, rfl, rfl, hk, ha, h1, h2⟩
    · cases h
  · cases h
def fCat : F2 := fun x y μ => match celL μ x, celL μ y with
  | some a, some b => if a.length + b.length ≤ sizeLine then allocR (.lst (a ++ b)) μ else .stuck
  | _, _ => .stuck
theorem simr_cat : SimR c rCat fCat := by
  intro as H μ v w x y st rx ry σ W Q h
  unfold fCat at h
  split at h
  · rename_i da db ea eb
    split at h
    · rename_i hz
      obtain ⟨_, a, xs, _, rfl, _, _, h1, h2⟩ := celL_of st rx ea
      obtain ⟨_, b, ys, _, rfl, _, _, h3, h4⟩ := celL_of st ry eb
      exact ⟨a, b, xs, ys, rfl, rfl, h1, h3, by rw [h2.length, h4.length]; exact hz, fun p hp => h _ _ _ (ext_alloc hp) (st.alloc hp ⟨_, upd_same, (h2.append h4).mono (ext_alloc hp)⟩) (rel_alloc st)⟩
    · exact h.elim
  · exact h.elim
theorem RelAll.rep {vs : List V} {ds : List Dat} (r : RelAll c as H vs ds) : ∀ n : Nat, RelAll c as H (List.replicate n vs).flatten (List.replicate n ds).flatten
  | 0 => .nil
  | n + 1 => by
    rw [List.replicate_succ, List.replicate_succ, List.flatten_cons, List.flatten_cons]
    exact r.append (RelAll.rep r n)
def fRepT : F2 := fun x y μ => match x, y with
  | .tup ds, .int k => if ds.length ≠ 0 ∧ 2 ≤ k ∧ k ≤ 1000 ∧ ds.length ≤ 1000 then .ok (.tup (List.replicate k.toNat ds).flatten) μ else .stuck
  | _, _ => .stuck
theorem simr_repT : SimR c (rRepT c.K) fRepT := by
  intro as H μ v w x y st rx ry σ W Q h
  unfold fRepT at h
  split at h
  · split at h
    · rename_i hz
      cases ry
      cases rx with
      | @tup a xs ds h1 h2 =>
        have hl := h2.length
        refine ⟨a, _, xs, rfl, rfl, h1.sq, fun e => ?_, hz.2.1, hz.2.2.1, by omega, fun p hp => ?_⟩
        · subst e
          exact hz.1 (by rw [← hl]; rfl)
        · exact h _ as _ (ext_new hp) (st.tup hp) (.tup upd_same ((h2.rep _).mono (ext_new hp)))
    · exact h.elim
  · exact h.elim
end
end Nh

namespace Nh
open PySem PySem.Spec PyProof.Rows L2
section
variable {c : Cfg} {as as' : List Addr} {H H' : Hp} {σ : L2.St} {δ : Env} {μ : Store} {α β γ ε : Type} {W : WX}
/-! ### built-in calls -/
abbrev FA := List Dat → Store → Res Dat
def SimC (c : Cfg) (r : List V → Hp → VK → Prop) (f : FA) : Prop :=
  ∀ as H μ vs ds, StH c as H μ → RelAll c as H vs ds → ∀ σ W Q, Want c (Rel c) (f ds μ) as H σ Q W → r vs H Q
def mCB (f : FA) (a : M (List Dat)) : M Dat := fun δ μ => (a δ μ).bind fun ds μ1 => f ds μ1
theorem sim_cb {r : List V → Hp → VK → Prop} {f : FA} {t : TA} {a : M (List Dat)} (hr : SimC c r f) (h : SimA c W t a) : SimE c W (tCB r t) (mCB f a) := by
  intro as H σ δ μ st env Q w
  refine h as H σ δ μ st env _ ((want_bind (R1 := RelAll c) w).imp ?_)
  rintro vs H1 ⟨as1, μ1, ds, e, s1, rs, w1⟩
  exact hr as1 H1 μ1 vs ds s1 rs σ W Q w1
theorem rel1 {vs : List V} {d : Dat} (r : RelAll c as H vs [d]) : ∃ v, vs = [v] ∧ Rel c as H v d := by
  cases r with
  | cons h t => cases t; exact ⟨_, rfl, h⟩
theorem rel2 {vs : List V} {d e : Dat} (r : RelAll c as H vs [d, e]) : ∃ v w, vs = [v, w] ∧ Rel c as H v d ∧ Rel c as H w e := by
  cases r with
  | cons h t =>
    cases t with
    | cons h2 t2 => cases t2; exact ⟨_, _, rfl, h, h2⟩
def lenD (μ : Store) (d : Dat) : Option Nat := match d with
  | .str y => if y.length ≤ sizeLine then some y.length else none
  | .tup ds => some ds.length
  | .ct ds => some ds.length
  | d => (lstAt μ d).map List.length
theorem lenD_of {v : V} {d : Dat} {n : Nat} (st : StH c as H μ) (r : Rel c as H v d) (h : lenD μ d = some n) : LenV c.K v H n := by
  unfold lenD at h
  split at h
  · split at h
    · rename_i hy
      cases r
      exact ⟨hy, (Option.some.inj h).symm⟩
    · cases h
  · cases r with
    | tup h1 h2 => exact .inr ⟨_, h1.sq, by rw [h2.length]; exact (Option.some.inj h).symm⟩
  · cases r with
    | ct h1 h2 => exact .inr ⟨_, h1.sq, by rw [h2.length]; exact (Option.some.inj h).symm⟩
  · cases hd : lstAt μ d with
    | none => rw [hd] at h; cases h
    | some ds =>
      rw [hd] at h
      obtain ⟨a, xs, rfl, h1, h2⟩ := lstAt_of st r hd
      exact .inl ⟨xs, h1, by rw [h2.length]; exact (Option.some.inj h).symm⟩
def fLen : FA := fun ds μ => match ds with
  | [d] => match lenD μ d with
    | some n => .ok (.int n) μ
    | none => .stuck
  | _ => .stuck
theorem simc_len : SimC c (fun xs H Q => ∃ x n, xs = [x] ∧ LenV c.K x H n ∧ Q (.int n) H) fLen := by
  intro as H μ vs ds st rs σ W Q h
  unfold fLen at h
  split at h
  · split at h
    · rename_i n hn
      obtain ⟨v, rfl, r⟩ := rel1 rs
      exact ⟨v, n, rfl, lenD_of st r hn, h _ as H .refl st (.int _)⟩
    · exact h.elim
  · exact h.elim
def seqD (μ : Store) (d : Dat) : Option (List Dat) := match d with
  | .tup ds => some ds
  | .ct ds => some ds
  | d => lstAt μ d
theorem seqD_of {v : V} {d : Dat} {ds : List Dat} (st : StH c as H μ) (r : Rel c as H v d) (h : seqD μ d = some ds) : ∃ a xs, v = .ref a ∧ (SqL c.K H a xs ∨ SqT c.K H a xs) ∧ RelAll c as H xs ds := by
  unfold seqD at h
  split at h
  · cases h
    cases r with
    | tup h1 h2 => exact ⟨_, _, rfl, .inr h1.sq, h2⟩
  · cases h
    cases r with
    | ct h1 h2 => exact ⟨_, _, rfl, .inr h1.sq, h2⟩
  · obtain ⟨a, xs, e, h1, h2⟩ := lstAt_of st r h
    exact ⟨a, xs, e, .inl h1, h2⟩
def fLenQ : FA := fun ds μ => match ds with
  | [d] => match seqD μ d with
    | some es => .ok (.int es.length) μ
    | none => .stuck
  | _ => .stuck
theorem simc_lenQ : SimC c (fun xs H Q => ∃ p ys, xs = [.ref p] ∧ (SqL c.K H p ys ∨ SqT c.K H p ys) ∧ Q (.int ys.length) H) fLenQ := by
  intro as H μ vs ds st rs σ W Q h
  unfold fLenQ at h
  split at h
  · split at h
    · rename_i es hn
      obtain ⟨v, rfl, r⟩ := rel1 rs
      obtain ⟨a, xs, rfl, h1, h2⟩ := seqD_of st r hn
      refine ⟨a, xs, rfl, h1, ?_⟩
      rw [h2.length]
      exact h _ as H .refl st (.int _)
    · exact h.elim
  · exact h.elim
def blsD : List Dat → Option (List Bool)
  | [] => some []
  | .bl b :: r => (blsD r).map (b :: ·)
  | _ :: _ => none
theorem blsD_of : ∀ {ds : List Dat} {bs : List Bool} {vs : List V}, blsD ds = some bs → RelAll c as H vs ds → vs = bs.map V.bl
  | [], _, _, h, r => by cases h; cases r; rfl
  | .bl b :: ds, bs, _, h, r => by
    cases r with
    | cons h1 t =>
      cases h1
      unfold blsD at h
      cases e : blsD ds with
      | none => rw [e] at h; cases h
      | some q =>
        rw [e] at h
        cases h
        rw [blsD_of e t]
        rfl
  | .non :: _, _, _, h, _ => by cases h
  | .int _ :: _, _, _, h, _ => by cases h
  | .str _ :: _, _, _, h, _ => by cases h
  | .tup _ :: _, _, _, h, _ => by cases h
  | .cell _ :: _, _, _, h, _ => by cases h
  | .ro _ :: _, _, _, h, _ => by cases h
  | .ty _ :: _, _, _, h, _ => by cases h
  | .cls _ :: _, _, _, h, _ => by cases h
  | .ct _ :: _, _, _, h, _ => by cases h
def fAll : FA := fun ds μ => match ds with
  | [d] => match (lstAt μ d).bind blsD with
    | some bs => .ok (.bl (bs.all id)) μ
    | none => .stuck
  | _ => .stuck
def fAny : FA := fun ds μ => match ds with
  | [d] => match (lstAt μ d).bind blsD with
    | some bs => .ok (.bl (bs.any id)) μ
    | none => .stuck
  | _ => .stuck
theorem simc_all : SimC c (rAll c.K) fAll := by
  intro as H μ vs ds st rs σ W Q h
  unfold fAll at h
  split at h
  · rename_i d
    split at h
    · rename_i bs hb
      obtain ⟨v, rfl, r⟩ := rel1 rs
      cases hd : lstAt μ d with
      | none => rw [hd] at hb; cases hb
      | some es =>
        rw [hd] at hb
        obtain ⟨a, xs, rfl, h1, h2⟩ := lstAt_of st r hd
        have e := blsD_of hb h2
        subst e
        exact ⟨a, bs, rfl, h1, h _ as H .refl st (.bl _)⟩
    · exact h.elim
  · exact h.elim
theorem simc_any : SimC c (rAny c.K) fAny := by
  intro as H μ vs ds st rs σ W Q h
  unfold fAny at h
  split at h
  · rename_i d
    split at h
    · rename_i bs hb
      obtain ⟨v, rfl, r⟩ := rel1 rs
      cases hd : lstAt μ d with
      | none => rw [hd] at hb; cases hb
      | some es =>
        rw [hd] at hb
        obtain ⟨a, xs, rfl, h1, h2⟩ := lstAt_of st r hd
        have e := blsD_of hb h2
        subst e
        exact ⟨a, bs, rfl, h1, h _ as H .refl st (.bl _)⟩
    · exact h.elim
  · exact h.elim
/-- the built-in type of a datum -/
def kindD (μ : Store) : Dat → Option String
  | .non => some "NoneType"
  | .bl _ => some "bool"
  | .int _ => some "int"
  | .str _ => some "str"
  | .tup _ => some "tuple"
  | .ct _ => some "tuple"
  | .ro _ => some "list"
  | .cell k => match μ[k]? with
    | some (.lst _) => some "list"
    | some (.dict _) => some "dict"
    | _ => none
  | _ => none
theorem kindD_of {v : V} {d : Dat} {n : String} (st : StH c as H μ) (r : Rel c as H v d) (h : kindD μ d = some n) : TyX c.K H v (.type n) := by
  cases r with
  | non => cases h; exact .base .non
  | bl b => cases h; exact .base (.bl b)
  | int i => cases h; exact .base (.int i)
  | str y => cases h; exact .base (.str y)
  | tup h1 h2 =>
    cases h
    exact .base (.tup h1)
  | ct h1 h2 =>
    cases h
    rcases h1 with ⟨_, o, h1, h3, _⟩ | ⟨o, h1, _⟩
    · exact .kTuple h1 h3
    · exact .fTuple h1
  | ro h1 =>
    cases h
    rcases h1 with ⟨o, h1⟩ | ⟨_, o, h1, h3⟩
    · exact .base (.frz h1)
    · exact .kList h1 h3
  | @cell k a ha =>
    dsimp only [kindD] at h
    split at h
    · rename_i ds hk
      cases h
      obtain ⟨xs, h1, h2⟩ := st.cell_at hk ha
      exact .base (.lst h1)
    · rename_i kvs hk
      cases h
      obtain ⟨xs, h1, h2⟩ := st.cell_at hk ha
      exact .base (.dK h1)
    · cases h
  | ty n => cases h
  | cls n => cases h
def fIsi : FA := fun ds μ => match ds with
  | [d, .ty n] => match (kindD μ d).bind fun k => kitB k n with
    | some b => .ok (.bl b) μ
    | none => .stuck
  | _ => .stuck
theorem simc_isi : SimC c (rIsi c.K) fIsi := by
  intro as H μ vs ds st rs σ W Q h
  unfold fIsi at h
  split at h
  · rename_i d n
    split at h
    · rename_i b hb
      obtain ⟨v, w, rfl, r, rn⟩ := rel2 rs
      cases rn
      cases hd : kindD μ d with
      | none => rw [hd] at hb; cases hb
      | some kd =>
        rw [hd] at hb
        exact ⟨v, .ty n, .type kd, .type n, b, rfl, .ty n, kindD_of st r hd, kit_ty hb, h _ as H .refl st (.bl _)⟩
    · exact h.elim
  · exact h.elim
def fMax2 : FA := fun ds μ => match ds with
  | [.int i, .int j] => .ok (.int (if j > i then j else i)) μ
  | _ => .stuck
theorem simc_max2 : SimC c (fun xs H Q => ∃ i j, xs = [.int i, .int j] ∧ Q (.int (if j > i then j else i)) H) fMax2 := by
  intro as H μ vs ds st rs σ W Q h
  unfold fMax2 at h
  split at h
  · obtain ⟨v, w, rfl, r, rn⟩ := rel2 rs
    cases r
    cases rn
    exact ⟨_, _, rfl, h _ as H .refl st (.int _)⟩
  · exact h.elim
def fMin2 : FA := fun ds μ => match ds with
  | [.int i, .int j] => .ok (.int (if j < i then j else i)) μ
  | _ => .stuck
theorem simc_min2 : SimC c (fun xs H Q => ∃ i j, xs = [.int i, .int j] ∧ Q (.int (if j < i then j else i)) H) fMin2 := by
  intro as H μ vs ds st rs σ W Q h
  unfold fMin2 at h
  split at h
  · obtain ⟨v, w, rfl, r, rn⟩ := rel2 rs
    cases r
    cases rn
    exact ⟨_, _, rfl, h _ as H .refl st (.int _)⟩
  · exact h.elim
def fInt1 : FA := fun ds μ => match ds with
  | [.int i] => .ok (.int i) μ
  | [.bl b] => .ok (.int (if b then 1 else 0)) μ
  | _ => .stuck
theorem simc_int1 : SimC c (fun xs H Q => (∃ i, xs = [.int i] ∧ Q (.int i) H) ∨ ∃ k, xs = [.bl k] ∧ Q (.int (if k then 1 else 0)) H) fInt1 := by
  intro as H μ vs ds st rs σ W Q h
  unfold fInt1 at h
  split at h
  · obtain ⟨v, rfl, r⟩ := rel1 rs
    cases r
    exact .inl ⟨_, rfl, h _ as H .refl st (.int _)⟩
  · obtain ⟨v, rfl, r⟩ := rel1 rs
    cases r
    exact .inr ⟨_, rfl, h _ as H .refl st (.int _)⟩
  · exact h.elim
def fTupleOf : FA := fun ds μ => match ds with
  | [.ct es] => .ok (.ct es) μ
  | [d] => match seqD μ d with
    | some es => .ok (.tup es) μ
    | none => .stuck
  | _ => .stuck
theorem simc_tupleOf : SimC c (fun xs H Q => ∃ p ys, xs = [.ref p] ∧ ((SqL c.K H p ys ∧ ∀ l, H l = none → Q (.ref l) (upd H l (.tup ys))) ∨ (SqT c.K H p ys ∧ Q (.ref p) H))) fTupleOf := by
  intro as H μ vs ds st rs σ W Q h
  unfold fTupleOf at h
  split at h
  · obtain ⟨v, rfl, r⟩ := rel1 rs
    cases r with
    | ct h1 h2 => exact ⟨_, _, rfl, .inr ⟨h1.sq, h _ as H .refl st (.ct h1 h2)⟩⟩
  · rename_i d hne
    split at h
    · rename_i es he
      obtain ⟨v, rfl, r⟩ := rel1 rs
      unfold seqD at he
      split at he
      · cases he
        cases r with
        | tup h1 h2 => exact ⟨_, _, rfl, .inr ⟨h1.sq, h _ as H .refl st (.tup h1 h2)⟩⟩
      · exact (hne _ rfl).elim
      · obtain ⟨a, xs, rfl, h1, h2⟩ := lstAt_of st r he
        exact ⟨a, xs, rfl, .inl ⟨h1, fun p hp => h _ as _ (ext_new hp) (st.tup hp) (.tup upd_same (h2.mono (ext_new hp)))⟩⟩
    · exact h.elim
  · exact h.elim
def fListOf : FA := fun ds μ => match ds with
  | [d] => match seqD μ d with
    | some es => allocR (.lst es) μ
    | none => .stuck
  | _ => .stuck
theorem simc_listOf : SimC c (fun xs H Q => ∃ p ys, xs = [.ref p] ∧ (SqL c.K H p ys ∨ SqT c.K H p ys) ∧ ∀ l, H l = none → Q (.ref l) (upd H l (.lst ys))) fListOf := by
  intro as H μ vs ds st rs σ W Q h
  unfold fListOf at h
  split at h
  · split at h
    · rename_i es he
      obtain ⟨v, rfl, r⟩ := rel1 rs
      obtain ⟨a, xs, rfl, h1, h2⟩ := seqD_of st r he
      exact ⟨a, xs, rfl, h1, fun p hp => h _ _ _ (ext_alloc hp) (st.alloc hp ⟨_, upd_same, h2.mono (ext_alloc hp)⟩) (rel_alloc st)⟩
    · exact h.elim
  · exact h.elim
/-! ### methods of texts -/
def SimM1 (c : Cfg) (r : V → List V → Hp → VK → Prop) (f : F2) : Prop :=
  ∀ as H μ z w y, StH c as H μ → Rel c as H w y → ∀ σ W Q, Want c (Rel c) (f (.str z) y μ) as H σ Q W → r (.str z) [w] H Q
def mM1 (f : F2) (a b : M Dat) : M Dat := fun δ μ => (a δ μ).bind fun x μ1 => match x with
  | .str z => (b δ μ1).bind fun y μ2 => f (.str z) y μ2
  | _ => .stuck
theorem sim_m1 {r : V → List V → Hp → VK → Prop} {f : F2} {ta tb : TE} {a b : M Dat} (hr : SimM1 c r f) (ha : SimE c W ta a) (hb : SimE c W tb b) : SimE c W (tM1 r ta tb) (mM1 f a b) := by
  intro as H σ δ μ st env Q w
  refine ha as H σ δ μ st env _ ((want_bind (R1 := Rel c) w).imp ?_)
  rintro v H1 ⟨as1, μ1, x, e, s1, rx, w1⟩
  split at w1
  · cases rx
    refine ⟨⟨_, rfl⟩, hb as1 H1 σ δ μ1 s1 (env.mono e) _ ((want_bind (R1 := Rel c) w1).imp ?_)⟩
    rintro u H2 ⟨as2, μ2, y, e2, s2, ry, w2⟩
    exact hr as2 H2 μ2 _ u y s2 ry σ W Q w2
  · exact w1.elim
def fEndswith : F2 := fun x y μ => match x, y with
  | .str a, .str b => .ok (.bl (Txt.endswith a b)) μ
  | _, _ => .stuck
theorem simm_endswith : SimM1 c (fun x xs H Q => ∃ a b, x = .str a ∧ xs = [.str b] ∧ Q (.bl (Txt.endswith a b)) H) fEndswith := by
  intro as H μ z w y st ry σ W Q h
  cases ry with
  | str b => exact ⟨_, _, rfl, rfl, h _ as H .refl st (.bl _)⟩
  | _ => exact False.elim h
theorem relStrs : ∀ ys : List Str, RelAll c as H (ys.map V.str) (ys.map Dat.str)
  | [] => .nil
  | y :: r => .cons (.str y) (relStrs r)
def fSplit : F2 := fun x y μ => match x, y with
  | .str a, .str b => if (b.length == 0) = false ∧ a.length + 2 ≤ sizeLine then allocR (.lst ((Txt.split a b).map Dat.str)) μ else .stuck
  | _, _ => .stuck
theorem simm_split : SimM1 c (fun x xs H Q => ∃ a b, x = .str a ∧ xs = [.str b] ∧ (b.length == 0) = false ∧ a.length + 2 ≤ sizeLine ∧ rNewStrs (Txt.split a b) H Q) fSplit := by
  intro as H μ z w y st ry σ W Q h
  cases ry with
  | str b =>
    dsimp only [fSplit] at h
    split at h
    · rename_i hz
      exact ⟨_, _, rfl, rfl, hz.1, hz.2, fun p hp => h _ _ _ (ext_alloc hp) (st.alloc hp ⟨_, upd_same, relStrs _⟩) (rel_alloc st)⟩
    · exact h.elim
  | _ => exact False.elim h
def strsD : List Dat → Option (List Str)
  | [] => some []
  | .str s :: r => (strsD r).map (s :: ·)
  | _ :: _ => none
theorem strsD_of : ∀ {ds : List Dat} {bs : List Str} {vs : List V}, strsD ds = some bs → RelAll c as H vs ds → vs = bs.map V.str
  | [], _, _, h, r => by cases h; cases r; rfl
  | .str b :: ds, bs, _, h, r => by
    cases r with
    | cons h1 t =>
      cases h1
      unfold strsD at h
      cases e : strsD ds with
      | none => rw [e] at h; cases h
      | some q =>
        rw [e] at h
        cases h
        rw [strsD_of e t]
        rfl
  | .non :: _, _, _, h, _ => by cases h
  | .int _ :: _, _, _, h, _ => by cases h
  | .bl _ :: _, _, _, h, _ => by cases h
  | .tup _ :: _, _, _, h, _ => by cases h
  | .cell _ :: _, _, _, h, _ => by cases h
  | .ro _ :: _, _, _, h, _ => by cases h
  | .ty _ :: _, _, _, h, _ => by cases h
  | .cls _ :: _, _, _, h, _ => by cases h
  | .ct _ :: _, _, _, h, _ => by cases h
def fJoin : F2 := fun x y μ => match x, (seqD μ y).bind strsD with
  | .str a, some ys => if (ys.map (·.length)).sum + ys.length * a.length ≤ 16777216 then .ok (.str (Txt.join a ys)) μ else .stuck
  | _, _ => .stuck
theorem simm_join : SimM1 c (fun x xs H Q => ∃ a p, ∃ ys : List Str, x = .str a ∧ xs = [.ref p] ∧ (SqL c.K H p (ys.map V.str) ∨ SqT c.K H p (ys.map V.str)) ∧
    (ys.map (·.length)).sum + ys.length * a.length ≤ 16777216 ∧ Q (.str (Txt.join a ys)) H) fJoin := by
  intro as H μ z w y st ry σ W Q h
  unfold fJoin at h
  split at h
  · rename_i a ys e hy
    cases e
    split at h
    · rename_i hz
      cases hd : seqD μ y with
      | none => rw [hd] at hy; cases hy
      | some es =>
        rw [hd] at hy
        obtain ⟨a, xs, rfl, h1, h2⟩ := seqD_of st ry hd
        have e := strsD_of hy h2
        subst e
        exact ⟨_, a, ys, rfl, rfl, h1, hz, h _ as H .refl st (.str _)⟩
    · exact h.elim
  · exact h.elim
/-! ### methods of lists -/
def SimBM (c : Cfg) (r : V → List V → Hp → VK → Prop) (f : Dat → FA) : Prop :=
  ∀ as H μ v x vs ds, StH c as H μ → Rel c as H v x → RelAll c as H vs ds → ∀ σ W Q, Want c (Rel c) (f x ds μ) as H σ Q W → r v vs H Q
def mBM (f : Dat → FA) (a : M Dat) (b : M (List Dat)) : M Dat := fun δ μ => (a δ μ).bind fun x μ1 => if (lstAt μ1 x).isSome = true then (b δ μ1).bind fun ds μ2 => f x ds μ2 else .stuck
theorem sim_bm {r : V → List V → Hp → VK → Prop} {f : Dat → FA} {to : TE} {t : TA} {a : M Dat} {b : M (List Dat)} (hr : SimBM c r f) (ha : SimE c W to a) (hb : SimA c W t b) : SimE c W (tBM c.K "list" r to t) (mBM f a b) := by
  intro as H σ δ μ st env Q w
  refine ha as H σ δ μ st env _ ((want_bind (R1 := Rel c) w).imp ?_)
  rintro v H1 ⟨as1, μ1, x, e, s1, rx, w1⟩
  split at w1
  · rename_i hs
    obtain ⟨ds, hd⟩ := Option.isSome_iff_exists.mp hs
    obtain ⟨p, xs, rfl, h1, _⟩ := lstAt_of s1 rx hd
    refine ⟨.inl ⟨rfl, xs, h1⟩, hb as1 H1 σ δ μ1 s1 (env.mono e) _ ((want_bind (R1 := RelAll c) w1).imp ?_)⟩
    rintro us H2 ⟨as2, μ2, es, e2, s2, rs, w2⟩
    exact hr as2 H2 μ2 _ x us es s2 (rx.mono e2) rs σ W Q w2
  · exact w1.elim
def fAppend : Dat → FA := fun x ds μ => match x, ds with
  | .cell k, [y] => match μ[k]? with
    | some (.lst es) => if es.length < sizeLine then .ok .non (μ.set k (.lst (es ++ [y]))) else .stuck
    | _ => .stuck
  | _, _ => .stuck
theorem simb_append : SimBM c rAppend fAppend := by
  intro as H μ v x vs ds st rx rs σ W Q h
  unfold fAppend at h
  split at h
  · split at h
    · rename_i k y es hk
      split at h
      · rename_i hz
        obtain ⟨u, rfl, ru⟩ := rel1 rs
        cases rx with
        | @cell _ a ha =>
          obtain ⟨xs, h1, h2⟩ := st.cell_at hk ha
          have ee := ext_set (o := .lst (xs ++ [u])) st hk ha
          exact ⟨a, xs, u, rfl, rfl, h1, by rw [h2.length]; exact hz, h _ as _ ee (st.set hk ha ⟨_, upd_same, (h2.append (.cons ru .nil)).mono ee⟩) .non⟩
      · exact h.elim
    · exact h.elim
  · exact h.elim

/-! ### calls of the program's own defs -/
def spM (c : Cfg) (n : Nat) (f : FA) : Sp := fun vs H Q E => vs.length = n ∧ ∃ as μ ds, StH c as H μ ∧ RelAll c as H vs ds ∧ Want c (Rel c) (f ds μ) as H [] Q (fun cls d _ H => E cls d H)
def mCall (n : Nat) (f : FA) (a : M (List Dat)) : M Dat := fun δ μ => (a δ μ).bind fun ds μ1 => if ds.length = n then f ds μ1 else .stuck
theorem sim_call {n : Nat} {f : FA} {E : XK} {t : TA} {a : M (List Dat)} (hW : ∀ cls σ H, E cls none H → W cls none σ H) (h : SimA c W t a) (hE : ∀ k μ', (∀ ds μ, f ds μ ≠ .raise k μ') ∨ ∀ σ cls H, W cls none σ H → E cls none H) :
    SimE c W (tCall (spM c n f) [] E t) (mCall n f a) := by
  intro as H σ δ μ st env Q w
  refine h as H σ δ μ st env _ ((want_bind (R1 := RelAll c) w).imp ?_)
  rintro vs H1 ⟨as1, μ1, ds, e, s1, rs, w1⟩
  split at w1
  · rename_i hl
    rw [List.append_nil]
    refine ⟨by rw [rs.length]; exact hl, as1, μ1, ds, s1, rs, ?_⟩
    cases hf : f ds μ1 with
    | ok x μ' => rw [hf] at w1; exact w1
    | raise k μ' =>
      rw [hf] at w1
      rcases hE k μ' with z | z
      · exact (z ds μ1 hf).elim
      · exact fun a' H' e' s' => z σ _ _ (w1 a' H' e' s')
    | stuck => rw [hf] at w1; exact w1
  · exact w1.elim
/-- a function that raises nothing: a raise counts as no answer -/
def nr (f : FA) : FA := fun ds μ => match f ds μ with
  | .raise _ _ => .stuck
  | r => r
theorem nr_ne (f : FA) (ds : List Dat) (μ : Store) (k : Nat) (μ' : Store) : nr f ds μ ≠ .raise k μ' := by
  unfold nr
  split
  · exact fun h => nomatch h
  · rename_i h
    exact fun e => h k μ' e
theorem sim_call0 {n : Nat} {f : FA} {t : TA} {a : M (List Dat)} (h : SimA c W t a) : SimE c W (tCall (spM c n (nr f)) [] E0 t) (mCall n (nr f) a) :=
  sim_call (fun _ _ _ z => z.elim) h fun k μ' => .inl fun ds μ => nr_ne f ds μ k μ'
theorem sim_callE {n : Nat} {f : FA} {E : XK} {t : TA} {a : M (List Dat)} (h : SimA c (fun cls d _ H => E cls d H) t a) : SimE c (fun cls d _ H => E cls d H) (tCall (spM c n f) [] E t) (mCall n f a) :=
  sim_call (fun _ _ _ z => z) h fun _ _ => .inr fun _ _ _ z => z
/-- a call within a try's body: what is raised is wished for at the slots -/
theorem sim_callS {n : Nat} {f : FA} {t : TA} {a : M (List Dat)} (h : SimA c W t a) : SimE c W (tCallS (spM c n f) (WE W) t) (mCall n f a) := by
  intro as H σ δ μ st env Q w
  refine h as H σ δ μ st env _ ((want_bind (R1 := RelAll c) w).imp ?_)
  rintro vs H1 ⟨as1, μ1, ds, e, s1, rs, w1⟩
  split at w1
  · rename_i hl
    refine ⟨by rw [rs.length]; exact hl, as1, μ1, ds, s1, rs, ?_⟩
    cases hf : f ds μ1 with
    | ok x μ' => rw [hf] at w1; exact w1
    | raise k μ' => rw [hf] at w1; exact w1
    | stuck => rw [hf] at w1; exact w1
  · exact w1.elim
end
end Nh

namespace Nh
open PySem PySem.Spec PyProof.Rows L2
section
variable {c : Cfg} {as as' : List Addr} {H H' : Hp} {σ : L2.St} {δ : Env} {μ : Store} {α β γ ε : Type} {W : WX}
/-! ### in -/
def fInSign : F2 := fun x y μ => match x, y with
  | .str s, .str z => match s.cps.toList with
    | [q] => .ok (.bl (decide (q ∈ z.cps.toList))) μ
    | _ => .stuck
  | _, _ => .stuck
def fNotInSign : F2 := fun x y μ => match x, y with
  | .str s, .str z => match s.cps.toList with
    | [q] => .ok (.bl (!decide (q ∈ z.cps.toList))) μ
    | _ => .stuck
  | _, _ => .stuck
theorem str_one {s : Str} {q : Nat} (h : s.cps.toList = [q]) : s = ⟨#[q]⟩ := by
  obtain ⟨a⟩ := s
  have e : a = [q].toArray := by
    rw [← Array.toArray_toList (xs := a)]
    exact congrArg List.toArray h
  rw [e]
theorem simr_inSign : SimR c (fun x y H Q => ∃ (c : Nat) (z : Str), x = .str ⟨#[c]⟩ ∧ y = .str z ∧ Q (.bl (decide (c ∈ z.cps.toList))) H) fInSign := by
  intro as H μ v w x y st rx ry σ W Q h
  unfold fInSign at h
  split at h
  · split at h
    · rename_i hq
      cases rx
      cases ry
      rw [str_one hq]
      exact ⟨_, _, rfl, rfl, h _ as H .refl st (.bl _)⟩
    · exact h.elim
  · exact h.elim
theorem simr_notInSign : SimR c (fun x y H Q => ∃ (c : Nat) (z : Str), x = .str ⟨#[c]⟩ ∧ y = .str z ∧ Q (.bl (!decide (c ∈ z.cps.toList))) H) fNotInSign := by
  intro as H μ v w x y st rx ry σ W Q h
  unfold fNotInSign at h
  split at h
  · split at h
    · rename_i hq
      cases rx
      cases ry
      rw [str_one hq]
      exact ⟨_, _, rfl, rfl, h _ as H .refl st (.bl _)⟩
    · exact h.elim
  · exact h.elim
def toVs : List Dat → Option (List V)
  | [] => some []
  | d :: r => match toV d, toVs r with
    | some v, some vs => some (v :: vs)
    | _, _ => none
theorem toV_flat {d : Dat} {v : V} (h : toV d = some v) : flatV v = true := by
  cases d <;> first | (cases h; rfl) | cases h
theorem toVs_of : ∀ {ds : List Dat} {us vs : List V}, toVs ds = some us → RelAll c as H vs ds → vs = us ∧ us.all flatV = true
  | [], _, _, h, r => by cases h; cases r; exact ⟨rfl, rfl⟩
  | d :: ds, us, _, h, r => by
    cases r with
    | cons h1 t =>
      unfold toVs at h
      split at h
      · rename_i u us' e1 e2
        cases h
        obtain ⟨e3, e4⟩ := toVs_of e2 t
        rw [h1.toV e1, e3]
        exact ⟨rfl, by rw [List.all_cons, toV_flat e1, e4]; rfl⟩
      · cases h
def fIn (neg : Bool) : F2 := fun x y μ => match toV x, (seqD μ y).bind toVs with
  | some u, some us => .ok (.bl (if neg then !inV u us else inV u us)) μ
  | _, _ => .stuck
theorem simr_in (neg : Bool) : SimR c (rIn c.K neg) (fIn neg) := by
  intro as H μ v w x y st rx ry σ W Q h
  unfold fIn at h
  split at h
  · rename_i u us e1 e2
    cases hd : seqD μ y with
    | none => rw [hd] at e2; cases e2
    | some es =>
      rw [hd] at e2
      obtain ⟨a, xs, rfl, h1, h2⟩ := seqD_of st ry hd
      obtain ⟨rfl, hf⟩ := toVs_of e2 h2
      obtain rfl := rx.toV e1
      exact ⟨a, xs, rfl, h1, toV_flat e1, hf, h _ as H .refl st (.bl _)⟩
  · exact h.elim
/-! ### is -/
def isNonD : Dat → Bool
  | .non => true
  | _ => false
def fIsN : F2 := fun x y μ => match y with
  | .non => .ok (.bl (isNonD x)) μ
  | _ => .stuck
def fNotN : F2 := fun x y μ => match y with
  | .non => .ok (.bl (!isNonD x)) μ
  | _ => .stuck
theorem rel_non {v : V} {d : Dat} (r : Rel c as H v d) : (decide (v = .non)) = isNonD d := by
  cases r <;> rfl
theorem simr_isN : SimR c (fun x y H Q => y = .non ∧ Q (.bl (decide (x = .non))) H) fIsN := by
  intro as H μ v w x y st rx ry σ W Q h
  unfold fIsN at h
  split at h
  · cases ry
    refine ⟨rfl, ?_⟩
    rw [rel_non rx]
    exact h _ as H .refl st (.bl _)
  · exact h.elim
theorem simr_notN : SimR c (fun x y H Q => y = .non ∧ Q (.bl (!decide (x = .non))) H) fNotN := by
  intro as H μ v w x y st rx ry σ W Q h
  unfold fNotN at h
  split at h
  · cases ry
    refine ⟨rfl, ?_⟩
    rw [rel_non rx]
    exact h _ as H .refl st (.bl _)
  · exact h.elim
def fIsB : F2 := fun x y μ => match x, y with
  | .bl a, .bl b => .ok (.bl (decide (a = b))) μ
  | _, _ => .stuck
def fNotB : F2 := fun x y μ => match x, y with
  | .bl a, .bl b => .ok (.bl (!decide (a = b))) μ
  | _, _ => .stuck
theorem simr_isB : SimR c rIsB fIsB := by
  intro as H μ v w x y st rx ry σ W Q h
  unfold fIsB at h
  split at h
  · cases rx
    cases ry
    exact ⟨_, _, rfl, rfl, h _ as H .refl st (.bl _)⟩
  · exact h.elim
theorem simr_notB : SimR c rNotB fNotB := by
  intro as H μ v w x y st rx ry σ W Q h
  unfold fNotB at h
  split at h
  · cases rx
    cases ry
    exact ⟨_, _, rfl, rfl, h _ as H .refl st (.bl _)⟩
  · exact h.elim
def mUn (f : F1) (a : M Dat) : M Dat := fun δ μ => (a δ μ).bind fun x μ1 => f x μ1
def fNeg : F1 := fun x μ => match x with
  | .int i => .ok (.int (-i)) μ
  | _ => .stuck
theorem sim_neg {t : TE} {a : M Dat} (h : SimE c W t a) : SimE c W (tUn (rU fun i => .int (-i)) t) (mUn fNeg a) := by
  intro as H σ δ μ st env Q w
  refine h as H σ δ μ st env _ ((want_bind (R1 := Rel c) w).imp ?_)
  rintro v H1 ⟨as1, μ1, x, e, s1, r, w1⟩
  unfold fNeg at w1
  split at w1
  · cases r
    exact ⟨_, rfl, w1 _ as1 H1 .refl s1 (.int _)⟩
  · exact w1.elim
/-! ### == of data at any depth -/
def pyAll (f : Dat → Option PyData) : List Dat → Option (List PyData)
  | [] => some []
  | d :: r => match f d, pyAll f r with
    | some x, some xs => some (x :: xs)
    | _, _ => none
def py (μ : Store) : Nat → Dat → Option PyData
  | 0, _ => none
  | n + 1, d => match d with
    | .non => some .none
    | .bl b => some (.bool b)
    | .int i => some (.int i)
    | .str s => some (.str s)
    | .tup ds => (pyAll (py μ n) ds).map .tuple
    | .ct ds => (pyAll (py μ n) ds).map .tuple
    | .ro ns => some (.list (ns.map .int))
    | .cell k => match μ[k]? with
      | some (.lst ds) => (pyAll (py μ n) ds).map .list
      | _ => none
    | _ => none
theorem pyAll_of {f : Dat → Option PyData} (hf : ∀ {v : V} {d : Dat} {e : PyData}, Rel c as H v d → f d = some e → Dp c.K H v e) : ∀ {ds : List Dat} {vs : List V} {es : List PyData}, RelAll c as H vs ds → pyAll f ds = some es → DpAll c.K H vs es
  | [], _, _, r, h => by cases h; cases r; exact .nil
  | d :: ds, _, _, r, h => by
    cases r with
    | cons h1 t =>
      unfold pyAll at h
      split at h
      · rename_i x xs e1 e2
        cases h
        exact .cons (hf h1 e1) (pyAll_of hf t e2)
      · cases h
theorem dpInts : ∀ ns : List Int, DpAll c.K H (ns.map V.int) (ns.map PyData.int)
  | [] => .nil
  | n :: r => .cons (.int n) (dpInts r)
theorem py_of (st : StH c as H μ) : ∀ (n : Nat) {v : V} {d : Dat} {e : PyData}, Rel c as H v d → py μ n d = some e → Dp c.K H v e
  | 0, _, _, _, _, h => by cases h
  | n + 1, v, d, e, r, h => by
    cases r with
    | non => cases h; exact .non
    | bl b => cases h; exact .bl b
    | int i => cases h; exact .int i
    | str s => cases h; exact .str s
    | @tup a xs ds h1 h2 =>
      have h' : (pyAll (py μ n) ds).map PyData.tuple = some e := h
      cases q : pyAll (py μ n) ds with
      | none => rw [q] at h'; cases h'
      | some es =>
        rw [q] at h'
        cases h'
        exact .tup h1.sq (pyAll_of (fun r h => py_of st n r h) h2 q)
    | ro h1 => cases h; exact .lst h1.sq (dpInts _)
    | @cell k a ha =>
      dsimp only [py] at h
      split at h
      · rename_i ds hk
        obtain ⟨xs, h1, h2⟩ := st.cell_at hk ha
        cases q : pyAll (py μ n) ds with
        | none => rw [q] at h; cases h
        | some es =>
          rw [q] at h
          cases h
          exact .lst (SqL.of h1) (pyAll_of (fun r h => py_of st n r h) h2 q)
      · cases h
    | ty n => cases h
    | cls n => cases h
    | @ct a xs ds h1 h2 =>
      have h' : (pyAll (py μ n) ds).map PyData.tuple = some e := h
      cases q : pyAll (py μ n) ds with
      | none => rw [q] at h'; cases h'
      | some es =>
        rw [q] at h'
        cases h'
        exact .tup h1.sq (pyAll_of (fun r h => py_of st n r h) h2 q)
def fEqD : F2 := fun x y μ => match py μ 12 x, py μ 12 y with
  | some a, some b => if (SeqAt.shaped a && SeqAt.shaped b) = true then .ok (.bl (PyData.eqv a b)) μ else .stuck
  | _, _ => .stuck
def fNeD : F2 := fun x y μ => match py μ 12 x, py μ 12 y with
  | some a, some b => if (SeqAt.shaped a && SeqAt.shaped b) = true then .ok (.bl (!PyData.eqv a b)) μ else .stuck
  | _, _ => .stuck
theorem simr_eqD : SimR c (rEqD c.K) fEqD := by
  intro as H μ v w x y st rx ry σ W Q h
  unfold fEqD at h
  split at h
  · rename_i a b e1 e2
    split at h
    · rename_i hz
      obtain ⟨z1, z2⟩ := Bool.and_eq_true_iff.mp hz
      exact ⟨a, b, py_of st 12 rx e1, py_of st 12 ry e2, z1, z2, h _ as H .refl st (.bl _)⟩
    · exact h.elim
  · exact h.elim
theorem simr_neD : SimR c (rNeD c.K) fNeD := by
  intro as H μ v w x y st rx ry σ W Q h
  unfold fNeD at h
  split at h
  · rename_i a b e1 e2
    split at h
    · rename_i hz
      obtain ⟨z1, z2⟩ := Bool.and_eq_true_iff.mp hz
      exact ⟨a, b, py_of st 12 rx e1, py_of st 12 ry e2, z1, z2, h _ as H .refl st (.bl _)⟩
    · exact h.elim
  · exact h.elim
/-! ### what is walked -/
structure Src where
  n : Nat
  get : Nat → Store → Option Dat
  fin : Store → Bool
def JRel (c : Cfg) (as : List Addr) (H : Hp) (J : It) (s : Src) : Prop := ∀ as' H' μ', Ext as H as' H' → StH c as' H' μ' →
  (∀ i d, i < s.n → s.get i μ' = some d → J.go i H' ∧ ∀ x H2, J.yld i H' x H2 → Ext as' H' as' H2 ∧ StH c as' H2 μ' ∧ Rel c as' H2 x d) ∧ (s.fin μ' = true → J.stop s.n H')
theorem JRel.mono {J : It} {s : Src} (e : Ext as H as' H') (h : JRel c as H J s) : JRel c as' H' J s := fun a h2 m e2 st => h a h2 m (e.trans e2) st
abbrev SimI (c : Cfg) (W : WX) (t : TI) (m : M Src) : Prop := Sim c W (JRel c) t m
def srcT (ds : List Dat) : Src := ⟨ds.length, fun i _ => ds[i]?, fun _ => true⟩
def srcR (lo : Int) (n : Nat) : Src := ⟨n, fun i _ => some (.int (lo + i)), fun _ => true⟩
def srcS (z : Str) : Src := ⟨z.cps.size, fun i _ => (z.cps[i]?).map fun q => .str ⟨#[q]⟩, fun _ => true⟩
def srcL (k n : Nat) : Src := ⟨n, fun i μ => (celL μ (.cell k)).bind (·[i]?), fun μ => match celL μ (.cell k) with
  | some ds => decide (ds.length ≤ n)
  | none => false⟩
theorem jrel_tup {a : Addr} {xs : List V} {ds : List Dat} (h1 : RoT c.K H a xs) (h2 : RelAll c as H xs ds) : JRel c as H (Itt c.K a) (srcT ds) := fun as' H' μ' e st => by
  refine ⟨fun i d hi hg => ?_, fun _ => ⟨xs, (h1.mono e).sq, by rw [h2.length]; exact Nat.le_refl _⟩⟩
  obtain ⟨v, h3, h4⟩ := (h2.mono e).get (show ds[i]? = some d from hg)
  refine ⟨⟨xs, v, (h1.mono e).sq, h3⟩, fun x H2 y => ?_⟩
  obtain ⟨rfl, q⟩ := y
  have e1 := q xs (h1.mono e).sq
  rw [h3] at e1
  cases e1
  exact ⟨.refl, st, h4⟩
theorem jrel_ct {a : Addr} {xs : List V} {ds : List Dat} (h1 : RoC c.K H a xs) (h2 : RelAll c as H xs ds) : JRel c as H (Itt c.K a) (srcT ds) := fun as' H' μ' e st => by
  refine ⟨fun i d hi hg => ?_, fun _ => ⟨xs, (h1.mono e).sq, by rw [h2.length]; exact Nat.le_refl _⟩⟩
  obtain ⟨v, h3, h4⟩ := (h2.mono e).get (show ds[i]? = some d from hg)
  refine ⟨⟨xs, v, (h1.mono e).sq, h3⟩, fun x H2 y => ?_⟩
  obtain ⟨rfl, q⟩ := y
  have e1 := q xs ((h1.mono e).sq)
  rw [h3] at e1
  cases e1
  exact ⟨.refl, st, h4⟩
theorem jrel_ro {a : Addr} {xs : List V} {ds : List Dat} (h1 : RoL c.K H a xs) (h2 : RelAll c as H xs ds) : JRel c as H (Itl c.K a) (srcT ds) := fun as' H' μ' e st => by
  refine ⟨fun i d hi hg => ?_, fun _ => ⟨xs, (h1.mono e).sq, by rw [h2.length]; exact Nat.le_refl _⟩⟩
  obtain ⟨v, h3, h4⟩ := (h2.mono e).get (show ds[i]? = some d from hg)
  refine ⟨⟨xs, v, (h1.mono e).sq, h3⟩, fun x H2 y => ?_⟩
  obtain ⟨rfl, q⟩ := y
  have e1 := q xs (h1.mono e).sq
  rw [h3] at e1
  cases e1
  exact ⟨.refl, st, h4⟩
theorem jrel_lst {a : Addr} {k n : Nat} (ha : as[k]? = some a) : JRel c as H (Itl c.K a) (srcL k n) := fun as' H' μ' e st => by
  have ha' := e.pre _ _ ha
  refine ⟨fun i d hi hg => ?_, fun hf => ?_⟩
  · have hg' : (celL μ' (.cell k)).bind (·[i]?) = some d := hg
    cases hd : celL μ' (.cell k) with
    | none => rw [hd] at hg'; cases hg'
    | some ds =>
      rw [hd] at hg'
      obtain ⟨k', b, xs, ek, ev, _, _, h1, h2⟩ := celL_of st (.cell ha' : Rel c as' H' (.ref a) (.cell k)) hd
      cases ev
      obtain ⟨v, h3, h4⟩ := h2.get (show ds[i]? = some d from hg')
      refine ⟨⟨xs, v, SqL.of h1, h3⟩, fun x H2 y => ?_⟩
      obtain ⟨rfl, q⟩ := y
      have e1 := q xs (SqL.of h1)
      rw [h3] at e1
      cases e1
      exact ⟨.refl, st, h4⟩
  · have hf' : (match celL μ' (.cell k) with
      | some ds => decide (ds.length ≤ n)
      | none => false) = true := hf
    split at hf'
    · rename_i ds hd
      obtain ⟨k', b, xs, ek, ev, _, _, h1, h2⟩ := celL_of st (.cell ha' : Rel c as' H' (.ref a) (.cell k)) hd
      cases ev
      exact ⟨xs, SqL.of h1, by rw [h2.length]; exact of_decide_eq_true hf'⟩
    · cases hf'
def miList (a : M Dat) : M Src := fun δ μ => (a δ μ).bind fun x μ1 => match x with
  | .cell k => match celL μ1 (.cell k) with
    | some ds => .ok (srcL k ds.length) μ1
    | none => .stuck
  | .ro ns => .ok (srcT (ns.map .int)) μ1
  | _ => .stuck
theorem simi_list {t : TE} {a : M Dat} (h : SimE c W t a) : SimI c W (iList c.K t) (miList a) := by
  intro as H σ δ μ st env Q w
  refine h as H σ δ μ st env _ ((want_bind (R1 := Rel c) w).imp ?_)
  rintro v H1 ⟨as1, μ1, x, e, s1, r, w1⟩
  split at w1
  · split at w1
    · rename_i ds hd
      obtain ⟨k', b, xs, ek, ev, _, ha, h1, h2⟩ := celL_of s1 r hd
      subst ev
      cases ek
      exact ⟨b, rfl, ⟨xs, SqL.of h1⟩, w1 _ as1 H1 .refl s1 (jrel_lst ha)⟩
    · exact w1.elim
  · cases r with
    | ro h1 => exact ⟨_, rfl, ⟨_, h1.sq⟩, w1 _ as1 H1 .refl s1 (jrel_ro h1 (relInts _))⟩
  · exact w1.elim
def miTup (a : M Dat) : M Src := fun δ μ => (a δ μ).bind fun x μ1 => match x with
  | .tup ds => .ok (srcT ds) μ1
  | .ct ds => .ok (srcT ds) μ1
  | _ => .stuck
theorem simi_tup {t : TE} {a : M Dat} (h : SimE c W t a) : SimI c W (iTup c.K t) (miTup a) := by
  intro as H σ δ μ st env Q w
  refine h as H σ δ μ st env _ ((want_bind (R1 := Rel c) w).imp ?_)
  rintro v H1 ⟨as1, μ1, x, e, s1, r, w1⟩
  split at w1
  · cases r with
    | tup h1 h2 => exact ⟨_, rfl, ⟨_, h1.sq⟩, w1 _ as1 H1 .refl s1 (jrel_tup h1 h2)⟩
  · cases r with
    | ct h1 h2 => exact ⟨_, rfl, ⟨_, h1.sq⟩, w1 _ as1 H1 .refl s1 (jrel_ct h1 h2)⟩
  · exact w1.elim
def miStr (a : M Dat) : M Src := fun δ μ => (a δ μ).bind fun x μ1 => match x with
  | .str z => .ok (srcS z) μ1
  | _ => .stuck
theorem simi_str {t : TE} {a : M Dat} (h : SimE c W t a) : SimI c W (iStr t) (miStr a) := by
  intro as H σ δ μ st env Q w
  refine h as H σ δ μ st env _ ((want_bind (R1 := Rel c) w).imp ?_)
  rintro v H1 ⟨as1, μ1, x, e, s1, r, w1⟩
  split at w1
  · rename_i z
    cases r
    refine ⟨_, rfl, w1 _ as1 H1 .refl s1 fun as' H' μ' e' st' => ⟨fun i d hi hg => ⟨hi, fun x H2 y => ?_⟩, fun _ => Nat.le_refl _⟩⟩
    obtain ⟨rfl, q, hq, rfl⟩ := y
    have hg' : (z.cps[i]?).map (fun q => Dat.str ⟨#[q]⟩) = some d := hg
    rw [hq] at hg'
    cases hg'
    exact ⟨.refl, st', .str _⟩
  · exact w1.elim
theorem jrel_range {lo : Int} {n : Nat} : JRel c as H (Itr lo n) (srcR lo n) := fun as' H' μ' e st => by
  refine ⟨fun i d hi hg => ⟨hi, fun x H2 y => ?_⟩, fun _ => Nat.le_refl _⟩
  obtain ⟨rfl, rfl⟩ := y
  have hg' : some (Dat.int (lo + i)) = some d := hg
  cases hg'
  exact ⟨.refl, st, .int _⟩
def miRange1 (a : M (List Dat)) : M Src := fun δ μ => (a δ μ).bind fun ds μ1 => match ds with
  | [.int j] => if -(2 ^ 62) ≤ j ∧ j < 2 ^ 62 then .ok (srcR 0 j.toNat) μ1 else .stuck
  | _ => .stuck
theorem simi_range1 {t : TA} {a : M (List Dat)} (h : SimA c W t a) : SimI c W (iRng1 t) (miRange1 a) := by
  intro as H σ δ μ st env Q w
  refine h as H σ δ μ st env _ ((want_bind (R1 := RelAll c) w).imp ?_)
  rintro vs H1 ⟨as1, μ1, ds, e, s1, rs, w1⟩
  split at w1
  · split at w1
    · rename_i hz
      obtain ⟨v, rfl, r⟩ := rel1 rs
      cases r
      exact ⟨_, rfl, hz.1, hz.2, w1 _ as1 H1 .refl s1 jrel_range⟩
    · exact w1.elim
  · exact w1.elim
def miRange2 (a : M (List Dat)) : M Src := fun δ μ => (a δ μ).bind fun ds μ1 => match ds with
  | [.int i, .int j] => if -(2 ^ 62) ≤ i ∧ i < 2 ^ 62 ∧ -(2 ^ 62) ≤ j ∧ j < 2 ^ 62 then .ok (srcR i (j - i).toNat) μ1 else .stuck
  | _ => .stuck
theorem simi_range2 {t : TA} {a : M (List Dat)} (h : SimA c W t a) : SimI c W (iRng2 t) (miRange2 a) := by
  intro as H σ δ μ st env Q w
  refine h as H σ δ μ st env _ ((want_bind (R1 := RelAll c) w).imp ?_)
  rintro vs H1 ⟨as1, μ1, ds, e, s1, rs, w1⟩
  split at w1
  · split at w1
    · rename_i hz
      obtain ⟨v, u, rfl, r, r2⟩ := rel2 rs
      cases r
      cases r2
      exact ⟨_, _, rfl, hz, w1 _ as1 H1 .refl s1 jrel_range⟩
    · exact w1.elim
  · exact w1.elim
/-! ### targets -/
abbrev MG := Dat → Env → Option Env
def SimG (c : Cfg) (g : TG) (m : MG) : Prop := ∀ as H σ δ v d δ', EnvR c as H σ δ → Rel c as H v d → m d δ = some δ' → ∀ Q : L2.St → Hp → Prop, (∀ σ', EnvR c as H σ' δ' → Q σ' H) → g v σ H Q
def mgName (i : Nat) : MG := fun d δ => some (δ.set i (some d))
theorem simg_name (i : Nat) : SimG c (gName i) (mgName i) := by
  intro as H σ δ v d δ' env r h Q q
  cases h
  exact q _ (env.set i r)
def mgNames : List Nat → List Dat → Env → Option Env
  | [], [], δ => some δ
  | i :: r, d :: ds, δ => mgNames r ds (δ.set i (some d))
  | _, _, _ => none
def gNames : List Nat → TGs
  | [] => gNil
  | i :: r => gCons (gName i) (gNames r)
theorem simg_names : ∀ (is : List Nat) {σ : L2.St} {δ δ' : Env} {vs : List V} {ds : List Dat}, EnvR c as H σ δ → RelAll c as H vs ds → mgNames is ds δ = some δ' → ∀ Q : L2.St → Hp → Prop, (∀ σ', EnvR c as H σ' δ' → Q σ' H) → gNames is vs σ H Q
  | [], σ, δ, δ', vs, ds, env, r, h, Q, q => by
    cases r with
    | nil => cases h; exact ⟨rfl, q _ env⟩
    | cons _ _ => cases h
  | i :: is, σ, δ, δ', vs, ds, env, r, h, Q, q => by
    cases r with
    | nil => cases h
    | cons h1 t => exact ⟨_, _, rfl, simg_names is (env.set i h1) t h Q q⟩
def mgTup (is : List Nat) : MG := fun d δ => match d with
  | .tup ds => if ds.length = is.length then mgNames is ds δ else none
  | _ => none
theorem simg_tup (is : List Nat) : SimG c (gTup c.K is.length (gNames is)) (mgTup is) := by
  intro as H σ δ v d δ' env r h Q q
  unfold mgTup at h
  split at h
  · split at h
    · rename_i hl
      cases r with
      | tup h1 h2 => exact ⟨_, _, rfl, h1.sq, by rw [h2.length]; exact hl, simg_names is env h2 h Q q⟩
    · cases h
  · cases h
/-! ### comprehensions -/
def wipeD (δ : Env) : List Nat → Env
  | [] => δ
  | v :: vs => (wipeD δ vs).set v none
theorem EnvR.wipe (env : EnvR c as H σ δ) : ∀ vs : List Nat, EnvR c as H (wipe σ vs) (wipeD δ vs)
  | [] => env
  | v :: vs => (EnvR.wipe env vs).setN v
theorem set_comm_none {α : Type} (l : List α) (i j : Nat) (x y : α) (h : i ≠ j) : (l.set i x).set j y = (l.set j y).set i x := List.set_comm _ _ h
theorem wipe_set_mem (x : Option V) : ∀ (vs : List Nat) (σ : L2.St) (i : Nat), i ∈ vs → wipe (σ.set i x) vs = wipe σ vs
  | [], _, _, h => by simp at h
  | v :: vs, σ, i, h => by
    show (wipe (σ.set i x) vs).set v none = (wipe σ vs).set v none
    by_cases hv : i ∈ vs
    · rw [wipe_set_mem x vs σ i hv]
    · have e : i = v := by simpa [hv] using h
      subst e
      have comm : ∀ (ws : List Nat) (τ : L2.St), i ∉ ws → wipe (τ.set i x) ws = (wipe τ ws).set i x := by
        intro ws
        induction ws with
        | nil => intro τ _; rfl
        | cons u us ih =>
          intro τ hu
          have h1 : i ≠ u := fun z => hu (z ▸ List.mem_cons_self)
          show (wipe (τ.set i x) us).set u none = ((wipe τ us).set u none).set i x
          rw [ih τ (fun z => hu (List.mem_cons_of_mem _ z)), List.set_comm _ _ h1]
      rw [comm vs σ hv, List.set_set]
theorem wipe_wipe (vs : List Nat) (σ : L2.St) : ∀ ws : List Nat, (∀ w ∈ ws, w ∈ vs) → wipe (wipe σ ws) vs = wipe σ vs
  | [], _ => rfl
  | w :: ws, h => by
    show wipe ((wipe σ ws).set w none) vs = wipe σ vs
    rw [wipe_set_mem none vs _ w (h w List.mem_cons_self), wipe_wipe vs σ ws fun u hu => h u (List.mem_cons_of_mem _ hu)]
/-- a target that stores within vs alone -/
def GW (g : TG) (vs : List Nat) : Prop := ∀ v σ H (Q : L2.St → Hp → Prop), g v σ H Q → g v σ H fun σ2 H2 => wipe σ2 vs = wipe σ vs ∧ Q σ2 H2
theorem gw_name {i : Nat} {vs : List Nat} (h : i ∈ vs) : GW (gName i) vs := fun v σ H Q q => ⟨wipe_set_mem _ vs σ i h, q⟩
theorem gw_names {vs : List Nat} : ∀ (is : List Nat), (∀ i ∈ is, i ∈ vs) → ∀ (xs : List V) (σ : L2.St) (H : Hp) (Q : L2.St → Hp → Prop), gNames is xs σ H Q → gNames is xs σ H fun σ2 H2 => wipe σ2 vs = wipe σ vs ∧ Q σ2 H2
  | [], _, xs, σ, H, Q, q => ⟨q.1, rfl, q.2⟩
  | i :: is, h, xs, σ, H, Q, q => by
    obtain ⟨v, r, e, q⟩ := q
    refine ⟨v, r, e, ?_⟩
    have z := gw_names is (fun j hj => h j (List.mem_cons_of_mem _ hj)) r (σ.set i (some v)) H Q q
    rw [wipe_set_mem _ vs σ i (h i List.mem_cons_self)] at z
    exact z
theorem gw_tup {vs : List Nat} (is : List Nat) {K : PySem.W.Frag} {n : Nat} (h : ∀ i ∈ is, i ∈ vs) : GW (gTup K n (gNames is)) vs := fun v σ H Q q => by
  obtain ⟨a, xs, e1, e2, e3, q⟩ := q
  exact ⟨a, xs, e1, e2, e3, gw_names is h xs σ H Q q⟩
def nrR (r : Res α) : Res α := match r with
  | .raise _ _ => .stuck
  | r => r
theorem want_nr {R : List Addr → Hp → β → α → Prop} {r : Res α} {Q : β → Hp → Prop} {W W' : WX} (w : Want c R (nrR r) as H σ Q W) {σ' : L2.St} : Want c R r as H σ' Q W' := by
  cases r with
  | ok x μ' => exact w
  | raise n μ' => exact w.elim
  | stuck => exact w
def lcLoop (s : Src) (g : MG) (tt : M Bool) (te : M Dat) (δ : Env) (k : Nat) : Nat → Nat → Store → Res Unit
  | 0, _, μ => if s.fin μ = true then .ok () μ else .stuck
  | r + 1, i, μ => match (s.get i μ).bind fun d => g d δ with
    | none => .stuck
    | some δ1 => (nrR (tt δ1 μ)).bind fun b μ1 => if b = true then (nrR (te δ1 μ1)).bind fun y μ2 => match μ2[k]? with
        | some (.lst acc) => if acc.length < sizeLine then lcLoop s g tt te δ k r (i + 1) (μ2.set k (.lst (acc ++ [y]))) else .stuck
        | _ => .stuck
      else lcLoop s g tt te δ k r (i + 1) μ1
def mLc (src : M Src) (g : MG) (tt : M Bool) (te : M Dat) (vs : List Nat) : M Dat := fun δ μ => (src δ μ).bind fun s μ1 =>
  (lcLoop s g tt te (wipeD δ vs) μ1.length s.n 0 (μ1 ++ [.lst []])).bind fun _ μ2 => .ok (.cell μ1.length) μ2
def mYes : M Bool := fun _ μ => .ok true μ
theorem sim_yes : SimT c W tYes mYes := fun as H σ δ μ st env Q w => w _ as H .refl st rfl
theorem sim_lc {wi : TI} {g : TG} {tt : TT} {te : TE} {vs : List Nat} {src : M Src} {mg : MG} {mt : M Bool} {me : M Dat} (hi : SimI c W wi src) (hg : SimG c g mg) (hw : GW g vs) (ht : SimT c W tt mt) (he : SimE c W te me) :
    SimE c W (tLc wi g tt te vs) (mLc src mg mt me vs) := by
  intro as H σ δ μ st env Q w
  refine hi as H σ δ μ st env _ ((want_bind (R1 := JRel c) w).imp ?_)
  rintro J H1 ⟨as1, μ1, s, e, s1, jr, w1⟩ D hD
  have env1 := env.mono e
  have eD : Ext as1 H1 (as1 ++ [D]) (upd H1 D (.lst [])) := ext_alloc hD
  have sD := s1.alloc (o := .lst []) (x := .lst []) hD ⟨[], upd_same, .nil⟩
  have aD : (as1 ++ [D])[μ1.length]? = some D := by rw [← s1.len, List.getElem?_concat_length]
  have w2 := want_bind (R1 := fun _ _ (_ : Unit) (_ : Unit) => True) (Want.mono eD w1)
  refine ⟨fun i m H2 => m = s.n - i ∧ i ≤ s.n ∧ ∃ as2 μ2, Ext as1 H1 as2 H2 ∧ StH c as2 H2 μ2 ∧ as2[μ1.length]? = some D ∧
    Want c (fun _ _ (_ : Unit) (_ : Unit) => True) (lcLoop s mg mt me (wipeD δ vs) μ1.length (s.n - i) i μ2) as2 H2 σ (fun _ H3 => Q (.ref D) H3) W, ⟨s.n, rfl, Nat.zero_le _, as1 ++ [D], _, eD, sD, aD, ?_⟩, ?_⟩
  · refine w2.imp ?_
    rintro _ H3 ⟨as3, μ3, _, e3, s3, _, w3⟩
    exact w3 _ as3 H3 .refl s3 (.cell (e3.pre _ _ aD))
  · rintro i m H2 ⟨rfl, hin, as2, μ2, e2, s2, a2, wl⟩
    obtain ⟨jg, js⟩ := jr as2 H2 μ2 e2 s2
    by_cases hlt : i < s.n
    · obtain ⟨r, hr⟩ : ∃ r, s.n - i = r + 1 := ⟨s.n - i - 1, by omega⟩
      rw [hr] at wl
      unfold lcLoop at wl
      split at wl
      · exact wl.elim
      · rename_i δ1 hd
        cases hq : s.get i μ2 with
        | none => rw [hq] at hd; cases hd
        | some d =>
          rw [hq] at hd
          obtain ⟨g1, g2⟩ := jg i d hlt hq
          refine .inr ⟨g1, fun H3 => (fun i m H2 => m = s.n - i ∧ i ≤ s.n ∧ ∃ as2 μ2, Ext as1 H1 as2 H2 ∧ StH c as2 H2 μ2 ∧ as2[μ1.length]? = some D ∧
            Want c (fun _ _ (_ : Unit) (_ : Unit) => True) (lcLoop s mg mt me (wipeD δ vs) μ1.length (s.n - i) i μ2) as2 H2 σ (fun _ H3 => Q (.ref D) H3) W) (i + 1) (s.n - (i + 1)) H3, fun H3 z => ⟨s.n - (i + 1), by omega, z⟩, fun x H3 hy => ?_⟩
          obtain ⟨ex, s3, rx⟩ := g2 x H3 hy
          replace wl := Want.mono ex wl
          replace e2 := e2.trans ex
          replace s2 := s3
          have env2 := (env1.mono e2).wipe vs
          have key : ∀ Q' : L2.St → Hp → Prop, (∀ σ2, EnvR c as2 H3 σ2 δ1 → Q' σ2 H3) → g x (wipe σ vs) H3 fun σ2 H4 => wipe σ2 vs = wipe σ vs ∧ Q' σ2 H4 := fun Q' q => by
            have z := hw x (wipe σ vs) H3 Q' (hg as2 H3 (wipe σ vs) (wipeD δ vs) x d δ1 env2 rx hd Q' q)
            rw [wipe_wipe vs σ vs fun _ z => z] at z
            exact z
          have hr' : s.n - (i + 1) = r := by omega
          refine key _ fun σ2 envs => ?_
          refine ht as2 H3 σ2 δ1 μ2 s2 envs _ ((want_nr (want_bind (R1 := fun _ _ b d => b = d) wl)).imp ?_)
          rintro b H5 ⟨as5, μ5, b', e5, s5, rfl, w5⟩
          cases b with
          | false => exact ⟨rfl, hlt, as5, μ5, e2.trans e5, s5, e5.pre _ _ a2, by rw [hr']; exact w5⟩
          | true =>
            refine iteT ?_
            rw [if_pos rfl] at w5
            refine he as5 H5 σ2 δ1 μ5 s5 (envs.mono e5) _ ((want_nr (want_bind (R1 := Rel c) w5)).imp ?_)
            rintro y H6 ⟨as6, μ6, dy, e6, s6, ry, w6⟩
            split at w6
            · rename_i acc hk
              split at w6
              · rename_i hz
                have a6 := e6.pre _ _ (e5.pre _ _ a2)
                obtain ⟨xs, h1, h2⟩ := s6.cell_at hk a6
                have ee := ext_set (o := .lst (xs ++ [y])) s6 hk a6
                refine ⟨xs, h1, by rw [h2.length]; exact hz, rfl, hlt, as6, _, ((e2.trans e5).trans e6).trans ee, s6.set (y := .lst (acc ++ [dy])) hk a6 ⟨_, upd_same, (h2.append (.cons ry .nil)).mono ee⟩, a6, ?_⟩
                rw [hr']
                exact w6.mono ee
              · exact w6.elim
            · exact w6.elim
    · have ei : i = s.n := by omega
      subst ei
      rw [Nat.sub_self] at wl
      unfold lcLoop at wl
      split at wl
      · rename_i hf
        exact .inl ⟨js hf, wl () as2 H2 .refl s2 trivial⟩
      · exact wl.elim
end
end Nh

namespace Nh
open PySem PySem.Spec PyProof.Rows L2
/-- what a statement gives -/
inductive SRes where
  | nx (δ : Env) (μ : Store) | rt (d : Dat) (μ : Store) | bk (δ : Env) (μ : Store) | ct (δ : Env) (μ : Store) | raise (n : Nat) (δ : Env) (μ : Store) | stuck
abbrev MS := Env → Store → SRes
def Res.toS {α : Type} (r : Res α) (δ : Env) (f : α → Store → SRes) : SRes := match r with
  | .ok x μ => f x μ
  | .raise n μ => .raise n δ μ
  | .stuck => .stuck
section
variable {c : Cfg} {as as' : List Addr} {H H' : Hp} {σ : L2.St} {δ : Env} {μ : Store} {α β γ ε : Type} {W : WX} {D D' : Ends}
def WantS (c : Cfg) (r : SRes) (as : List Addr) (H : Hp) (D : Ends) (W : WX) : Prop := match r with
  | .nx δ' μ' => ∀ σ' as' H', Ext as H as' H' → StH c as' H' μ' → EnvR c as' H' σ' δ' → D.nx σ' H'
  | .rt d μ' => ∀ v as' H', Ext as H as' H' → StH c as' H' μ' → Rel c as' H' v d → D.rt v H'
  | .bk δ' μ' => ∀ σ' as' H', Ext as H as' H' → StH c as' H' μ' → EnvR c as' H' σ' δ' → D.bk σ' H'
  | .ct δ' μ' => ∀ σ' as' H', Ext as H as' H' → StH c as' H' μ' → EnvR c as' H' σ' δ' → D.ct σ' H'
  | .raise n δ' μ' => ∀ σ' as' H', Ext as H as' H' → StH c as' H' μ' → EnvR c as' H' σ' δ' → W (.ref (c.cl n)) none σ' H'
  | .stuck => False
theorem WantS.mono {r : SRes} (e : Ext as H as' H') (w : WantS c r as H D W) : WantS c r as' H' D W := by
  cases r with
  | nx δ' μ' => exact fun s a h q => w s a h (e.trans q)
  | rt d μ' => exact fun s a h q => w s a h (e.trans q)
  | bk δ' μ' => exact fun s a h q => w s a h (e.trans q)
  | ct δ' μ' => exact fun s a h q => w s a h (e.trans q)
  | raise n δ' μ' => exact fun s a h q => w s a h (e.trans q)
  | stuck => exact w
def SimS (c : Cfg) (W : WX) (t : TS) (m : MS) : Prop := ∀ as H σ δ μ, StH c as H μ → EnvR c as H σ δ → ∀ D, WantS c (m δ μ) as H D W → t D σ H
theorem want_toS {R : List Addr → Hp → β → α → Prop} {r : Res α} {f : α → Store → SRes} (env : EnvR c as H σ δ) (h : WantS c (r.toS δ f) as H D W) :
    Want c R r as H σ (fun v H1 => ∃ as1 μ1 x, Ext as H as1 H1 ∧ StH c as1 H1 μ1 ∧ R as1 H1 v x ∧ WantS c (f x μ1) as1 H1 D W) W := by
  cases r with
  | ok x μ' => exact fun v a q e s r => ⟨a, μ', x, e, s, r, WantS.mono (r := f x μ') e h⟩
  | raise n μ' => exact fun a q e s => h σ a q e s (env.mono e)
  | stuck => exact h
def msNext : MS := fun δ μ => .nx δ μ
theorem sims_next : SimS c W tNext msNext := fun as H σ δ μ st env D w => w σ as H .refl st env
def msSeq (a b : MS) : MS := fun δ μ => match a δ μ with
  | .nx δ' μ' => b δ' μ'
  | r => r
theorem sims_seq {t u : TS} {a b : MS} (ha : SimS c W t a) (hb : SimS c W u b) : SimS c W (tSeq t u) (msSeq a b) := by
  intro as H σ δ μ st env D w
  refine ha as H σ δ μ st env { D with nx := u D } ?_
  unfold msSeq at w
  cases hr : a δ μ with
  | nx δ' μ' =>
    rw [hr] at w
    exact fun σ' as' H' e s env' => hb as' H' σ' δ' μ' s env' D (w.mono e)
  | rt d μ' => rw [hr] at w; exact w
  | bk δ' μ' => rw [hr] at w; exact w
  | ct δ' μ' => rw [hr] at w; exact w
  | raise n δ' μ' => rw [hr] at w; exact w
  | stuck => rw [hr] at w; exact w
def msBreak : MS := fun δ μ => .bk δ μ
def msCont : MS := fun δ μ => .ct δ μ
theorem sims_break : SimS c W tBreak msBreak := fun as H σ δ μ st env D w => w σ as H .refl st env
theorem sims_cont : SimS c W tCont msCont := fun as H σ δ μ st env D w => w σ as H .refl st env
def msDrop (a : M Dat) : MS := fun δ μ => (a δ μ).toS δ fun _ μ1 => .nx δ μ1
theorem sims_drop {t : TE} {a : M Dat} (h : SimE c W t a) : SimS c W (tDrop t) (msDrop a) := by
  intro as H σ δ μ st env D w
  refine h as H σ δ μ st env _ ((want_toS (R := Rel c) env w).imp ?_)
  rintro v H1 ⟨as1, μ1, x, e, s1, r, w1⟩
  exact w1 σ as1 H1 .refl s1 (env.mono e)
def msRet (a : M Dat) : MS := fun δ μ => (a δ μ).toS δ fun d μ1 => .rt d μ1
theorem sims_ret {t : TE} {a : M Dat} (h : SimE c W t a) : SimS c W (tRet t) (msRet a) := by
  intro as H σ δ μ st env D w
  refine h as H σ δ μ st env _ ((want_toS (R := Rel c) env w).imp ?_)
  rintro v H1 ⟨as1, μ1, x, e, s1, r, w1⟩
  exact w1 v as1 H1 .refl s1 r
def msRetN : MS := fun _ μ => .rt .non μ
theorem sims_retN : SimS c W tRetN msRetN := fun as H σ δ μ st env D w => w .non as H .refl st .non
def msIf (q : M Bool) (a b : MS) : MS := fun δ μ => (q δ μ).toS δ fun k μ1 => if k = true then a δ μ1 else b δ μ1
theorem sims_if {q : TT} {t u : TS} {mq : M Bool} {a b : MS} (hq : SimT c W q mq) (ha : SimS c W t a) (hb : SimS c W u b) : SimS c W (tIfS q t u) (msIf mq a b) := by
  intro as H σ δ μ st env D w
  refine hq as H σ δ μ st env _ ((want_toS (R := fun _ _ b d => b = d) env w).imp ?_)
  rintro k H1 ⟨as1, μ1, x, e, s1, rfl, w1⟩
  cases k with
  | true => exact iteT (ha as1 H1 σ δ μ1 s1 (env.mono e) D w1)
  | false => exact iteF (hb as1 H1 σ δ μ1 s1 (env.mono e) D w1)
def msAsg (a : M Dat) (g : MG) : MS := fun δ μ => (a δ μ).toS δ fun d μ1 => match g d δ with
  | some δ' => .nx δ' μ1
  | none => .stuck
theorem sims_asg {t : TE} {g : TG} {a : M Dat} {m : MG} (h : SimE c W t a) (hg : SimG c g m) : SimS c W (tAsg t g) (msAsg a m) := by
  intro as H σ δ μ st env D w
  refine h as H σ δ μ st env _ ((want_toS (R := Rel c) env w).imp ?_)
  rintro v H1 ⟨as1, μ1, x, e, s1, r, w1⟩
  split at w1
  · rename_i δ' hd
    exact hg as1 H1 σ δ v x δ' (env.mono e) r hd _ fun σ' env' => w1 σ' as1 H1 .refl s1 env'
  · exact w1.elim
/-- d[k] = v -/
def msDPut (a b v : M Dat) : MS := fun δ μ => (v δ μ).toS δ fun z μ1 => (a δ μ1).toS δ fun x μ2 => (b δ μ2).toS δ fun y μ3 => match x, keyD y with
  | .cell k, some q => match μ3[k]? with
    | some (.dict kvs) => if kvs.length < sizeLine then .nx δ (μ3.set k (.dict (putD kvs q z))) else .stuck
    | _ => .stuck
  | _, _ => .stuck
theorem sims_dput {ta tb tv : TE} {a b v : M Dat} (ha : SimE c W ta a) (hb : SimE c W tb b) (hv : SimE c W tv v) : SimS c W (sDPut ta tb tv) (msDPut a b v) := by
  intro as H σ δ μ st env D w
  refine hv as H σ δ μ st env _ ((want_toS (R := Rel c) env w).imp ?_)
  rintro z H1 ⟨as1, μ1, dz, e1, s1, rz, w1⟩
  have env1 := env.mono e1
  refine ha as1 H1 σ δ μ1 s1 env1 _ ((want_toS (R := Rel c) env1 w1).imp ?_)
  rintro x H2 ⟨as2, μ2, dx, e2, s2, rx, w2⟩
  have env2 := env1.mono e2
  refine hb as2 H2 σ δ μ2 s2 env2 _ ((want_toS (R := Rel c) env2 w2).imp ?_)
  rintro y H3 ⟨as3, μ3, dy, e3, s3, ry, w3⟩
  split at w3
  · rename_i k q hq
    split at w3
    · rename_i kvs hk
      split at w3
      · rename_i hz
        have rx3 := rx.mono e3
        cases rx3 with
        | cell ha3 =>
          obtain ⟨ps, h1, h2⟩ := s3.cell_at hk ha3
          have ey := keyD_of ry hq
          subst ey
          have rz3 := rz.mono (e2.trans e3)
          have ee := ext_set (o := .dK (putK ps q z)) s3 hk ha3
          exact ⟨_, _, rfl, DPut.k h1 (by rw [h2.length]; exact hz), w3 σ as3 _ ee (s3.set (y := .dict (putD kvs q dz)) hk ha3 ⟨_, upd_same, (h2.put rz3).mono ee⟩) ((env2.mono e3).mono ee)⟩
      · exact w3.elim
    · exact w3.elim
  · exact w3.elim
/-- xs[i] = v -/
def mgSub (a b : M Dat) (v : M Dat) : MS := fun δ μ => (v δ μ).toS δ fun z μ1 => (a δ μ1).toS δ fun x μ2 => (b δ μ2).toS δ fun y μ3 => match x, y with
  | .cell k, .int i => match μ3[k]? with
    | some (.lst ds) => match ixN ds.length i with
      | some j => .nx δ (μ3.set k (.lst (ds.set j z)))
      | none => .stuck
    | _ => .stuck
  | _, _ => .stuck
theorem sims_sub {ta tb tv : TE} {a b v : M Dat} (ha : SimE c W ta a) (hb : SimE c W tb b) (hv : SimE c W tv v) : SimS c W (tAsg tv (gSub ta tb rSetL)) (mgSub a b v) := by
  intro as H σ δ μ st env D w
  refine hv as H σ δ μ st env _ ((want_toS (R := Rel c) env w).imp ?_)
  rintro z H1 ⟨as1, μ1, dz, e1, s1, rz, w1⟩
  have env1 := env.mono e1
  refine ha as1 H1 σ δ μ1 s1 env1 _ ((want_toS (R := Rel c) env1 w1).imp ?_)
  rintro x H2 ⟨as2, μ2, dx, e2, s2, rx, w2⟩
  have env2 := env1.mono e2
  refine hb as2 H2 σ δ μ2 s2 env2 _ ((want_toS (R := Rel c) env2 w2).imp ?_)
  rintro y H3 ⟨as3, μ3, dy, e3, s3, ry, w3⟩
  split at w3
  · rename_i k i
    split at w3
    · rename_i ds hk
      split at w3
      · rename_i j hj
        cases ry
        have rx3 := rx.mono e3
        cases rx3 with
        | cell ha3 =>
          obtain ⟨xs, h1, h2⟩ := s3.cell_at hk ha3
          have rz3 := rz.mono (e2.trans e3)
          have ee := ext_set (o := .lst (xs.set j z)) s3 hk ha3
          exact ⟨_, xs, i, j, rfl, rfl, h1, by rw [h2.length]; exact hj, w3 σ as3 _ ee (s3.set (y := .lst (ds.set j dz)) hk ha3 ⟨_, upd_same, (RelAll.set rz3 j h2).mono ee⟩) ((env2.mono e3).mono ee)⟩
      · exact w3.elim
    · exact w3.elim
  · exact w3.elim
/-! ### loops -/
def forLoop (s : Src) (g : MG) (b : MS) : Nat → Nat → Env → Store → SRes
  | 0, _, δ, μ => if s.fin μ = true then .nx δ μ else .stuck
  | r + 1, i, δ, μ => match (s.get i μ).bind fun d => g d δ with
    | none => .stuck
    | some δ1 => match b δ1 μ with
      | .nx δ' μ' => forLoop s g b r (i + 1) δ' μ'
      | .ct δ' μ' => forLoop s g b r (i + 1) δ' μ'
      | .bk δ' μ' => .nx δ' μ'
      | r => r
def msFor (src : M Src) (g : MG) (b : MS) : MS := fun δ μ => (src δ μ).toS δ fun s μ1 => forLoop s g b s.n 0 δ μ1
theorem sims_for {wi : TI} {g : TG} {tb : TS} {src : M Src} {mg : MG} {b : MS} (hi : SimI c W wi src) (hg : SimG c g mg) (hb : SimS c W tb b) : SimS c W (tFor wi g tb) (msFor src mg b) := by
  intro as H σ δ μ st env D w
  refine hi as H σ δ μ st env _ ((want_toS (R := JRel c) env w).imp ?_)
  rintro J H1 ⟨as1, μ1, s, e1, s1, jr, w1⟩
  have env1 := env.mono e1
  refine ⟨fun i m σ2 H2 => m = s.n - i ∧ i ≤ s.n ∧ ∃ as2 μ2 δ2, Ext as1 H1 as2 H2 ∧ StH c as2 H2 μ2 ∧ EnvR c as2 H2 σ2 δ2 ∧ WantS c (forLoop s mg b (s.n - i) i δ2 μ2) as2 H2 D W,
    ⟨s.n, rfl, Nat.zero_le _, as1, μ1, δ, .refl, s1, env1, w1⟩, ?_⟩
  rintro i m σ2 H2 ⟨rfl, hin, as2, μ2, δ2, e2, s2, env2, wl⟩
  obtain ⟨jg, js⟩ := jr as2 H2 μ2 e2 s2
  by_cases hlt : i < s.n
  · obtain ⟨r, hr⟩ : ∃ r, s.n - i = r + 1 := ⟨s.n - i - 1, by omega⟩
    have hr' : s.n - (i + 1) = r := by omega
    rw [hr] at wl
    unfold forLoop at wl
    split at wl
    · exact wl.elim
    · rename_i δ1 hd
      cases hq : s.get i μ2 with
      | none => rw [hq] at hd; cases hd
      | some d =>
        rw [hq] at hd
        obtain ⟨g1, g2⟩ := jg i d hlt hq
        refine .inr ⟨g1, fun σ3 H3 => s.n - (i + 1) = s.n - (i + 1) ∧ i + 1 ≤ s.n ∧ ∃ as2 μ2 δ2, Ext as1 H1 as2 H3 ∧ StH c as2 H3 μ2 ∧ EnvR c as2 H3 σ3 δ2 ∧ WantS c (forLoop s mg b (s.n - (i + 1)) (i + 1) δ2 μ2) as2 H3 D W,
          fun σ3 H3 z => ⟨s.n - (i + 1), by omega, z⟩, fun x H3 hy => ?_⟩
        obtain ⟨ex, s3, rx⟩ := g2 x H3 hy
        replace wl := WantS.mono ex wl
        replace e2 := e2.trans ex
        replace s2 := s3
        replace env2 := env2.mono ex
        refine hg as2 H3 σ2 δ2 x d δ1 env2 rx hd _ fun σ3 env3 => ?_
        refine hb as2 H3 σ3 δ1 μ2 s2 env3 _ ?_
        cases hbr : b δ1 μ2 with
        | nx δ' μ' =>
          rw [hbr] at wl
          exact fun σ' as' H' e s' env' => ⟨rfl, hlt, as', μ', δ', e2.trans e, s', env', by rw [hr']; exact WantS.mono (r := forLoop s mg b r (i + 1) δ' μ') e wl⟩
        | ct δ' μ' =>
          rw [hbr] at wl
          exact fun σ' as' H' e s' env' => ⟨rfl, hlt, as', μ', δ', e2.trans e, s', env', by rw [hr']; exact WantS.mono (r := forLoop s mg b r (i + 1) δ' μ') e wl⟩
        | bk δ' μ' => rw [hbr] at wl; exact wl
        | rt d' μ' => rw [hbr] at wl; exact wl
        | raise n δ' μ' => rw [hbr] at wl; exact wl
        | stuck => rw [hbr] at wl; exact wl
  · have ei : i = s.n := by omega
    subst ei
    rw [Nat.sub_self] at wl
    unfold forLoop at wl
    split at wl
    · rename_i hf
      exact .inl ⟨js hf, wl σ2 as2 H2 .refl s2 env2⟩
    · exact wl.elim
def whLoop (q : M Bool) (b : MS) : Nat → Env → Store → SRes
  | 0, _, _ => .stuck
  | r + 1, δ, μ => (q δ μ).toS δ fun k μ1 => if k = true then match b δ μ1 with
      | .nx δ' μ' => whLoop q b r δ' μ'
      | .ct δ' μ' => whLoop q b r δ' μ'
      | .bk δ' μ' => .nx δ' μ'
      | r => r
    else .nx δ μ1
def msWhile (n : Nat) (q : M Bool) (b : MS) : MS := fun δ μ => whLoop q b n δ μ
theorem sims_while (n : Nat) {tq : TT} {tb : TS} {q : M Bool} {b : MS} (hq : SimT c W tq q) (hb : SimS c W tb b) : SimS c W (tWhile tq tb) (msWhile n q b) := by
  intro as H σ δ μ st env D w
  refine ⟨fun m σ2 H2 => ∃ as2 μ2 δ2, Ext as H as2 H2 ∧ StH c as2 H2 μ2 ∧ EnvR c as2 H2 σ2 δ2 ∧ WantS c (whLoop q b m δ2 μ2) as2 H2 D W, ⟨n, as, μ, δ, .refl, st, env, w⟩, ?_⟩
  rintro m σ2 H2 ⟨as2, μ2, δ2, e2, s2, env2, wl⟩
  cases m with
  | zero => exact wl.elim
  | succ r =>
    unfold whLoop at wl
    refine hq as2 H2 σ2 δ2 μ2 s2 env2 _ ((want_toS (R := fun _ _ b d => b = d) env2 wl).imp ?_)
    rintro k H3 ⟨as3, μ3, _, e3, s3, rfl, w3⟩
    have env3 := env2.mono e3
    cases k with
    | false => exact iteF (w3 σ2 as3 H3 .refl s3 env3)
    | true =>
      refine iteT ⟨fun σ4 H4 => ∃ as2 μ2 δ2, Ext as H as2 H4 ∧ StH c as2 H4 μ2 ∧ EnvR c as2 H4 σ4 δ2 ∧ WantS c (whLoop q b r δ2 μ2) as2 H4 D W, fun σ4 H4 z => ⟨r, Nat.lt_succ_self r, z⟩, ?_⟩
      rw [if_pos rfl] at w3
      refine hb as3 H3 σ2 δ2 μ3 s3 env3 _ ?_
      cases hbr : b δ2 μ3 with
      | nx δ' μ' =>
        rw [hbr] at w3
        exact fun σ' as' H' e s' env' => ⟨as', μ', δ', (e2.trans e3).trans e, s', env', WantS.mono (r := whLoop q b r δ' μ') e w3⟩
      | ct δ' μ' =>
        rw [hbr] at w3
        exact fun σ' as' H' e s' env' => ⟨as', μ', δ', (e2.trans e3).trans e, s', env', WantS.mono (r := whLoop q b r δ' μ') e w3⟩
      | bk δ' μ' => rw [hbr] at w3; exact w3
      | rt d' μ' => rw [hbr] at w3; exact w3
      | raise n δ' μ' => rw [hbr] at w3; exact w3
      | stuck => rw [hbr] at w3; exact w3
/-! ### raise -/
def msRaise (n : Nat) : MS := fun δ μ => .raise n δ μ
theorem sims_raise (n : Nat) : SimS c W (fun _ σ H => W (.ref (c.cl n)) none σ H) (msRaise n) := fun as H σ δ μ st env D w => w σ as H .refl st env
/-! ### a def -/
def startD (N : Nat) (ds : List Dat) : Env := ds.map some ++ List.replicate (N - ds.length) none
def runB (N : Nat) (b : MS) : FA := fun ds μ => match b (startD N ds) μ with
  | .nx _ μ' => .ok .non μ'
  | .rt d μ' => .ok d μ'
  | .raise n _ μ' => .raise n μ'
  | _ => .stuck
theorem env_start {N : List Str} {vs : List V} {ds : List Dat} (r : RelAll c as H vs ds) : EnvR c as H (L2.start N vs) (startD N.length ds) := by
  unfold L2.start startD
  refine ⟨by simp [r.length], fun i d h => ?_⟩
  by_cases hi : i < ds.length
  · rw [List.getElem?_append_left (by simpa using hi), List.getElem?_map] at h
    rw [List.getElem?_append_left (by simpa [r.length] using hi), List.getElem?_map]
    cases hd : ds[i]? with
    | none => rw [hd] at h; cases h
    | some d' =>
      rw [hd] at h
      cases h
      obtain ⟨v, h1, h2⟩ := r.get hd
      exact ⟨v, by rw [h1]; rfl, h2⟩
  · rw [List.getElem?_append_right (by simpa using Nat.le_of_not_lt hi), List.getElem?_replicate] at h
    split at h <;> cases h
section
variable {P : Program} {w : World} {K : PySem.W.Frag} {mg : Str → Option Value} {base : Heap}
theorem want_run {N : List Str} {b : MS} {vs : List V} {ds : List Dat} {t : TS} {Q : VK} {E : XK} (hb : SimS c (fun cls d _ H => E cls d H) t b) (st : StH c as H μ) (rs : RelAll c as H vs ds)
    (h : Want c (Rel c) (runB N.length b ds μ) as H [] Q fun cls d _ H => E cls d H) : t { nx := fun _ H' => Q .non H', rt := Q } (L2.start N vs) H := by
  refine hb as H (L2.start N vs) _ μ st (env_start rs) _ ?_
  unfold runB at h
  cases hr : b (startD N.length ds) μ with
  | nx δ' μ' => rw [hr] at h; exact fun σ' as' H' e s _ => h .non as' H' e s .non
  | rt d μ' => rw [hr] at h; exact h
  | bk δ' μ' => rw [hr] at h; exact h.elim
  | ct δ' μ' => rw [hr] at h; exact h.elim
  | raise n δ' μ' => rw [hr] at h; exact fun σ' as' H' e s _ => h as' H' e s
  | stuck => rw [hr] at h; exact h.elim
/-- a def that may raise -/
theorem fn_simX {x qual : Str} {st : Stmt} {f : Addr} {fd : FuncData} {N ps : List Str} {k n : Nat} {b : MS} (F : Fun K x qual st f fd) (S : FnScope N ps (defScope st)) (hn : n = ps.length)
    (hbody : ∀ (cdv : Value) (A : Around) (outer : List PySem.Env) (s : Shared) (H : Hp) (E : XK), Room k (A.deeper (envOfC qual (defScope st) s.heap.objs.size f cdv)) →
      ∃ t, PSs (cxOf (L2.CX P w) P w K mg base N qual (defScope st) f cdv A outer s H E) (defBody st) t ∧ SimS c (fun cls d _ H => E cls d H) t b) :
    FnOk P w K mg base (L2.CX P w) (k + 1) f fd ps (spM c n (runB N.length b)) := by
  refine F.okX S (fun vs H Q E h => h.1.trans hn) (fun cdv A outer s H vs Q E hr h => ?_)
  obtain ⟨t, h1, h2⟩ := hbody cdv A outer s H E hr
  obtain ⟨_, as, μ, ds, st, rs, w⟩ := h
  exact ⟨t, h1, want_run h2 st rs w⟩
theorem want_nrE {R : List Addr → Hp → β → α → Prop} {f : FA} {ds : List Dat} {Q : VK} {W W' : WX} (w : Want c (Rel c) (nr f ds μ) as H σ Q W) : Want c (Rel c) (f ds μ) as H σ Q W' := by
  unfold nr at w
  cases h : f ds μ with
  | ok x μ' => rw [h] at w; exact w
  | raise n μ' => rw [h] at w; exact w.elim
  | stuck => rw [h] at w; exact w
/-- a def that raises nothing -/
theorem fn_sim0 {x qual : Str} {st : Stmt} {f : Addr} {fd : FuncData} {N ps : List Str} {k n : Nat} {b : MS} (F : Fun K x qual st f fd) (S : FnScope N ps (defScope st)) (hn : n = ps.length)
    (hbody : ∀ (cdv : Value) (A : Around) (outer : List PySem.Env) (s : Shared) (H : Hp) (E : XK), Room k (A.deeper (envOfC qual (defScope st) s.heap.objs.size f cdv)) →
      ∃ t, PSs (cxOf CX0 P w K mg base N qual (defScope st) f cdv A outer s H E).nox (defBody st) t ∧ SimS c (fun _ _ _ _ => False) t b) :
    FnOk P w K mg base CX0 (k + 1) f fd ps (spM c n (nr (runB N.length b))) := by
  refine F.ok S (fun vs H Q E h => h.1.trans hn) (fun cdv A outer s H vs Q E hr h => ?_)
  obtain ⟨t, h1, h2⟩ := hbody cdv A outer s H E hr
  obtain ⟨_, as, μ, ds, st, rs, w⟩ := h
  exact ⟨t, h1, want_run (E := fun _ _ _ => False) h2 st rs (want_nrE (R := Rel c) w)⟩
end
end
end Nh

namespace Nh
open PySem PySem.Spec PyProof.Rows L2
def ExOd (cls : Value) (d : Option Addr) (a : Addr) : HO := .ext fun h => ∃ oe vs, h.get? a = some oe ∧ Zc cls d oe ∧ oe.data = .fields vs
section
variable {X : Cx} {pins : List (Addr × Obj)} {σ : L2.St} {H : Hp} {s : Shared}
/-- behind an except suite the exception is an object that we know -/
theorem inv_keep {a : Addr} {oe : Obj} {cls : Value} {d : Option Addr} (J : Inv (X.suite a ((a, oe) :: (X.pn ++ pins))) [] σ H s) (ok : X.Ok) (hz : Zc cls d oe) (hd : ∃ vs, oe.data = .fields vs)
    (hex : X.ex = []) (fresh : X.s_0.heap.get? a = none) (apart : ∀ p ∈ X.pn ++ pins, p.1 ≠ a) : Inv X pins σ (upd H a (ExOd cls d a)) s := by
  obtain ⟨vs, hv⟩ := hd
  have I := J.unsuite ok
  obtain ⟨ga, na, nl, nf, _⟩ := J.pin (a, oe) (List.mem_append_left _ List.mem_cons_self)
  have other : ∀ {b : Addr} {o : HO}, H b = some o → b ≠ a := fun e => ne_of_none e na
  refine ⟨ok, I.os, I.bare, ⟨I.base.keep, I.base.slot, ?free, I.base.there, ?tups, ?frzs, ?tbls⟩, I.loc, I.cell, ?frame, ?cells, ?pins, ?hok, I.len⟩
  case free =>
    intro b o e n hb
    have ne : b ≠ a := by
      rintro rfl
      rw [fresh] at e
      cases e
    rw [upd_ne ne]
    exact I.base.free b o e n hb
  case tups =>
    intro b xs e
    have q := I.base.tups b xs e
    rw [upd_ne (other q)]
    exact q
  case frzs =>
    intro b o u e
    have q := I.base.frzs b o u e
    rw [upd_ne (other q)]
    exact q
  case tbls =>
    intro b ps e
    obtain ⟨more, q⟩ := I.base.tbls b ps e
    exact ⟨more, by rw [upd_ne (other q)]; exact q⟩
  case frame =>
    rw [upd_ne (fun z => nl z.symm)]
    exact I.free
  case cells =>
    intro x c e
    have ne : c ≠ a := by
      rintro rfl
      obtain ⟨v, o, ho, hw⟩ := I.cell x c e
      rw [ga] at ho
      cases ho
      rw [hv] at hw
      cases hw
    rw [upd_ne ne]
    exact I.freeC x c e
  case pins =>
    intro p hp
    obtain ⟨q1, q2, q3, q4, q5⟩ := I.pin p hp
    exact ⟨q1, by rw [upd_ne (apart p hp)]; exact q2, q3, q4, q5⟩
  case hok =>
    intro b o e
    by_cases hb : b = a
    · subst hb
      rw [upd_same] at e
      cases e
      exact ⟨⟨oe, vs, ga, hz, hv⟩, ⟨oe, ga⟩, fun h1 h2 z k => by
        obtain ⟨o1, v1, e1, z1, d1⟩ := z
        exact ⟨o1, v1, k _ e1, z1, d1⟩⟩
    · rw [upd_ne hb] at e
      exact (I.hok b o e).stay (fun _ _ _ q => q) (fun _ q => by rw [upd_ne (other q)]; exact q) fun _ _ q => by rw [upd_ne (other q)]; exact q
/-- what «except x as n: suite» wishes of an exception, which is kept: slot i is n's -/
def wKeep (K : PySem.W.Frag) (cv : Value) (i : Nat) (ts : Addr → Value → Option Addr → TS) (Wout : WX) (D : Ends) : WX := fun cls d σ H =>
  ∃ b, PySem.W.exmOne K cls cv = some b ∧ (b = true → ∀ a, H a = none → ts a cls d
    ⟨fun σ1 H1 => H1 a = none → D.nx (σ1.set i none) (upd H1 a (ExOd cls d a)), D.rt, fun σ1 H1 => D.bk (σ1.set i none) H1, fun σ1 H1 => D.ct (σ1.set i none) H1⟩ (σ.set i (some (.ref a))) H) ∧
    (b = false → Wout cls d σ H)
variable {x n : Str} {cv : Value} {i : Nat} {body suite : List Stmt} {st0 : Stmt} {np pos hpos : Pos} {tb : WX → TS} {ts : Addr → Value → Option Addr → TS} {Wout : WX}
theorem ps_try_keep (hstk : X.stack = X.env :: X.outer) (hfrm : X.env.frame = some X.env.locals) (hex : X.ex = []) (hN : X.N.Nodup) (hi : X.N[i]? = some n) (hln : X.env.kindOf n = some .local) (hcl : Names X x cv) (tk : Takes X Wout)
    (hbody : ∀ (W : WX) (pn : List (Addr × Obj)) (xe : Value → Shared → Prop), Takes (X.tr pn xe) W → PassesOwn (model X.prog X.w) X.A X.env xe → PSs (X.tr pn xe) body (tb W))
    (hsuite : ∀ (a : Addr) (oe : Obj) (cls : Value) (d : Option Addr) (pn : List (Addr × Obj)), Zc cls d oe → (∃ vs, oe.data = .fields vs) → PSs (X.suite a ((a, oe) :: pn)) (st0 :: suite) (ts a cls d)) :
    PS X (.Try body [.ExceptHandler (some (.Name x np)) (some n) (st0 :: suite) hpos] [] [] pos) (fun D σ H => tb (wKeep X.K cv i ts Wout D) D σ H) := by
  constructor
  intro pins s σ H D I h
  have ok := I.ok
  have frames : X.A.frames = some (X.env :: X.outer) := ok.frames.trans (congrArg some hstk)
  apply wpAny_Try_except
  have run := (hbody (wKeep X.K cv i ts Wout D) (X.pn ++ pins) (fun e s₁ => wpAny (model X.prog X.w) X.A (noteFrame e X.env)
    (fun _ s₂ => wpAny (model X.prog X.w) X.A (setFlight e none)
      (fun _ s₃ => wpAny (model X.prog X.w) X.A (handleBy e X.env [.ExceptHandler (some (.Name x np)) (some n) (st0 :: suite) hpos]) (SP X pins D) X.xe s₃) X.xe s₂) X.xe s₁)
    (fun u s' flying => ?caught) PassesOwn.looking).run [] s σ H D (I.toTry _) h
  refine wpAny_mono run (fun f s1 q => ?ended) fun _ _ z => z
  case ended =>
    cases f with
    | next =>
      obtain ⟨σ1, H1, J, q⟩ := q
      exact wpAny_execs_nil ⟨σ1, H1, J.ofTry ok, q⟩
    | brk =>
      obtain ⟨σ1, H1, J, q⟩ := q
      exact ⟨σ1, H1, J.ofTry ok, q⟩
    | cont =>
      obtain ⟨σ1, H1, J, q⟩ := q
      exact ⟨σ1, H1, J.ofTry ok, q⟩
    | ret u =>
      obtain ⟨v, σ1, H1, J, r, q⟩ := q
      exact ⟨v, σ1, H1, J.ofTry ok, r, q⟩
  case caught =>
    obtain ⟨a, G, sI, pins2, τ, L, cls, d, rfl, Jt, ground, up, sky, na, hos, gens, b, hmatch, yes, no⟩ := flying
    have J : Inv X pins τ L sI := Jt.ofTry ok
    have sky2 : Sky G (X.env :: X.outer) a (Zc cls d) X.env.locals s'.heap := hstk ▸ sky
    show wpAny (model X.prog X.w) X.A (noteFrame (.ref a) X.env) _ _ _
    refine sky2.land Zc.steady frames hfrm fun g3 fl3 up3 => ?_
    have J3 : Inv X pins τ L { s' with heap := g3 } := J.landed ground fl3.1 (up.trans up3) hos gens
    have apartF : a ∉ frs (X.env :: X.outer) := fun hm => by
      obtain ⟨oe, vs, he, _, hw⟩ := fl3.there
      obtain ⟨_, o2, e2, nofields⟩ := fl3.2.2.1.mem hm
      rw [he] at e2
      cases e2
      exact nofields _ hw
    have notLocals : a ≠ X.env.locals := fun z => apartF (List.mem_filterMap.mpr ⟨X.env, List.mem_cons_self, by rw [hfrm, z]⟩)
    have notOuter : a ∉ X.fs := fun hm => by
      obtain ⟨e, he, q⟩ := List.mem_filterMap.mp hm
      exact apartF (List.mem_filterMap.mpr ⟨e, List.mem_cons_of_mem _ he, q⟩)
    have unborn : sI.heap.get? a = none := by
      cases q : sI.heap.get? a with
      | none => rfl
      | some o =>
        have z := ground a o q (by rw [hstk]; exact apartF)
        rw [fl3.2.1] at z
        cases z
    have fresh : X.s_0.heap.get? a = none := by
      cases q : X.s_0.heap.get? a with
      | none => rfl
      | some o =>
        obtain ⟨o2, z⟩ := J.base.there a o q (by rw [hex]; exact List.not_mem_nil)
        rw [unborn] at z
        cases z
    have apart : ∀ p ∈ X.pn ++ pins, p.1 ≠ a := fun p hp z => by
      have q := (J.pin p hp).1
      rw [z, unborn] at q
      cases q
    obtain ⟨oe3, vs3, he3, hz3, hd3⟩ := fl3.there
    have S3 := J3.suite he3 hd3 na notLocals notOuter
    refine wpAny_handleBy_cons (codeAny_handlers_test ?_) fun z => nomatch z
    have kind : PySem.W.Looks (model X.prog X.w) g3 (typeOf (.ref a)) cls := fun A Q E t k q => wpAny_typeOf_ref (k _ _ he3) (by rw [hz3.1]; exact q)
    have test : ∀ {Q : Value → Shared → Prop} {E : Value → Shared → Prop}, Q cv { s' with heap := g3 } → wpAny (model X.prog X.w) (X.A.mark (some (.ref a))) (eval (.Name x np) X.env) Q E { s' with heap := g3 } := by
      intro Q E q
      obtain ⟨hg, hdb, hm | ⟨hm, hv, hnn⟩⟩ := hcl
      · exact ld_glob (X := X.suite a ((a, oe3) :: (X.pn ++ pins))) S3 hg hm q hdb
      · exact ld_blt (X := X.suite a ((a, oe3) :: (X.pn ++ pins))) S3 hg hm hv q hnn hdb
    refine test ((PySem.W.exm_one (M := model X.prog X.w) J3.kIn kind hmatch).here ?_)
    cases b with
    | true =>
      refine codeAny_handlers_suite_as (HandSPX.lands_againZ fl3 fun g4 fl4 up4 => ?_)
      have J4 : Inv X pins τ L { s' with heap := g4 } := J.landed ground fl4.1 ((up.trans up3).trans up4) hos gens
      obtain ⟨oe4, vs4, he4, hz4, hd4⟩ := fl4.there
      have S4 := J4.suite he4 hd4 na notLocals notOuter
      refine store_ok (X := X.suite a ((a, oe4) :: (X.pn ++ pins))) (v := .ref a) S4 hN hi (.inl hln) rfl (fun s5 S5 => ?_) (.inr hln)
      refine wpAny_mono ((hsuite a oe4 cls d (X.pn ++ pins) hz4 ⟨_, hd4⟩).run [] s5 _ L _ S5 (yes rfl a na)) (fun f s6 q => ?_) fun _ _ z => False.elim z
      have fin : ∀ {τ6 : L2.St} {L6 : Hp} {Q : Shared → Prop}, Inv (X.suite a ((a, oe4) :: (X.pn ++ pins))) [] τ6 L6 s6 → (∀ s7, Inv X pins (τ6.set i none) L6 s7 → Q s7) →
          wpAny (model X.prog X.w) X.A (do bindName X.env n .none; unbindBehindTheSuite X.env n hpos) (fun _ s7 => Q s7) X.xe s6 := fun S hq => gone_ok (S.unsuite ok) hN hi hln hq
      cases f with
      | next =>
        obtain ⟨τ6, L6, S6, q6⟩ := q
        have nL : L6 a = none := (S6.pin (a, oe4) (List.mem_append_left _ List.mem_cons_self)).2.1
        exact gone_ok (inv_keep S6 ok hz4 ⟨_, hd4⟩ hex fresh apart) hN hi hln fun s7 J7 => ⟨_, _, J7, q6 nL⟩
      | brk =>
        obtain ⟨τ6, L6, S6, q6⟩ := q
        exact fin S6 fun s7 J7 => ⟨_, _, J7, q6⟩
      | cont =>
        obtain ⟨τ6, L6, S6, q6⟩ := q
        exact fin S6 fun s7 J7 => ⟨_, _, J7, q6⟩
      | ret u =>
        obtain ⟨v6, τ6, L6, S6, r6, q6⟩ := q
        exact fin S6 fun s7 J7 => ⟨_, _, _, J7, r6, q6⟩
    | false =>
      show wpAny _ X.A (handleBy (.ref a) X.env []) _ _ _
      refine wpAny_handleBy_nil ?_
      obtain ⟨k1, k2, k3, oe, vs, T, oT, ts', he, hz, hd, h1, hr⟩ := id fl3
      unfold PySem.passOn
      refine wpAny_bind (wpAny_field he hd h1 ?_)
      have hT : ¬ ((Value.ref T == Value.none) = true) := by simp
      rw [if_neg hT]
      have fin : wpAny (model X.prog X.w) X.A (setFlight (.ref a) X.env.frame) (fun _ s4 => wpAny (model X.prog X.w) X.A (throw (.ref a) : Sem Flow) (SP X pins D) X.xe s4) X.xe { s' with heap := g3 } := by
        rw [hfrm]
        refine HandSPX.setFlight_upZ fl3 fun g4 held up4 => wpAny_throw (tk _ _ ?_)
        exact ⟨a, G, sI, pins, τ, L, cls, d, rfl, J, ground, (up.trans up3).trans up4, .inr (.inr (hstk.symm ▸ held)), na, hos, gens, no rfl⟩
      first
        | exact wpAny_bind (wpAny_pure (wpAny_bind fin))
        | exact wpAny_bind fin
end
end Nh

namespace Nh
open PySem PySem.Spec PyProof.Rows L2
/-! ### isinstance of data and of kept exceptions -/
inductive TyE (K : PySem.W.Frag) (H : Hp) : V → Value → Prop where
  | x {v : V} {t : Value} (h : TyX K H v t) : TyE K H v t
  | exc {a B : Addr} (h : H a = some (ExOd (.ref B) none a)) (k : ExcC K B) : TyE K H (.ref a) (.ref B)
section
variable {X : Cx} {pins : List (Addr × Obj)} {σ : L2.St} {H : Hp} {s : Shared}
theorem kit_ofE {v : V} {u t : Value} (I : Inv X pins σ H s) (rv : RelV v u) (ty : TyE X.K H v t) : ∃ P : Heap → Prop, PySem.W.KitX X.K u t P ∧ P s.heap ∧ u ≠ .builtin "__main__.__loader__#opaque" := by
  cases ty with
  | x h => exact kit_of I rv h
  | @exc a B h k =>
    obtain rfl : u = Value.ref a := rv
    obtain ⟨⟨oe, vs, ge, hz, hv⟩, _, _⟩ := (show ObjOk X.prog X.w H s.heap a (ExOd (.ref B) none a) from I.hok a _ h)
    obtain ⟨oc, od, oda, osl⟩ := oe
    obtain ⟨z1, z2⟩ := hz
    dsimp only at z1 z2 hv
    subst z1 z2 hv
    exact ⟨_, PySem.W.handS_kitx_exc k.hg k.hk k.hs k.hd k.ha k.hn k.ht k.hm, (show PySem.W.InstAt s.heap a _ B none from ⟨ge, rfl, rfl, trivial⟩), fun z => nomatch z⟩
end
def rIsA (K : PySem.W.Frag) : List V → Hp → VK → Prop := fun xs H Q =>
  (∃ (v k : V) (t u : Value) (b : Bool), xs = [v, k] ∧ ClsV k u ∧ TyE K H v t ∧ PySem.W.kitOne K t u = some b ∧ Q (.bl b) H) ∨
  ∃ (v : V) (tp : Addr) (cs : List V) (t : Value) (us : List Value) (b : Bool), xs = [v, .ref tp] ∧ SqT K H tp cs ∧ Paired ClsV cs us ∧ TyE K H v t ∧ PySem.W.kitAny K t us = some b ∧ Q (.bl b) H
theorem call_isA {X : Cx} : CallR X (.builtin "isinstance") (rIsA X.K) := by
  intro pins s σ H xs us Q I r h
  rcases h with ⟨v, k, t, u, b, rfl, kc, ty, e, q⟩ | ⟨v, tp, cs, t, ws, b, rfl, hT, kc, ty, e, q⟩
  · obtain ⟨u1, u2, rfl, r1, r2⟩ := vals2 r
    obtain rfl := kc.eq r2
    obtain ⟨P, Z, p, hx⟩ := kit_ofE I r1 ty
    exact PySem.W.kia_one Z I.kIn p e hx fun tk => ⟨.bl b, H, I.tok tk, rfl, q⟩
  · obtain ⟨u1, u2, rfl, r1, r2⟩ := vals2 r
    cases (show u2 = Value.ref tp from r2)
    obtain ⟨P, Z, p, hx⟩ := kit_ofE I r1 ty
    obtain ⟨its, rv, ⟨o, h1, h2, n, h3⟩, _⟩ := I.tuple hT
    have e3 := ClsV.all kc rv
    subst e3
    obtain ⟨oc, od, dt, sl⟩ := o
    dsimp only at h2 h3
    subst h2 h3
    exact PySem.W.kia_tup Z I.kIn p h1 e hx fun tk => ⟨.bl b, H, I.tok tk, rfl, q⟩
/-- what is known of the program's classes -/
structure Tab where
  sub : Nat → Nat → Option Bool
  subTy : Nat → String → Option Bool
  kc : String → Nat → Option Bool
structure TabOk (c : Cfg) (tb : Tab) : Prop where
  sub : ∀ n m b, tb.sub n m = some b → PySem.W.kitOne c.K (.ref (c.cl n)) (.ref (c.cl m)) = some b
  subTy : ∀ n m b, tb.subTy n m = some b → PySem.W.kitOne c.K (.ref (c.cl n)) (.type m) = some b
  kc : ∀ n m b, tb.kc n m = some b → PySem.W.kitOne c.K (.type n) (.ref (c.cl m)) = some b
  exc : ∀ n, tb.sub n n = some true → ExcC c.K (c.cl n)
section
variable {c : Cfg} {as as' : List Addr} {H H' : Hp} {σ : L2.St} {δ : Env} {μ : Store} {W : WX} {tb : Tab}
def tyD (μ : Store) : Dat → Option (Sum String Nat)
  | .cell k => match μ[k]? with
    | some (.exc n) => some (.inr n)
    | _ => (kindD μ (.cell k)).map .inl
  | d => (kindD μ d).map .inl
def tyVal (c : Cfg) : Sum String Nat → Value
  | .inl k => .type k
  | .inr n => .ref (c.cl n)
def tabHas (tb : Tab) : Sum String Nat → Bool
  | .inl _ => true
  | .inr n => tb.sub n n == some true
theorem tyD_of {v : V} {d : Dat} {t : Sum String Nat} (ok : TabOk c tb) (st : StH c as H μ) (r : Rel c as H v d) (h : tyD μ d = some t) (hb : tabHas tb t = true) : TyE c.K H v (tyVal c t) := by
  have plain : ∀ {d : Dat} {t : Sum String Nat}, Rel c as H v d → (kindD μ d).map Sum.inl = some t → TyE c.K H v (tyVal c t) := by
    intro d t r h
    cases hk : kindD μ d with
    | none => rw [hk] at h; cases h
    | some k => rw [hk] at h; cases h; exact .x (kindD_of st r hk)
  unfold tyD at h
  split at h
  · split at h
    · rename_i k n hk
      cases h
      cases r with
      | cell ha =>
        have e := st.cell_at hk ha
        exact .exc e (ok.exc n (by simpa [tabHas] using hb))
    · exact plain r h
  · exact plain r h
def oneD (tb : Tab) (t : Sum String Nat) : Dat → Option Bool
  | .ty s => match t with
    | .inl k => kitB k s
    | .inr n => tb.subTy n s
  | .cls m => match t with
    | .inl k => tb.kc k m
    | .inr n => tb.sub n m
  | _ => none
theorem oneD_of {v : V} {d : Dat} {t : Sum String Nat} {b : Bool} (ok : TabOk c tb) (r : Rel c as H v d) (h : oneD tb t d = some b) : ∃ u, ClsV v u ∧ PySem.W.kitOne c.K (tyVal c t) u = some b := by
  cases r with
  | ty n =>
    refine ⟨.type n, .ty n, ?_⟩
    cases t with
    | inl k => exact kit_ty h
    | inr m => exact ok.subTy m n b h
  | cls m =>
    refine ⟨.ref (c.cl m), .own _, ?_⟩
    cases t with
    | inl k => exact ok.kc k m b h
    | inr n => exact ok.sub n m b h
  | _ => cases h
def anyD (tb : Tab) (t : Sum String Nat) : List Dat → Option Bool
  | [] => some false
  | d :: r => match oneD tb t d, anyD tb t r with
    | some a, some b => some (a || b)
    | _, _ => none
theorem anyD_of {t : Sum String Nat} (ok : TabOk c tb) : ∀ {ds : List Dat} {vs : List V} {b : Bool}, RelAll c as H vs ds → anyD tb t ds = some b → ∃ us, Paired ClsV vs us ∧ PySem.W.kitAny c.K (tyVal c t) us = some b
  | [], _, _, r, h => by cases h; cases r; exact ⟨[], .nil, kitAny_nil⟩
  | d :: ds, _, b, r, h => by
    cases r with
    | cons h1 t1 =>
      unfold anyD at h
      split at h
      · rename_i p q e1 e2
        cases h
        obtain ⟨u, k1, k2⟩ := oneD_of ok h1 e1
        obtain ⟨us, k3, k4⟩ := anyD_of ok t1 e2
        refine ⟨u :: us, .cons k1 k3, kitAny_cons k2 (fun hp => ?_) fun hp => ?_⟩
        · subst hp
          exact k4
        · subst hp
          rfl
      · cases h
def fIsA (tb : Tab) : FA := fun ds μ => match ds with
  | [d, .tup cs] => match tyD μ d with
    | some t => if tabHas tb t = true then match anyD tb t cs with
      | some b => .ok (.bl b) μ
      | none => .stuck else .stuck
    | none => .stuck
  | [d, k] => match tyD μ d with
    | some t => if tabHas tb t = true then match oneD tb t k with
      | some b => .ok (.bl b) μ
      | none => .stuck else .stuck
    | none => .stuck
  | _ => .stuck
theorem simc_isA (ok : TabOk c tb) : SimC c (rIsA c.K) (fIsA tb) := by
  intro as H μ vs ds st rs σ W Q h
  unfold fIsA at h
  split at h
  · split at h
    · rename_i t ht
      split at h
      · rename_i hb
        split at h
        · rename_i b hy
          obtain ⟨v, w, rfl, r, rn⟩ := rel2 rs
          cases rn with
          | tup h1 h2 =>
            obtain ⟨us, k3, k4⟩ := anyD_of ok h2 hy
            exact .inr ⟨v, _, _, tyVal c t, us, b, rfl, h1.sq, k3, tyD_of ok st r ht hb, k4, h _ as H .refl st (.bl _)⟩
        · exact h.elim
      · exact h.elim
    · exact h.elim
  · split at h
    · rename_i t ht
      split at h
      · rename_i hb
        split at h
        · rename_i b hy
          obtain ⟨v, w, rfl, r, rn⟩ := rel2 rs
          obtain ⟨u, k1, k2⟩ := oneD_of ok rn hy
          exact .inl ⟨v, w, tyVal c t, u, b, rfl, k1, tyD_of ok st r ht hb, k2, h _ as H .refl st (.bl _)⟩
        · exact h.elim
      · exact h.elim
    · exact h.elim
  · exact h.elim
/-! ### try: body; except x as n: suite, the exception kept -/
/-- the clause names class m; its name has slot i; the suite stores it in slot j -/
def msTry (tb : Tab) (m i j : Nat) (b : MS) : MS := fun δ μ => match b δ μ with
  | .raise n δ' μ' => match tb.sub n m with
    | some true => if i < δ'.length then .nx (((δ'.set i (some (.cell μ'.length))).set j (some (.cell μ'.length))).set i none) (μ' ++ [.exc n]) else .stuck
    | some false => .raise n δ' μ'
    | none => .stuck
  | r => r
theorem sims_try {m i j : Nat} {tbd : WX → TS} {b : MS} (hs : ∀ n k, tb.sub n m = some k → PySem.W.exmOne c.K (.ref (c.cl n)) (.ref (c.cl m)) = some k) (hb : ∀ W, SimS c W (tbd W) b) :
    SimS c W (fun D σ H => tbd (wKeep c.K (.ref (c.cl m)) i (fun _ _ _ => tAsg (tVar i) (gName j)) W D) D σ H) (msTry tb m i j b) := by
  intro as H σ δ μ st env D w
  refine hb _ as H σ δ μ st env D ?_
  unfold msTry at w
  cases hr : b δ μ with
  | nx δ' μ' => rw [hr] at w; exact w
  | rt d μ' => rw [hr] at w; exact w
  | bk δ' μ' => rw [hr] at w; exact w
  | ct δ' μ' => rw [hr] at w; exact w
  | stuck => rw [hr] at w; exact w
  | raise n δ' μ' =>
    rw [hr] at w
    intro σ1 as1 H1 e1 s1 env1
    dsimp only at w
    split at w
    · rename_i hk
      split at w
      · rename_i hlt
        refine ⟨true, hs n true hk, fun _ a na => ?_, fun z => absurd z.symm Bool.false_ne_true⟩
        have hi1 : i < σ1.length := by rw [env1.len]; exact hlt
        refine ⟨.ref a, by rw [List.getElem?_set_self hi1], fun nb => ?_⟩
        have ea : Ext as1 H1 (as1 ++ [a]) (upd H1 a (ExOd (.ref (c.cl n)) none a)) := ext_alloc na
        have sa := s1.alloc (o := ExOd (.ref (c.cl n)) none a) (x := .exc n) na upd_same
        have ra : Rel c (as1 ++ [a]) (upd H1 a (ExOd (.ref (c.cl n)) none a)) (.ref a) (.cell μ'.length) := rel_alloc s1
        exact w _ _ _ (e1.trans ea) sa ((((env1.mono ea).set i ra).set j ra).setN i)
      · exact w.elim
    · rename_i hk
      exact ⟨false, hs n false hk, (fun z => absurd z Bool.false_ne_true), fun _ => w σ1 as1 H1 e1 s1 env1⟩
    · exact w.elim
end
end Nh

namespace Nh
open PySem PySem.Spec PyProof.Rows L2
/-- a text some times over -/
def rMulS : R2 := fun x y H Q => ∃ (z : Str) (n : Int), x = .str z ∧ y = .int n ∧ (0 ≤ n ∧ n ≤ 1000 ∧ z.length ≤ 1000) ∧ Q (.str (Txt.mul z n)) H
theorem mulOk_small {z : Str} {n : Int} (h : 0 ≤ n ∧ n ≤ 1000 ∧ z.length ≤ 1000) : MulOk z n := by
  obtain ⟨h0, h1, h2⟩ := h
  refine ⟨?_, fun hn _ => ?_, fun hn _ => ?_⟩
  · rw [decide_eq_false (by omega : ¬ n < -(2 ^ 63 : Int)), decide_eq_false (by omega : ¬ n ≥ 2 ^ 63)]
    rfl
  · have hz : (z.length : Int) ≤ 1000 := by omega
    have hq : (1000 : Int) ≤ (2 ^ 63 - 1) / n := by
      refine (Int.le_ediv_iff_mul_le (by omega)).mpr ?_
      omega
    omega
  · unfold Builtin.Str.tooLong
    have hm : z.length * n.toNat ≤ 1000 * 1000 := Nat.mul_le_mul h2 (by omega)
    have hs : sizeLine = 16777216 := sizeLine_eq
    simp only [decide_eq_false_iff_not, Nat.not_lt, gt_iff_lt]
    omega
theorem op_mulS {X : Cx} : OpR X (binaryOp .Mult) rMulS := by
  intro pins s σ H x y v u Q I rx ry h
  obtain ⟨z, n, rfl, rfl, hok, q⟩ := h
  obtain ⟨t, rfl⟩ := rx
  obtain ⟨t2, rfl⟩ := ry
  exact PySem.SB.mul (mulOk_small hok) fun t' k => ⟨.str _, H, I.tok k, ⟨t', rfl⟩, q⟩
section
variable {c : Cfg}
def fMulS : F2 := fun x y μ => match x, y with
  | .str z, .int n => if 0 ≤ n ∧ n ≤ 1000 ∧ z.length ≤ 1000 then .ok (.str (Txt.mul z n)) μ else .stuck
  | _, _ => .stuck
theorem simr_mulS : SimR c rMulS fMulS := by
  intro as H μ v w x y st rx ry σ W Q h
  unfold fMulS at h
  split at h
  · split at h
    · rename_i hz
      cases rx
      cases ry
      exact ⟨_, _, rfl, rfl, hz, h _ as H .refl st (.str _)⟩
    · exact h.elim
  · exact h.elim
end
end Nh

namespace Nh
open PySem PySem.Spec PyProof.Rows L2
/-! ### isinstance and except over own classes, from what the top has written -/
theorem kit_one {K : PySem.W.Frag} {A C : Addr} {b : Bool} (ci : PySem.W.isClsIn K C = true) (ty : PySem.W.typeIn K (.ref C) = some (.type "type")) (self : PySem.W.subIn K (.ref C) (.ref C) = some true)
    (s : PySem.W.subIn K (.ref A) (.ref C) = some b) : PySem.W.kitOne K (.ref A) (.ref C) = some b := by
  unfold PySem.W.kitOne
  by_cases e : ((Value.ref A) == (Value.ref C)) = true
  · rw [if_pos e]
    have e2 : A = C := Value.ref.inj (beq_iff_eq.mp e)
    subst e2
    exact self.symm.trans s
  · rw [if_neg e]
    show (if ((PySem.W.clsIn K C).isSome && PySem.W.typeIn K (.ref C) == some (.type "type")) = true then PySem.W.subIn K (.ref A) (.ref C) else none) = some b
    have ci' : (PySem.W.clsIn K C).isSome = true := ci
    rw [ci', ty, if_pos (by rfl)]
    exact s
theorem exm_one_ {K : PySem.W.Frag} {A C : Addr} {b : Bool} (bs : PySem.W.subIn K (.ref C) (.type "BaseException") = some true) (ci : PySem.W.isClsIn K C = true) (ty : PySem.W.typeIn K (.ref C) = some (.type "type"))
    (s : PySem.W.subIn K (.ref A) (.ref C) = some b) : PySem.W.exmOne K (.ref A) (.ref C) = some b := by
  unfold PySem.W.exmOne
  rw [bs, if_pos (by rfl)]
  show (if ((PySem.W.clsIn K C).isSome && PySem.W.typeIn K (.ref C) == some (.type "type")) = true then PySem.W.subIn K (.ref A) (.ref C) else none) = some b
  have ci' : (PySem.W.clsIn K C).isSome = true := ci
  rw [ci', ty, if_pos (by rfl)]
  exact s
theorem kit_val {K : PySem.W.Frag} {A : Addr} {t : String} {b : Bool} (s : PySem.W.subIn K (.ref A) (.type t) = some b) (hm : PySem.W.kitMeta t = true) : PySem.W.kitOne K (.ref A) (.type t) = some b := by
  unfold PySem.W.kitOne
  have ne : ¬ ((Value.ref A == Value.type t) = true) := fun e => Value.noConfusion (beq_iff_eq.mp e)
  rw [if_neg ne]
  show (if PySem.W.kitMeta t = true then PySem.W.subIn K (.ref A) (.type t) else none) = some b
  rw [if_pos hm]
  exact s
/-! ### the law itself -/
theorem fn_mono {P : Program} {w : World} {K : PySem.W.Frag} {mg : Str → Option Value} {base : Heap} {CX : CXT} {k : Nat} {f : Addr} {fd : FuncData} {ps : List Str} {sp sp' : Sp}
    (F : FnOk P w K mg base CX k f fd ps sp) (h : ∀ vs H Q E, sp' vs H Q E → sp vs H Q E) (hl : ∀ vs H Q E, sp' vs H Q E → vs.length = 1 → True) : FnOk P w K mg base CX k f fd ps sp' :=
  ⟨fun vs H Q E z => F.len vs H Q E (h vs H Q E z), fun A outer s H args us vs Q E hr e0 hb r z => F.run A outer s H args us vs Q E hr e0 hb r (h vs H Q E z)⟩
def spLaw (K : PySem.W.Frag) : Sp := fun vs H Q _ => ∃ (a : Addr) (ns : List Int), vs = [.ref a] ∧ ns.length ≤ 63 ∧ Only H ∧ SqL K H a (ns.map V.int) ∧ ∀ H', Q (.bl true) H'
theorem sp_law (c : Cfg) (f : FA) (law : ∀ ns : List Int, ns.length ≤ 63 → ∃ μ, f [.ro ns] [] = .ok (.bl true) μ) {vs : List V} {H : Hp} {Q : VK} {E : XK} (h : spLaw c.K vs H Q E) : spM c 1 f vs H Q E := by
  obtain ⟨a, ns, rfl, hl, hO, hS, q⟩ := h
  obtain ⟨μ, e⟩ := law ns hl
  have ro : RoL c.K H a (ns.map V.int) := by
    rcases hS with (z | z) | z
    · rcases hO a with y | ⟨o, xs, y⟩
      · rw [y] at z; cases z
      · rw [y] at z; cases z
    · exact .inl z
    · obtain ⟨o, its, n, h1, h2, h3⟩ := id z
      exact .inr ⟨fun _ => .inr z, o, h1, h2⟩
  refine ⟨rfl, [], [], [.ro ns], ⟨List.nodup_nil, rfl, fun k x z => nomatch z⟩, .cons (.ro ro) .nil, ?_⟩
  rw [e]
  intro v as' H' _ _ r
  cases r
  exact q H'
end Nh

namespace Nh
open PySem PySem.Spec PyProof.Rows L2
theorem fm_congr {α β : Type} {f g : α → Option β} : ∀ {l : List α}, (∀ a ∈ l, f a = g a) → l.filterMap f = l.filterMap g
  | [], _ => rfl
  | a :: r, h => by
    rw [List.filterMap_cons, List.filterMap_cons, h a List.mem_cons_self, fm_congr fun b hb => h b (List.mem_cons_of_mem _ hb)]
/-! ### x[::-1] of a tuple, of a list -/
section
variable {prog : Program} {w : World} {A : Around} {E : Value → Shared → Prop} {s : Shared}
theorem back_places (n : Nat) : Builtin.Slice.slicePlaces ((n : Int) - 1) (-1) (-1) = n := by
  unfold Builtin.Slice.slicePlaces
  rw [if_neg (by decide)]
  by_cases h : (n : Int) - 1 > -1
  · rw [if_pos h, show (- -1 : Int) = 1 by decide, Int.ediv_one]
    omega
  · rw [if_neg h]
    omega
theorem back_applied {sl : Addr} {tk : Tok} {n : Nat} {Q : Int × Int × Nat → Shared → Prop} (hs : s.heap.IsSliceOf sl .none .none (.int (-1) tk)) (q : Q ((n : Int) - 1, -1, n) s) :
    wpAny (model prog w) A (Builtin.Slice.sliceApplied (.ref sl) (pure (n : Int))) Q E s := by
  obtain ⟨os, e1, _, e2⟩ := id hs
  unfold Builtin.Slice.sliceApplied Builtin.Slice.sliceFields
  refine wpAny_bind (wpAny_bind (wpAny_field e1 e2 (x := .none) rfl (wpAny_bind (wpAny_field e1 e2 (x := .none) rfl (wpAny_bind (wpAny_field e1 e2 (x := .int (-1) tk) rfl (wpAny_pure ?_)))))))
  refine wpAny_bind (HT.slicePart_ (.int (-1) tk) ?_)
  show wpAny _ _ (if ((-1 : Int) == 0) = true then _ else _) _ _ s
  rw [if_neg (by decide)]
  refine wpAny_bind (HT.slicePart_ .none (wpAny_bind (HT.slicePart_ .none (wpAny_bind (wpAny_pure ?_)))))
  show wpAny _ _ (pure ((n : Int) - 1, (-1 : Int), Builtin.Slice.slicePlaces ((n : Int) - 1) (-1) (-1))) _ _ s
  rw [back_places]
  exact wpAny_pure q
theorem back_pick (xs : Array Value) : ((List.range xs.size).filterMap fun (j : Nat) => xs[(((xs.size : Nat) : Int) - 1 + (j : Int) * (-1)).toNat]?).toArray = xs.toList.reverse.toArray := by
  congr 1
  have e : ∀ j ∈ List.range xs.size, xs[(((xs.size : Nat) : Int) - 1 + (j : Int) * (-1)).toNat]? = xs[xs.size - 1 - j]? := fun j hj => by
    have := List.mem_range.mp hj
    rw [show (((xs.size : Nat) : Int) - 1 + (j : Int) * (-1)).toNat = xs.size - 1 - j by omega]
  have e2 : (List.range xs.size).filterMap (fun (j : Nat) => xs[(((xs.size : Nat) : Int) - 1 + (j : Int) * (-1)).toNat]?) = (List.range xs.size).filterMap (fun j => xs[xs.size - 1 - j]?) := fm_congr e
  rw [e2]
  apply List.ext_getElem?
  intro i
  have e3 : (List.range xs.size).filterMap (fun j => xs[xs.size - 1 - j]?) = (List.range xs.size).map (fun j => (xs[xs.size - 1 - j]?).getD .none) := by
    rw [← List.filterMap_eq_map]
    refine fm_congr fun j hj => ?_
    have := List.mem_range.mp hj
    show xs[xs.size - 1 - j]? = some ((xs[xs.size - 1 - j]?).getD .none)
    rw [Array.getElem?_eq_getElem (by omega)]
    rfl
  rw [e3, List.getElem?_map]
  by_cases hi : i < xs.size
  · rw [List.getElem?_range hi, List.getElem?_reverse (by rw [Array.length_toList]; exact hi), Array.length_toList, Array.getElem?_toList]
    show some ((xs[xs.size - 1 - i]?).getD .none) = _
    rw [Array.getElem?_eq_getElem (by omega)]
    rfl
  · rw [List.getElem?_eq_none (by rw [List.length_range]; omega), List.getElem?_eq_none (by rw [List.length_reverse, Array.length_toList]; omega)]
    rfl
theorem back_tuple {t sl : Addr} {xs : Array Value} {tk : Tok} {Q : Value → Shared → Prop} (ht : IsTup s.heap t xs) (hs : s.heap.IsSliceOf sl .none .none (.int (-1) tk)) (hz : xs.size ≤ sizeLine)
    (q : Q (.ref s.heap.objs.size) { s with heap := s.heap.push { cls := .type "tuple", data := .seq xs.toList.reverse.toArray } }) : wpAny (model prog w) A (getItem (.ref t) (.ref sl)) Q E s := by
  have fit : sizeOk (.seq xs.toList.reverse.toArray) := by
    show xs.toList.reverse.toArray.size ≤ sizeLine
    rw [List.size_toArray, List.length_reverse, Array.length_toList]
    exact hz
  obtain ⟨os, e1, e2, _⟩ := id hs
  have kind : s.TypeIs (.ref sl) "slice" := ⟨os, e1, e2⟩
  unfold getItem
  try with_reducible refine wpAny_holding ?_
  first | refine wpAny_bind (wpAny_pure ?_) | skip
  refine wpAny_bind (wpAny_sequenceKey ht.typeIs (by decide) ?_)
  refine wpAny_bind (wpAny_callSpecial?_slot (name := Str.ofString "__getitem__") ht.typeIs PyProof.Rows.slot_tuple_getitem (wpAny_call_entry PyProof.Rows.slot_tuple_getitem ht.typeIs entry_tuple_getitem ?_ (args_tuple_getitem _ _)))
  show wpAny _ _ (Builtin.Tuple.tupleItemsOf (.ref t) >>= fun _ => _) _ _ s
  refine wpAny_bind (tupleItemsOf_ ht ?_)
  refine wpAny_bind (wpAny_typeOf kind ?_)
  rw [if_pos (by decide)]
  refine wpAny_bind (back_applied hs ?_)
  have no : ¬ ((((xs.size : Nat) : Int) - 1 == 0 && (-1 : Int) == 1 && xs.size == xs.size) = true) := by
    intro z
    rw [Bool.and_eq_true, Bool.and_eq_true] at z
    exact absurd (eq_of_beq z.1.2) (by decide)
  show wpAny _ _ (if (((xs.size : Nat) : Int) - 1 == 0 && (-1 : Int) == 1 && xs.size == xs.size) = true then _ else _) _ _ s
  rw [if_neg no, back_pick]
  first
    | exact wpAny_bind (m := Builtin.Tuple.tupleExact _) (wpAny_newObj_type (wpAny_pure ⟨_, rfl, wpAny_pure q⟩) fit)
    | exact wpAny_bind (m := Builtin.Tuple.tupleExact _) (wpAny_newObj_type (wpAny_bind (wpAny_pure (wpAny_pure ⟨_, rfl, wpAny_pure q⟩))) fit)
    | exact wpAny_bind (wpAny_bind (m := Builtin.Tuple.tupleExact _) (wpAny_newObj_type (wpAny_pure (wpAny_pure ⟨_, rfl, wpAny_pure q⟩)) fit))
    | exact wpAny_bind (wpAny_bind (m := Builtin.Tuple.tupleExact _) (wpAny_newObj_type (wpAny_pure ⟨_, rfl, wpAny_pure q⟩) fit))
end
/-- a reading of x[::-1] -/
def BackR (X : Cx) (r : V → Hp → VK → Prop) : Prop :=
  ∀ (pins : List (Addr × Obj)) (s : Shared) (σ : L2.St) (H : Hp) (x : V) (v : Value) (tk : Tok) (sl : Addr) (Q : VK), Inv X pins σ H s → RelV x v → s.heap.IsSliceOf sl .none .none (.int (-1) tk) → r x H Q →
    ∃ T id, typeLookup (.type T) "__getitem__" = pure (some (.builtin id)) ∧ s.TypeIs v T ∧ wpAny (model X.prog X.w) X.A (getItem v (.ref sl)) (EP X pins σ Q) X.xe s
def tBack (r : V → Hp → VK → Prop) (te : TE) (tl : TO) : TE := fun σ H Q => te σ H fun x H1 => tl σ H1 fun o H2 => o = some (-1) ∧ r x H2 Q
theorem pe_back {X : Cx} {e c : Expr} {p2 pos : Pos} {te : TE} {tl : TO} {r : V → Hp → VK → Prop} (hr : BackR X r) (he : PE X e te) (hc : PO X (some c) tl)
    (hb : ∀ (v : Value) (d : Addr), ∃ ops, subscripted (.Slice none none (some c) p2) false v (.ref d) = operate ops (getItem v (.ref d)) := by intro v d; exact ⟨_, by with_unfolding_all rfl⟩) : PE X (.Subscript e (.Slice none none (some c) p2) pos) (tBack r te tl) := by
  refine ⟨fun pins s σ H Q I h => ?_⟩
  refine Subscript_ (thn (he.run pins s σ H _ I h) fun v s1 ⟨x, H1, I1, r1, q1⟩ => ?_)
  refine wpAny_Slice (wpAny_pure (wpAny_pure ?_))
  refine thn (hc.run pins s1 σ H1 _ I1 q1) fun u s2 ⟨o, H2, I2, pu, ho, q2⟩ => ?_
  subst ho
  cases pu with
  | int _ tk =>
    have I3 : Inv X pins σ H2 { s2 with heap := s2.heap.push { cls := .type "slice", data := .fields #[.none, .none, .int (-1) tk] } } := I2.kept (t' := s2.toks) fun _ _ z => Heap.get?_push_of_some _ z
    obtain ⟨T, id, hT, ht, hg⟩ := hr pins _ σ H2 x v tk s2.heap.objs.size Q I3 r1 (Heap.IsSliceOf.new ..) q2
    obtain ⟨ops, eo⟩ := hb v s2.heap.objs.size
    exact tail_any (ops := ops) ht hT hg eo
def rBackT (K : PySem.W.Frag) : V → Hp → VK → Prop := fun x H Q => ∃ a xs, x = .ref a ∧ SqT K H a xs ∧ ∀ p, H p = none → Q (.ref p) (upd H p (.tup xs.reverse))
def rBackL (K : PySem.W.Frag) : V → Hp → VK → Prop := fun x H Q => ∃ a xs, x = .ref a ∧ SqL K H a xs ∧ ∀ p, H p = none → Q (.ref p) (upd H p (.lst xs.reverse))
theorem vals_back : ∀ {xs : List V} {us : List Value}, Vals xs us → Vals xs.reverse us.reverse
  | _, _, .nil => .nil
  | _, _, .cons h t => by
    rw [List.reverse_cons, List.reverse_cons]
    exact (vals_back t).append (.cons h .nil)
theorem back_tup {X : Cx} : BackR X (rBackT X.K) := by
  intro pins s σ H x v tk sl Q I rx hs h
  obtain ⟨a, xs, rfl, hx, q⟩ := h
  cases rx
  obtain ⟨us, r, ht, hz⟩ := I.tuple hx
  have hl : us.length = xs.length := r.length.symm
  refine ⟨"tuple", _, PyProof.Rows.slot_tuple_getitem.lookup, ht.typeIs, ?_⟩
  refine back_tuple ht hs (by rw [List.size_toArray, hl]; exact hz) ?_
  exact ⟨.ref s.heap.objs.size, _, I.laid (t' := s.toks) (o := .tup xs.reverse) (fun _ _ z => Heap.get?_push_of_some _ z) (Nat.le_refl _) ⟨by rw [List.length_reverse]; exact hz, _, vals_back r, IsTup.new _ _⟩, rfl, q _ (I.hok.fresh (Nat.le_refl _))⟩
theorem back_lst {X : Cx} : BackR X (rBackL X.K) := by
  intro pins s σ H x v tk sl Q I rx hs h
  obtain ⟨a, xs, rfl, hx, q⟩ := h
  cases rx
  obtain ⟨us, r, hl, hz⟩ := I.list hx
  have hn : us.length = xs.length := r.length.symm
  refine ⟨"list", _, slot_list_getitem.lookup, hl.isList.typeIs, ?_⟩
  refine wpAny_getItem_list_slice hl.isList hs .none .none (.int (-1) tk) (by decide) ?_ (by rw [List.size_toArray, hn]; exact hz)
  rw [PySem.W.krv_pick]
  exact ⟨.ref s.heap.objs.size, _, I.laid (t' := s.toks) (o := .lst xs.reverse) (fun _ _ z => Heap.get?_push_of_some _ z) (Nat.le_refl _) ⟨by rw [List.length_reverse]; exact hz, _, 0, vals_back r, Heap.get?_push_size _ rfl⟩, rfl, q _ (I.hok.fresh (Nat.le_refl _))⟩
/-! ### as plain functions -/
section
variable {c : Cfg} {W : WX} {as as' : List Addr} {H H' : Hp} {μ : Store}
theorem RelAll.back {vs : List V} {ds : List Dat} (r : RelAll c as H vs ds) : RelAll c as H vs.reverse ds.reverse := by
  induction vs generalizing ds with
  | nil => cases r; exact .nil
  | cons v vs ih =>
    cases r with
    | cons h t =>
      rw [List.reverse_cons, List.reverse_cons]
      exact (ih t).append (.cons h .nil)
def mBack (f : F1) (a : M Dat) (l : M (Option Int)) : M Dat := fun δ μ => (a δ μ).bind fun x μ1 => (l δ μ1).bind fun o μ2 => if o = some (-1) then f x μ2 else .stuck
def SimB (c : Cfg) (r : V → Hp → VK → Prop) (f : F1) : Prop := ∀ as H μ v x, StH c as H μ → Rel c as H v x → ∀ σ W Q, Want c (Rel c) (f x μ) as H σ Q W → r v H Q
theorem sim_back {r : V → Hp → VK → Prop} {f : F1} {te : TE} {tl : TO} {a : M Dat} {l : M (Option Int)} (hr : SimB c r f) (ha : SimE c W te a) (hl : SimO c W tl l) : SimE c W (tBack r te tl) (mBack f a l) := by
  intro as H σ δ μ st env Q w
  refine ha as H σ δ μ st env _ ((want_bind (R1 := Rel c) w).imp ?_)
  rintro v H1 ⟨as1, μ1, x, e, s1, rx, w1⟩
  refine hl as1 H1 σ δ μ1 s1 (env.mono e) _ ((want_bind (R1 := fun _ _ b d => b = d) w1).imp ?_)
  rintro o H2 ⟨as2, μ2, y, e2, s2, ry, w2⟩
  subst ry
  split at w2
  · rename_i ho
    exact ⟨ho, hr as2 H2 μ2 v x s2 (rx.mono e2) σ W Q w2⟩
  · exact w2.elim
def fBackT : F1 := fun x μ => match x with
  | .tup ds => .ok (.tup ds.reverse) μ
  | _ => .stuck
theorem simb_backT : SimB c (rBackT c.K) fBackT := by
  intro as H μ v x st rx σ W Q h
  unfold fBackT at h
  split at h
  · cases rx with
    | tup h1 h2 => exact ⟨_, _, rfl, h1.sq, fun p hp => h _ as _ (ext_new hp) (st.tup hp) (.tup upd_same ((RelAll.back h2).mono (ext_new hp)))⟩
  · exact h.elim
def fBackL : F1 := fun x μ => match lstAt μ x with
  | some ds => allocR (.lst ds.reverse) μ
  | none => .stuck
theorem simb_backL : SimB c (rBackL c.K) fBackL := by
  intro as H μ v x st rx σ W Q h
  unfold fBackL at h
  split at h
  · rename_i ds hd
    obtain ⟨a, xs, rfl, h1, h2⟩ := lstAt_of st rx hd
    exact ⟨a, xs, rfl, h1, fun p hp => h _ _ _ (ext_alloc hp) (st.alloc hp ⟨_, upd_same, (RelAll.back h2).mono (ext_alloc hp)⟩) (rel_alloc st)⟩
  · exact h.elim
/-! ### xs.insert(i, y) -/
def rIns : V → List V → Hp → VK → Prop := fun x vs H Q => ∃ (l : Addr) (xs : List V) (i : Int) (y : V), x = .ref l ∧ vs = [.int i, y] ∧ H l = some (.lst xs) ∧ xs.length < sizeLine ∧ 0 ≤ i ∧ i < 2 ^ 63 ∧
  Q .non (upd H l (.lst (xs.take i.toNat ++ [y] ++ xs.drop i.toNat)))
def fInsert : Dat → FA := fun x ds μ => match x, ds with
  | .cell k, [.int i, y] => match μ[k]? with
    | some (.lst es) => if es.length < sizeLine ∧ 0 ≤ i ∧ i < 2 ^ 63 then .ok .non (μ.set k (.lst (es.take i.toNat ++ [y] ++ es.drop i.toNat))) else .stuck
    | _ => .stuck
  | _, _ => .stuck
theorem simb_insert : SimBM c rIns fInsert := by
  intro as H μ v x vs ds st rx rs σ W Q h
  unfold fInsert at h
  split at h
  · rename_i k i y
    split at h
    · rename_i es hk
      split at h
      · rename_i hz
        obtain ⟨u1, u2, rfl, r1, r2⟩ := rel2 rs
        cases r1
        cases rx with
        | @cell _ a ha =>
          obtain ⟨xs, h1, h2⟩ := st.cell_at hk ha
          have ee := ext_set (o := .lst (xs.take i.toNat ++ [u2] ++ xs.drop i.toNat)) st hk ha
          exact ⟨a, xs, i, u2, rfl, rfl, h1, by rw [h2.length]; exact hz.1, hz.2.1, hz.2.2, h _ as _ ee (st.set hk ha ⟨_, upd_same, (((h2.take _).append (.cons r2 .nil)).append (h2.drop _)).mono ee⟩) .non⟩
      · exact h.elim
    · exact h.elim
  · exact h.elim
end
end Nh

namespace Nh
open PySem PySem.Spec PySem.W PyProof.Rows PySem.SeqAt PySem.Calls
section
variable {prog : Program} {w : World} {A : Around} {E : Value → Shared → Prop} {s : Shared}
theorem call_tup_lt {l b : Addr} {us vs : Array Value} {e r : Nat → Bool} {Q : Value → Shared → Prop} (hl : s.heap.IsTuple l us) (hb : s.heap.IsTuple b vs)
    (he : ∀ j (h1 : j < us.size) (h2 : j < vs.size), EqAt A.in1 s us[j] vs[j] (e j)) (hr : ∀ j (h1 : j < us.size) (h2 : j < vs.size), e j = false → RcLt A.in1 s us[j] vs[j] (r j))
    (q : Q (.bool (firstLt e r (decide (us.size < vs.size)) (List.range (min us.size vs.size)))) s) : wpAny (model prog w) A (call (.builtin "tuple.__lt__") [.ref l, .ref b]) Q E s := by
  obtain ⟨⟨c1, d1, x1, s1⟩, o1, k1, n1, z1⟩ := id hl
  obtain ⟨⟨c2, d2, x2, s2⟩, o2, k2, n2, z2⟩ := id hb
  dsimp only at k1 z1 k2 z2
  subst k1 z1 k2 z2
  exact call_meets F.slot_tuple_lt ⟨_, o1, rfl⟩ F.entry_tuple_lt (F.args_tuple_lt_2 _ _) (tuple_ltAt l b us vs n1 n2 d1 d2 s1 s2 e r) ⟨o1, o2, he, hr, q⟩
/-- tuples that are alike, one against the other, in either way of comparing -/
theorem oneLt_tups {f : Bool} {xs ys : List PyData} {a b : Value} {as bs : List Addr} {Q : Bool → Shared → Prop} (ra : Reads s.heap a (.tuple xs) as) (rb : Reads s.heap b (.tuple ys) bs) (h : alike (.tuple xs) (.tuple ys) = true)
    (hu : A.units + min (PyData.depth (.tuple xs)) (PyData.depth (.tuple ys)) < cLine) (q : Q (dataLt (.tuple xs) (.tuple ys)) s) : wpAny (model prog w) A (oneLt' f a b) Q E s := by
  cases f with
  | false => exact oneLt_alike (fun z => nomatch z) ra rb h (fun z => nomatch z) hu q
  | true =>
    have hal : alikeAll xs ys = true := by simpa [alike] using h
    cases ra with
    | @tuple l o us n _ _ h1 h2 h3 h4 =>
      cases rb with
      | @tuple l' o' vs n' _ _ k1 k2 k3 k4 =>
        have e1 : us.size = xs.length := by simpa using ReadsAll.length _ _ _ h4
        have e2 : vs.size = ys.length := by simpa using ReadsAll.length _ _ _ k4
        rw [dataLt_tuple, ← firstLt_toks xs ys hal, ← e1, ← e2] at q
        rw [oneLt'_eq]
        simp only [if_true]
        refine wpAny_bind (wpAny_cRoomFor (room_here hu) ?_)
        refine wpAny_bind (wpAny_callSpecialIfBound?_slot (T := "tuple") ⟨_, h1, h2⟩ F.slot_tuple_lt (call_tup_lt (e := pairEq xs ys) (r := fun j => dataLt (xs.getD j .none) (ys.getD j .none)) ⟨_, h1, h2, _, h3⟩ ⟨_, k1, k2, _, k3⟩ (fun j j1 j2 => ?_) (fun j j1 j2 hj => ?_) ?_))
        · have z := eqAt_alikeAll xs ys A.in1 s us.toList vs.toList _ _ h4 k4 hal (room_in hu) j (by simpa using j1) (by simpa using j2)
          simpa using z
        · have z := rcLt_alikeAll xs ys A.in1 s us.toList vs.toList _ _ h4 k4 hal (room_in hu) j (by simpa using j1) (by simpa using j2) hj
          simpa using z
        · exact wpAny_truthy_bool q
theorem mapM_each {M : Model} {α β : Type} {f : α → Sem β} {g : α → β} : ∀ (l : List α) {Q : List β → Shared → Prop}, (∀ v ∈ l, ∀ (Q' : β → Shared → Prop), Q' (g v) s → wpAny M A (f v) Q' E s) → Q (l.map g) s → wpAny M A (l.mapM f) Q E s
  | [], _, _, q => by
    rw [List.mapM_nil]
    exact wpAny_pure q
  | v :: l, Q, hf, q => by
    rw [List.mapM_cons]
    refine wpAny_bind (hf v List.mem_cons_self _ (wpAny_bind ?_))
    exact mapM_each l (Q := fun bs s' => wpAny M A (pure (g v :: bs)) Q E s') (fun u hu => hf u (List.mem_cons_of_mem _ hu)) (wpAny_pure q)
def firstIn (h : Heap) : Value → Option Value
  | .ref a => match h.get? a with
    | some o => match o.data with
      | .seq xs _ => xs[0]?
      | _ => none
    | none => none
  | _ => none
theorem first_here {M : Model} {a : Addr} {o : Obj} {us : Array Value} {n : Nat} {Q : Option Value → Shared → Prop} (ho : s.heap.get? a = some o) (hc : o.cls = .type "tuple") (hd : o.data = .seq us n) (q : Q (firstIn s.heap (.ref a)) s) :
    wpAny M A (firstOfTuple' (.ref a)) Q E s := by
  rw [kas_first_eq]
  refine wpAny_bind (wpAny_typeOf ⟨o, ho, hc⟩ ?_)
  rw [if_neg (by decide)]
  refine wpAny_bind (listItems_at ho hd (wpAny_pure ?_))
  unfold firstIn at q
  dsimp only at q
  rw [ho] at q
  dsimp only at q
  rw [hd] at q
  exact q
theorem kind_tups {M : Model} {vs : List Value} {Q : SortKind → Shared → Prop} (h2 : 2 ≤ vs.length) (ht : ∀ v ∈ vs, ∃ a o us n, v = .ref a ∧ s.heap.get? a = some o ∧ o.cls = .type "tuple" ∧ o.data = .seq us n) (he : ∃ v ∈ vs, firstIn s.heap v = none)
    (q : Q (if ((vs.map (firstIn s.heap))[0]?.bind id).isSome = true then general' else oneType') s) : wpAny M A (keyKind' vs.toArray) Q E s := by
  rw [keyKind'_eq, List.mapM_toArray, map_eq_pure_bind]
  refine wpAny_bind (wpAny_bind (mapM_each (g := firstIn s.heap) vs (fun v hv Q' q' => ?_) (wpAny_pure ?_)))
  · obtain ⟨a, o, us, n, rfl, h1, h3, h4⟩ := ht v hv
    exact first_here h1 h3 h4 q'
  · have no : ¬ ((vs.map (firstIn s.heap)).toArray.all fun x => x.isSome) = true := by
      intro z
      obtain ⟨v, hv, e⟩ := he
      simp only [List.all_toArray, List.all_map, List.all_eq_true] at z
      have := z v hv
      simp only [Function.comp_apply, e] at this
      cases this
    rw [if_neg no]
    have e0 : (vs.map (firstIn s.heap)).toArray[0]? = (vs.map (firstIn s.heap))[0]? := by simp
    rw [e0]
    by_cases hf : ((vs.map (firstIn s.heap))[0]?.bind id).isSome = true
    · rw [if_pos hf] at q ⊢
      exact wpAny_pure q
    · rw [if_neg hf] at q ⊢
      rw [oneTypeOnly'_eq, List.mapM_toArray, map_eq_pure_bind]
      refine wpAny_bind (wpAny_bind (wpAny_bind (mapM_each (g := fun _ => Value.type "tuple") vs (fun v hv Q' q' => ?_) (wpAny_pure ?_))))
      · obtain ⟨a, o, us, n, rfl, h1, h3, h4⟩ := ht v hv
        exact wpAny_typeOf ⟨o, h1, h3⟩ q'
      · obtain ⟨v0, r, rfl⟩ : ∃ v0 r, vs = v0 :: r := by
          cases vs with
          | nil => simp at h2
          | cons v0 r => exact ⟨v0, r, rfl⟩
        have ea : ((v0 :: r).map fun _ => Value.type "tuple").toArray[0]? = some (Value.type "tuple") := by simp
        have eb : (((v0 :: r).map fun _ => Value.type "tuple").toArray.all fun x => x == Value.type "tuple") = true := by
          simp only [List.all_toArray, List.all_map, List.all_eq_true]
          intro _ _
          exact beq_self_eq_true (Value.type "tuple")
        rw [ea]
        simp only [eb, if_true]
        exact wpAny_pure (wpAny_pure q)
theorem reads_tup {h : Heap} {v : Value} {xs : List PyData} {as : List Addr} (r : Reads h v (.tuple xs) as) : ∃ a o us n, v = .ref a ∧ h.get? a = some o ∧ o.cls = .type "tuple" ∧ o.data = .seq us n ∧ us.size = xs.length := by
  cases r with
  | @tuple a o us n _ _ h1 h2 h3 h4 => exact ⟨a, o, us, n, rfl, h1, h2, h3, by simpa using ReadsAll.length _ _ _ h4⟩
theorem each_right {α β : Type} {R : α → β → Prop} : ∀ {vs : List α} {ds : List β}, EachIs R vs ds → ∀ {d : β}, d ∈ ds → ∃ v, v ∈ vs ∧ R v d
  | _, _, .nil, _, h => nomatch h
  | _, _, .cons (a := v) hr t, d, h => by
    rcases List.mem_cons.mp h with rfl | h
    · exact ⟨v, List.mem_cons_self, hr⟩
    · obtain ⟨u, hu, r⟩ := each_right t h
      exact ⟨u, List.mem_cons_of_mem _ hu, r⟩
theorem sorts_tups {vs : List Value} {ds : List PyData} (e : EachIs (fun v d => ∃ as, Reads s.heap v d as) vs ds) (hal : AllAlike ds) (ht : ∀ d ∈ ds, ∃ xs, d = .tuple xs) (hu : ∀ d, d ∈ ds → A.units + d.depth < cLine) : SortsAt prog w A s (dataKind s.heap ds) vs := by
  by_cases hne : ∀ d ∈ ds, d ≠ .tuple []
  · refine SortsAt.data e hal (.inl fun d hd => ?_) hu
    obtain ⟨xs, rfl⟩ := ht d hd
    cases xs with
    | nil => exact (hne _ hd rfl).elim
    | cons x r => exact ⟨x, r, rfl⟩
  · have room : ∀ {d d' : PyData}, d ∈ ds → A.units + min d.depth d'.depth < cLine := fun {d d'} hd => Nat.lt_of_le_of_lt (Nat.add_le_add_left (Nat.min_le_left _ _) _) (hu d hd)
    refine ⟨fun v hv => ?_, if ((vs.map (firstIn s.heap))[0]?.bind id).isSome = true then general' else oneType', ?_, fun h2 E Q q => ?_⟩
    · obtain ⟨d, hd, as, r⟩ := e.left v hv
      exact ⟨_, dataKind_some hal hd r⟩
    · intro E x y a b Q ha hb q
      obtain ⟨d, as, hd, ra, rfl⟩ := dataKind_inv ha
      obtain ⟨d', as', hd', rb, rfl⟩ := dataKind_inv hb
      have hdd := hal d hd d' hd'
      have hroom := room (d' := d') hd
      obtain ⟨xs, rfl⟩ := ht d hd
      obtain ⟨ys, rfl⟩ := ht d' hd'
      split
      · exact oneLt_tups (f := false) ra rb hdd hroom q
      · rw [keyLt'_oneType]
        exact oneLt_tups (f := true) ra rb hdd hroom q
    · refine kind_tups h2 (fun v hv => ?_) ?_ q
      · obtain ⟨d, hd, as, r⟩ := e.left v hv
        obtain ⟨xs, rfl⟩ := ht d hd
        obtain ⟨a, o, us, n, h1, h3, h4, h5, _⟩ := reads_tup r
        exact ⟨a, o, us, n, h1, h3, h4, h5⟩
      · have hex : ∃ d ∈ ds, d = .tuple [] := Classical.byContradiction fun z => hne fun d hd ed => z ⟨d, hd, ed⟩
        obtain ⟨d, hd, rfl⟩ := hex
        obtain ⟨v, hv, as, r⟩ := each_right e hd
        obtain ⟨a, o, us, n, rfl, h3, h4, h5, h6⟩ := reads_tup r
        refine ⟨_, hv, ?_⟩
        unfold firstIn
        dsimp only
        rw [h3]
        dsimp only
        rw [h5]
        exact Array.getElem?_eq_none (by rw [h6]; exact Nat.le_refl _)
end
/-! ### keys that are alike as far as they are equal -/
def stepAll : List PyData → List PyData → Bool
  | x :: xs, y :: ys => alike x y && (!PyData.eqv x y || stepAll xs ys)
  | _, _ => true
def stepOk : PyData → PyData → Bool
  | .tuple (x :: xs), .tuple (y :: ys) => stepAll (x :: xs) (y :: ys)
  | _, _ => false
section
variable {prog : Program} {w : World} {A : Around} {E : Value → Shared → Prop} {s : Shared}
theorem katLex_step {b fin : Bool} {Q : Bool → Shared → Prop} : ∀ (xs ys : List PyData) (i : Nat) (us vs : List Value) (as bs : List Addr), ReadsAll s.heap us xs as → ReadsAll s.heap vs ys bs → stepAll xs ys = true →
    A.units + min (PyData.depthAll xs) (PyData.depthAll ys) < cLine → (b = true → i = 0 → ∀ x r t, xs = x :: r → x ≠ .tuple t) → fin = decide (xs.length < ys.length) → Q (PyProof.Rows.lexLt itemOrd (keyToksAll xs) (keyToksAll ys)) s → KatLex prog w A b fin Q (us.zip vs) i s
  | [], ys, i, us, vs, as, bs, ra, rb, _, hu, hb, hf, q => katLex_alike [] ys i us vs as bs ra rb (by cases ys <;> simp [alikeAll]) hu hb hf q
  | x :: xs, [], i, us, vs, as, bs, ra, rb, _, hu, hb, hf, q => katLex_alike (x :: xs) [] i us vs as bs ra rb (by simp [alikeAll]) hu hb hf q
  | x :: xs, y :: ys, i, _, _, _, _, ra, rb, h, hu, hb, hf, q => by
    unfold stepAll at h
    rw [Bool.and_eq_true] at h
    obtain ⟨h1, h2⟩ := h
    cases ra with
    | cons r1 r2 =>
      cases rb with
      | cons t1 t2 =>
        rw [List.zip_cons_cons]
        refine kat_cons (eqAt_alike x y A s _ _ _ _ r1 t1 h1 (room_head hu) prog w _ _ ?_)
        cases hx : PyData.eqv x y with
        | true =>
          rw [hx] at h2
          rw [dataLt_all_yes h1 hx] at q
          exact kat_yes (katLex_step xs ys (i + 1) _ _ _ _ r2 t2 (by simpa using h2) (room_tail hu) (fun _ z => absurd z (Nat.succ_ne_zero i)) (by rw [hf, List.length_cons, List.length_cons]; exact decide_eq_decide.mpr (by omega)) q)
        | false =>
          rw [dataLt_all_no h1 hx] at q
          refine kat_no (oneLt_alike (fun z t ez => ?_) r1 t1 h1 (ne_none_of h1 hx) (room_head hu) q)
          rw [Bool.and_eq_true] at z
          exact hb z.1 (eq_of_beq z.2) x xs t rfl ez
end

section
variable {prog : Program} {w : World} {A : Around} {E : Value → Shared → Prop} {s : Shared}
theorem key_of {h : Heap} {ds : List PyData} {v : Value} {d : PyData} {as : List Addr} (hd : d ∈ ds) (r : Reads h v d as) : (dataKind h ds).keyOf v = some (keyToks d) := by
  have q : ∃ d, d ∈ ds ∧ ∃ as, Reads h v d as := ⟨d, hd, as, r⟩
  show (open Classical in if q : ∃ d, d ∈ ds ∧ ∃ as, Reads h v d as then some (keyToks q.choose) else none) = _
  rw [dif_pos q]
  obtain ⟨_, bs, r2⟩ := q.choose_spec
  rw [(PySem.Reads.unique r2 _ _ r).1]
theorem each_key {h : Heap} {ds : List PyData} {vs : List Value} (e : EachIs (fun v d => ∃ as, Reads h v d as) vs ds) : EachIs (fun v d => (dataKind h ds).keyOf v = some (keyToks d)) vs ds :=
  (each_mem e).mono fun _ _ ⟨⟨_, r⟩, hd⟩ => key_of hd r
theorem stepOk_of {d d' : PyData} (h : stepOk d d' = true) : ∃ x xs y ys, d = .tuple (x :: xs) ∧ d' = .tuple (y :: ys) ∧ stepAll (x :: xs) (y :: ys) = true ∧ alike x y = true := by
  cases d with
  | tuple xs =>
    cases xs with
    | nil => cases h
    | cons x xs =>
      cases d' with
      | tuple ys =>
        cases ys with
        | nil => cases h
        | cons y ys =>
          have h' : stepAll (x :: xs) (y :: ys) = true := h
          have h2 := h'
          unfold stepAll at h2
          exact ⟨x, xs, y, ys, rfl, rfl, h', (Bool.and_eq_true_iff.mp h2).1⟩
      | _ => cases h
  | _ => cases h
theorem sorts_step {vs : List Value} {ds : List PyData} (e : EachIs (fun v d => ∃ as, Reads s.heap v d as) vs ds) (hs : ∀ d ∈ ds, ∀ d' ∈ ds, stepOk d d' = true) (hu : ∀ d, d ∈ ds → A.units + d.depth < cLine) : SortsAt prog w A s (dataKind s.heap ds) vs := by
  have room : ∀ {d d' : PyData}, d ∈ ds → A.units + min d.depth d'.depth < cLine := fun {d d'} hd => Nat.lt_of_le_of_lt (Nat.add_le_add_left (Nat.min_le_left _ _) _) (hu d hd)
  refine ⟨fun v hv => ?_, ?_⟩
  · obtain ⟨d, hd, as, r⟩ := e.left v hv
    exact ⟨_, key_of hd r⟩
  · cases ds with
    | nil =>
      cases e
      refine ⟨general', fun E x y a b Q ha _ _ => ?_, fun h2 => by simp at h2⟩
      obtain ⟨d, _, hd, _⟩ := dataKind_inv ha
      simp at hd
    | cons d0 r0 =>
      obtain ⟨x0, t0, _, _, e0, _, _, _⟩ := stepOk_of (hs d0 List.mem_cons_self d0 List.mem_cons_self)
      have first : ∀ x r, PyData.tuple (x :: r) ∈ d0 :: r0 → alike x x0 = true := by
        intro x r hm
        obtain ⟨a, _, b, _, ea, eb, _, hal⟩ := stepOk_of (hs _ hm d0 List.mem_cons_self)
        rw [e0] at eb
        cases ea
        cases eb
        exact hal
      have tup : ∀ d, d ∈ d0 :: r0 → ∃ x r, d = .tuple (x :: r) := fun d hd => by
        obtain ⟨x, r, _, _, ea, _⟩ := stepOk_of (hs d hd d hd)
        exact ⟨x, r, ea⟩
      refine ⟨tuples' (dataType x0 != Value.type "tuple"), ?_, fun h2 E Q q => ?_⟩
      · intro E x y a b Q ha hb q
        obtain ⟨d, as, hd, ra, rfl⟩ := dataKind_inv ha
        obtain ⟨d', as', hd', rb, rfl⟩ := dataKind_inv hb
        have hroom := room (d' := d') hd
        obtain ⟨x1, r1, x2, r2, rfl, rfl, hst, _⟩ := stepOk_of (hs d hd d' hd')
        have q' : Q (dataLt (.tuple (x1 :: r1)) (.tuple (x2 :: r2))) s := q
        rw [dataLt_tuple] at q'
        cases ra with
        | @tuple l o us n _ _ h1 h2 h3 h4 =>
          cases rb with
          | @tuple l' o' ws n' _ _ k1 k2 k3 k4 =>
            have n1 : us.size = (x1 :: r1).length := by simpa using ReadsAll.length _ _ _ h4
            have n2 : ws.size = (x2 :: r2).length := by simpa using ReadsAll.length _ _ _ k4
            refine kat_lt h1 h3 k1 k3 (katLex_step (x1 :: r1) (x2 :: r2) 0 _ _ _ _ h4 k4 hst (by have z := room_in hroom; omega) (fun hb _ x r t ex => ?_) (by rw [n1, n2]) q')
            obtain ⟨rfl, rfl⟩ := List.cons.inj ex
            have z := dataType_alike (first _ _ hd)
            rw [← z] at hb
            exact dataType_tuple hb t
      · obtain ⟨fs, t1, t2, t3⟩ := each_katTups e tup
        refine kat_kind (T := dataType x0) t1 (by omega) (fun f hf => ?_) (beq_self_eq_true _) q
        obtain ⟨x, r, as, m1, m2⟩ := t3 f hf
        rw [← dataType_alike (first x r m1)]
        exact looks_reads m2
def KeysGood (ds : List PyData) : Prop := (AllAlike ds ∧ ∀ d ∈ ds, ∃ ys, d = .tuple ys) ∨ ∀ d ∈ ds, ∀ d' ∈ ds, stepOk d d' = true
theorem sorts_good {vs : List Value} {ds : List PyData} (e : EachIs (fun v d => ∃ as, Reads s.heap v d as) vs ds) (hg : KeysGood ds) (hu : ∀ d, d ∈ ds → A.units + d.depth < cLine) : SortsAt prog w A s (dataKind s.heap ds) vs := by
  rcases hg with ⟨h1, h2⟩ | h
  · exact sorts_tups e h1 h2 hu
  · exact sorts_step e h hu
end
end Nh

namespace Nh
open PySem PySem.Spec PySem.W PyProof.Rows PySem.SeqAt L2
/-- a heap without one object -/
def hole (h : Heap) (k : Addr) : Heap := { h with objs := h.objs.setIfInBounds k ⟨.none, none, .freed, #[]⟩ }
theorem hole_at (h : Heap) (k : Addr) : (hole h k).get? k = none := by
  unfold hole Heap.get?
  dsimp only
  by_cases hk : k < h.objs.size
  · rw [Array.getElem?_setIfInBounds_self_of_lt hk]
  · rw [Array.getElem?_eq_none (by rw [Array.size_setIfInBounds]; exact Nat.le_of_not_lt hk)]
theorem hole_ne {h : Heap} {k b : Addr} (hb : b ≠ k) : (hole h k).get? b = h.get? b := by
  unfold hole Heap.get?
  dsimp only
  rw [Array.getElem?_setIfInBounds_ne hb.symm]
theorem hole_old {h : Heap} {k b : Addr} {o : Obj} (e : (hole h k).get? b = some o) : b ≠ k ∧ h.get? b = some o := by
  by_cases hb : b = k
  · subst hb
    rw [hole_at] at e
    cases e
  · rw [hole_ne hb] at e
    exact ⟨hb, e⟩
/-- a def called of each, one behind the other -/
def keysT (sp : Sp) : List V → Hp → (List V → Hp → Prop) → Prop
  | [], H, G => G [] H
  | x :: r, H, G => sp [x] H (fun k H1 => keysT sp r H1 fun ks H2 => G (k :: ks) H2) L2.E0
def sortedBy {α : Type} (ds : List PyData) (xs : List α) : List α := ((ds.zip xs).mergeSort (dataLe false Prod.fst)).map Prod.snd
def rSortKey (K : PySem.W.Frag) (f : Addr) (sp : Sp) : List V → List V → Hp → VK → Prop := fun vs zs H Q => ∃ (a : Addr) (xs : List V), vs = [.ref a] ∧ zs = [.ref f] ∧ SqL K H a xs ∧
  keysT sp xs H fun ks H2 => ∃ ds, DpAll K H2 ks ds ∧ KeysGood ds ∧ (∀ d ∈ ds, d.depth ≤ 8) ∧ ∀ p, H2 p = none → Q (.ref p) (upd H2 p (.lst (sortedBy ds xs)))
section
variable {X : Cx} {pins : List (Addr × Obj)} {σ : L2.St} {H : Hp} {s : Shared}
theorem fp_again {H' : Hp} {b : Addr} (f : FpOk X pins H b) (n : H' b = none) : FpOk X pins H' b := ⟨n, f.2⟩
theorem each_reads (I : L2.Inv X pins σ H s) : ∀ {ks : List V} {us : List Value} {ds : List PyData}, Vals ks us → DpAll X.K H ks ds → EachIs (fun v d => ∃ as, Reads s.heap v d as) us ds
  | _, _, _, .nil, h => by
    cases h
    exact .nil
  | _, _, _, .cons r t, h => by
    cases h with
    | cons h1 h2 => exact .cons (Dp.reads I _ _ _ h1 r) (each_reads I t h2)
theorem dpAll_len {K : PySem.W.Frag} : ∀ {ks : List V} {ds : List PyData}, DpAll K H ks ds → ks.length = ds.length
  | _, _, .nil => rfl
  | _, _, .cons _ t => by rw [List.length_cons, List.length_cons, dpAll_len t]
theorem vals_zip : ∀ {ds : List PyData} {xs : List V} {vs : List Value}, Vals xs vs → ds.length = xs.length → EachIs (fun v (b : PyData × V) => RelV b.2 v) vs (ds.zip xs)
  | [], _, _, .nil, _ => .nil
  | d :: ds, _, _, .cons r t, h => .cons r (vals_zip t (by simpa using h))
  | [], _, _, .cons r t, h => by simp at h
  | d :: ds, _, _, .nil, h => by simp at h
theorem vals_of_each : ∀ {vs : List Value} {bs : List (PyData × V)}, EachIs (fun v (b : PyData × V) => RelV b.2 v) vs bs → Vals (bs.map Prod.snd) vs
  | _, _, .nil => .nil
  | _, _, .cons r t => .cons r (vals_of_each t)
theorem sort_rest {k : Nat} {f : Addr} {fd : FuncData} {p : Str} {sp : Sp} (F : FnOk X.prog X.w X.K X.mg X.base CX0 k f fd [p] sp) (hr : Room k X.A.in1.in1) (hb : Binds X.K fd [p] []) (I : L2.Inv X pins σ H s) {a kS : Addr} {e1 : Nat}
    (fa : FpOk X pins H a) (fk : FpOk X pins H kS) (hka : kS ≠ a) (na : s.heap.get? a = some (seqObj "list" #[] e1)) (nk : s.heap.get? kS = some (seqObj "list" #[] 0)) {xs : List V} {vs : List Value} (rv : Vals xs vs) (hz : xs.length ≤ sizeLine) {Q : VK} {E : Value → Shared → Prop}
    (q : keysT sp xs H fun ks H2 => ∃ ds, DpAll X.K H2 ks ds ∧ KeysGood ds ∧ (∀ d ∈ ds, d.depth ≤ 8) ∧ ∀ p, H2 p = none → Q (.ref p) (upd H2 p (.lst (sortedBy ds xs)))) :
    wpAny (model X.prog X.w) X.A.in1.in1 (ksk_rest a (.ref f) false vs.toArray e1 (.ref kS)) (fun r s' => r = .done (.ret .none) ∧ EP X pins σ Q (.ref a) s') E s := by
  have hlen := rv.length
  unfold ksk_rest
  refine wpAny_bind (wpAny_rule ?_)
  first
    | rw [List.forIn_toArray]
    | (rw [← Array.forIn_toList]; simp only [List.toList_toArray])
    | rw [← Array.forIn_toList]
  generalize hG : (fun (ks : List V) (H2 : Hp) => ∃ ds, DpAll X.K H2 ks ds ∧ KeysGood ds ∧ (∀ d ∈ ds, d.depth ≤ 8) ∧ ∀ p, H2 p = none → Q (.ref p) (upd H2 p (.lst (sortedBy ds xs)))) = G at q
  refine wpAny_bind (ksk_fold (fun i s' => ∃ (Hi : Hp) (ks : List V) (kA : Array Value) (e : Nat), L2.Inv X pins σ Hi s' ∧ Hi a = none ∧ Hi kS = none ∧ s'.heap.get? kS = some (seqObj "list" kA e) ∧ s'.heap.get? a = some (seqObj "list" #[] e1) ∧ Vals ks kA.toList ∧ kA.size = i ∧
      keysT sp (xs.drop i) Hi fun rest H2 => G (ks ++ rest) H2) vs 0 s ⟨H, [], #[], 0, I, fa.1, fk.1, nk, na, .nil, rfl, q⟩ ?turn ?done)
  case turn =>
    rintro j x s' hx ⟨Hi, ks, kA, e, Ii, ha, hk, nk', na', rk, hsz, qk⟩
    simp only [Nat.zero_add] at hsz qk ⊢
    have hj : j < vs.length := (List.getElem?_eq_some_iff.mp hx).1
    have hj' : j < xs.length := by omega
    have hxy : RelV xs[j] x := by
      have e2 : vs[j]'hj = x := (List.getElem?_eq_some_iff.mp hx).2
      have := rv.get (i := j) (x := xs[j]) (List.getElem?_eq_getElem hj')
      obtain ⟨u, h1, h2⟩ := this
      rw [List.getElem?_eq_getElem hj] at h1
      cases h1
      rw [← e2]
      exact h2
    rw [List.drop_eq_getElem_cons hj'] at qk
    have Ip : L2.Inv X (pins ++ [(a, seqObj "list" #[] e1), (kS, seqObj "list" kA e)]) σ Hi s' := Ii.pins_of fun z hm => by
      rcases List.mem_append.mp hm with hm | hm
      · exact Ii.pin z (List.mem_append_right _ hm)
      · simp only [List.mem_cons, List.not_mem_nil, or_false] at hm
        rcases hm with rfl | rfl
        · exact ⟨na', ha, fa.2.1, fa.2.2.1, fun v z => nomatch z⟩
        · exact ⟨nk', hk, fk.2.1, fk.2.2.1, fun v z => nomatch z⟩
    refine wpAny_bind (wpAny_attempt (wpAny_mono (wpAny_call (Q := EP X (pins ++ [(a, seqObj "list" #[] e1), (kS, seqObj "list" kA e)]) σ fun k H1 => keysT sp (xs.drop (j + 1)) H1 fun rest H2 => G (ks ++ k :: rest) H2) (E := fun _ _ => False)
      (codeAny_mono (F.run X.A.in1.in1 X.stack s' Hi ⟨[x], []⟩ [x] [xs[j]] _ L2.E0 hr Ip.env0.in1.in1 (hb s' [x] Ip.kIn rfl) (.cons hxy .nil) qk) fun r s'' hq => ?_)) (fun u s'' hu => ?_) fun _ _ z => z.elim))
    · cases r with
      | error z => exact False.elim hq
      | ok fl =>
        cases fl with
        | ret u => exact Ip.after hq
        | next => exact False.elim hq
        | brk => exact False.elim hq
        | cont => exact False.elim hq
    · obtain ⟨v, H1, I1, ru, qv⟩ := hu
      obtain ⟨ga, ha1, _⟩ := I1.pin (a, seqObj "list" #[] e1) (by simp)
      obtain ⟨gk, hk1, _⟩ := I1.pin (kS, seqObj "list" kA e) (by simp)
      dsimp only at ga ha1 gk hk1
      try dsimp only
      have sb := Heap.SameBut.update s''.heap kS (Obj.mapSeq (·.push u))
      obtain ⟨c2, hc2⟩ : ∃ c2, (s''.heap.update kS (Obj.mapSeq (·.push u))).get? kS = some (seqObj "list" (kA.push u) c2) := ⟨_, get?_update_seq gk (·.push u)⟩
      have hzA : kA.size ≤ sizeLine := by omega
      refine wpAny_bind (listUpdate_at gk rfl ?_ hzA (Nat.le_trans (Nat.le_of_eq (Array.size_push ..)) (Nat.succ_le_succ hzA)))
      have fk1 := fp_again fk hk1
      refine wpAny_pure ⟨rfl, H1, ks ++ [v], kA.push u, c2, I1.unpinned.turned (it := kS) (t' := s''.toks) (fun b o hbk eo => (sb.2 b hbk).trans eo) hk1 fk1.2.1 fk1.2.2.2.1 fk1.2.2.2.2.1 fk1.2.2.2.2.2, ha1, hk1, hc2, (sb.2 a hka.symm).trans ga, ?_, ?_, ?_⟩
      · rw [Array.toList_push]
        exact rk.append (.cons ru .nil)
      · rw [Array.size_push, hsz]
      · simp only [List.append_assoc, List.singleton_append]
        exact qv
  case done =>
    rintro s' ⟨Hn, ks, kA, e, In, ha, hk, nk', na', rk, hsz, qk⟩
    simp only [Nat.zero_add] at hsz qk
    rw [List.drop_eq_nil_of_le (by omega)] at qk
    have qk' : G ks Hn := by
      have z : G (ks ++ []) Hn := qk
      rwa [List.append_nil] at z
    rw [← hG] at qk'
    obtain ⟨ds, hd, hal, hdep, hq⟩ := qk'
    try dsimp only
    refine wpAny_bind (listItems_at nk' rfl ?_)
    have hkl : kA.toList.length = ks.length := rk.length.symm
    have hdl : ds.length = xs.length := by
      have := dpAll_len hd
      rw [Array.length_toList] at hkl
      omega
    have er := each_reads In rk hd
    have S : SortsAt X.prog X.w X.A.in1.in1 s' (dataKind s'.heap ds) kA.toList := sorts_good er hal fun d hm => by
      have := hdep d hm
      have := hr.un
      omega
    refine keyH_end (h₁ := hole s'.heap kS) (fun b o _ z => (hole_old z).2) (hole_at _ _) nk' na' hka S (by omega) (by omega) fun h3 tk3 c k3 n3 => ⟨rfl, ?_⟩
    have EK : EachIs (fun v (b : PyData × V) => (dataKind s'.heap ds).keyOf v = some (keyToks b.1)) kA.toList (ds.zip xs) := by
      have z := each_key er
      have e1 : ds = (ds.zip xs).map Prod.fst := (List.map_fst_zip (by omega)).symm
      have z2 : EachIs (fun v d => (dataKind s'.heap ds).keyOf v = some (keyToks d)) kA.toList ((ds.zip xs).map Prod.fst) := by
        rw [← e1]
        exact z
      exact each_of_map Prod.fst z2
    have RV : Vals (sortedBy ds xs) (sortVals (dataKind s'.heap ds) false kA.toList vs) := vals_of_each (sortVals_each (κ := dataKind s'.heap ds) (fun b : PyData × V => keyToks b.1) (vals_zip rv hdl) EK)
    have keep : ∀ b o, b ∉ [a, kS] → s'.heap.get? b = some o → h3.get? b = some o := fun b o hn z => k3 b o (fun y => hn (by simp [y])) (by rw [hole_ne (fun y => hn (by simp [y]))]; exact z)
    have fan := fp_again fa ha
    have fkn := fp_again fk hk
    have I3 : L2.Inv X pins σ Hn { s' with heap := h3, toks := tk3 } := In.turnedL (ch := [a, kS]) keep fun b hm => by
      simp only [List.mem_cons, List.not_mem_nil, or_false] at hm
      rcases hm with rfl | rfl
      · exact fan
      · exact fkn
    have hsl : (sortedBy ds xs).length ≤ sizeLine := by
      unfold sortedBy
      rw [List.length_map, List.length_mergeSort, List.length_zip]
      omega
    have I4 : L2.Inv X pins σ (upd Hn a (.lst (sortedBy ds xs))) { s' with heap := h3, toks := tk3 } := I3.take (h' := h3) (t' := tk3) (fun b ob _ z => z) fan ⟨hsl, _, c, RV, n3⟩
    exact ⟨.ref a, _, I4, rfl, hq a ha⟩
theorem cr_sortKey {k : Nat} {f : Addr} {fd : FuncData} {p : Str} {sp : Sp} (F : FnOk X.prog X.w X.K X.mg X.base CX0 k f fd [p] sp) (hr : Room k X.A.in1.in1) (hb : Binds X.K fd [p] []) : CallRK X (.builtin "sorted") [Str.ofString "key"] (rSortKey X.K f sp) := by
  intro pins s σ H vs zs us ws Q I r rz h
  obtain ⟨l, xs, rfl, rfl, hs, q⟩ := h
  obtain rfl := Vals.ref1 r
  obtain ⟨w1, rfl, e1⟩ := vals1 rz
  obtain rfl : w1 = Value.ref f := e1
  obtain ⟨its, rv, hl, hz⟩ := I.list hs
  have hlen := rv.length
  refine sorted_of_sort hl.isList (by omega) (ksk_s1 _ _) (fun _ => ksk_l1 _ _) fun E' => ?_
  have ho := copyHeap_at s.heap its
  have ha : s.heap.objs.size + 1 < (copyHeap s.heap its).objs.size := Heap.lt_size ho
  show wpAny _ _ (Builtin.«list.sort» ⟨[.ref (s.heap.objs.size + 1)], [(Str.ofString "key", .ref f)]⟩) _ _ _
  rw [ksk_t1]
  obtain ⟨e1, ho1⟩ : ∃ e1, ((copyHeap s.heap its).update (s.heap.objs.size + 1) (Obj.mapSeq fun _ => (#[] : Array Value))).get? (s.heap.objs.size + 1) = some (seqObj "list" #[] e1) := ⟨_, get?_update_seq ho fun _ => #[]⟩
  have hkS : (((copyHeap s.heap its).update (s.heap.objs.size + 1) (Obj.mapSeq fun _ => (#[] : Array Value))).push (seqObj "tuple" its.toArray 0)).objs.size = (copyHeap s.heap its).objs.size + 1 := by rw [size_push', Heap.size_update]
  unfold ksk_tree
  refine wpAny_bind (listItems_at ho rfl ?_)
  refine wpAny_bind (listUpdate_at ho rfl ?_ (by rw [List.size_toArray]; omega) (Nat.zero_le _))
  refine wpAny_bind (seqEpoch_at ho1 rfl ?_)
  refine wpAny_bind (wpAny_newTuple ?_ (by show its.length ≤ _; omega))
  refine wpAny_bind (wpAny_newList ?_ (Nat.zero_le _))
  refine wpAny_holding ?_
  have I2 : L2.Inv X pins σ H { s with heap := sortingHeap (copyHeap s.heap its) (s.heap.objs.size + 1) its } := I.kept (t' := s.toks) fun b o z => sorting_copy_old z
  have n1 : H (s.heap.objs.size + 1) = none := I.hok.fresh (Nat.le_succ _)
  have big : s.heap.objs.size ≤ (((copyHeap s.heap its).update (s.heap.objs.size + 1) (Obj.mapSeq fun _ => (#[] : Array Value))).push (seqObj "tuple" its.toArray 0)).objs.size := by rw [hkS]; omega
  exact wpAny_mono (sort_rest F hr hb I2 (I.fpOk (Nat.le_succ _) n1) (I.fpOk big (I.hok.fresh big)) (by rw [hkS]; exact Nat.ne_of_gt (Nat.lt_succ_of_lt ha)) (Heap.get?_push_of_some _ (Heap.get?_push_of_some _ ho1)) (Heap.get?_push_size _ rfl) rv hz q) (fun r s' z => z) fun _ _ z => z
end
end Nh

namespace Nh
open PySem PySem.Spec PySem.W PyProof.Rows L2
theorem room_in {k : Nat} {A : Around} (r : Room (k + 1) A) : Room k A.in1.in1 := ⟨r.hd, by
  have := r.dp
  show A.depth + 3 * k + 5 < recursionLimit
  omega, by
  have := r.un
  show A.units + 1 + 1 + 16 * k + 200 < cLine
  omega⟩
section
variable {c : Cfg} {W : WX} {as as' : List Addr} {H H' : Hp} {μ : Store}
def mKeys (fm : FA) : List Dat → Store → Res (List Dat)
  | [], μ => .ok [] μ
  | d :: r, μ => (nr fm [d] μ).bind fun k μ1 => (mKeys fm r μ1).bind fun ks μ2 => .ok (k :: ks) μ2
def isTupP : PyData → Bool
  | .tuple _ => true
  | _ => false
def keysOk (ps : List PyData) : Bool := (ps.all fun d => ps.all fun e => PySem.W.alike d e) && (ps.all isTupP && ps.all fun d => decide (d.depth ≤ 8))
def keysStep (ps : List PyData) : Bool := (ps.all fun d => ps.all fun e => stepOk d e) && ps.all fun d => decide (d.depth ≤ 8)
def fSortKey (fm : FA) : FA := fun ds μ => match ds with
  | [d] => match lstAt μ d with
    | some es => (mKeys fm es μ).bind fun ks μ1 => match pyAll (py μ1 12) ks with
      | some ps => if (keysOk ps || keysStep ps) = true then allocR (.lst (sortedBy ps es)) μ1 else .stuck
      | none => .stuck
    | none => .stuck
  | _ => .stuck
theorem mKeys_len {fm : FA} : ∀ {ds : List Dat} {μ μ' : Store} {ks : List Dat}, mKeys fm ds μ = .ok ks μ' → ks.length = ds.length
  | [], _, _, _, h => by cases h; rfl
  | d :: r, μ, μ', ks, h => by
    unfold mKeys at h
    cases h1 : nr fm [d] μ with
    | ok k μ1 =>
      rw [h1] at h
      dsimp only [Res.bind] at h
      cases h2 : mKeys fm r μ1 with
      | ok ks2 μ2 =>
        rw [h2] at h
        cases h
        rw [List.length_cons, List.length_cons, mKeys_len h2]
      | raise n μ2 => rw [h2] at h; cases h
      | stuck => rw [h2] at h; cases h
    | raise n μ1 => rw [h1] at h; cases h
    | stuck => rw [h1] at h; cases h
theorem sim_keys {fm : FA} {σ : L2.St} {W : WX} : ∀ {ds : List Dat} {xs : List V} {as : List Addr} {H : Hp} {μ : Store}, StH c as H μ → RelAll c as H xs ds → ∀ G, Want c (RelAll c) (mKeys fm ds μ) as H σ G W → keysT (spM c 1 (nr fm)) xs H G
  | [], _, as, H, μ, st, r, G, w => by
    cases r
    exact w [] as H .refl st .nil
  | d :: ds, _, as, H, μ, st, r, G, w => by
    cases r with
    | @cons x xs _ _ h t =>
      refine ⟨rfl, as, μ, [d], st, .cons h .nil, ?_⟩
      unfold mKeys at w
      cases h1 : nr fm [d] μ with
      | ok k μ1 =>
        rw [h1] at w
        intro v as1 H1 e1 s1 rv
        refine sim_keys (σ := σ) (W := W) s1 (t.mono e1) _ ?_
        have w1 : Want c (RelAll c) ((mKeys fm ds μ1).bind fun ks μ2 => Res.ok (k :: ks) μ2) as1 H1 σ G W := Want.mono (r := (mKeys fm ds μ1).bind fun ks μ2 => Res.ok (k :: ks) μ2) e1 w
        refine (want_bind (R1 := RelAll c) w1).imp ?_
        rintro ks H2 ⟨as2, μ2, y, e2, s2, r2, w2⟩
        exact w2 _ as2 H2 .refl s2 (.cons (rv.mono e2) r2)
      | raise n μ1 => exact (nr_ne fm [d] μ n μ1 h1).elim
      | stuck => rw [h1] at w; exact w.elim
theorem keysOk_of {ps : List PyData} (h : (keysOk ps || keysStep ps) = true) : KeysGood ps ∧ ∀ d ∈ ps, d.depth ≤ 8 := by
  rw [Bool.or_eq_true] at h
  rcases h with h | h
  · unfold keysOk at h
    rw [Bool.and_eq_true, Bool.and_eq_true, List.all_eq_true, List.all_eq_true, List.all_eq_true] at h
    refine ⟨.inl ⟨fun d hd e he => List.all_eq_true.mp (h.1 d hd) e he, fun d hd => ?_⟩, fun d hd => of_decide_eq_true (h.2.2 d hd)⟩
    have := h.2.1 d hd
    cases d with
    | tuple ys => exact ⟨ys, rfl⟩
    | _ => cases this
  · unfold keysStep at h
    rw [Bool.and_eq_true, List.all_eq_true, List.all_eq_true] at h
    exact ⟨.inr fun d hd e he => List.all_eq_true.mp (h.1 d hd) e he, fun d hd => of_decide_eq_true (h.2 d hd)⟩
theorem relAll_mem {vs : List V} {ds : List Dat} (r : RelAll c as H vs ds) : ∀ {p : V × Dat}, p ∈ vs.zip ds → Rel c as H p.1 p.2 := by
  induction vs generalizing ds with
  | nil => intro p hp; simp at hp
  | cons v vs ih =>
    cases r with
    | cons h t =>
      intro p hp
      rw [List.zip_cons_cons] at hp
      rcases List.mem_cons.mp hp with rfl | hp
      · exact h
      · exact ih t hp
theorem relAll_of : ∀ {l : List (V × Dat)}, (∀ p ∈ l, Rel c as H p.1 p.2) → RelAll c as H (l.map Prod.fst) (l.map Prod.snd)
  | [], _ => .nil
  | p :: l, h => .cons (h p List.mem_cons_self) (relAll_of fun q hq => h q (List.mem_cons_of_mem _ hq))
theorem sortedBy_map {α β : Type} (f : α → β) (ps : List PyData) (l : List α) : (sortedBy ps l).map f = sortedBy ps (l.map f) := by
  unfold sortedBy
  have e : ps.zip (l.map f) = (ps.zip l).map fun q => (q.1, f q.2) := by
    rw [List.zip_map_right]
    rfl
  have m : ((ps.zip l).mergeSort (dataLe false Prod.fst)).map (fun q : PyData × α => (q.1, f q.2)) = ((ps.zip l).map fun q : PyData × α => (q.1, f q.2)).mergeSort (dataLe false Prod.fst) := List.map_mergeSort (fun a _ b _ => rfl)
  rw [e, ← m, List.map_map, List.map_map]
  rfl
theorem sortedBy_mem {α : Type} {ps : List PyData} {l : List α} {x : α} (h : x ∈ sortedBy ps l) : x ∈ l := by
  unfold sortedBy at h
  obtain ⟨q, hq, rfl⟩ := List.mem_map.mp h
  have := (List.mergeSort_perm _ _).mem_iff.mp hq
  exact (List.of_mem_zip this).2
theorem rel_sorted {vs : List V} {ds : List Dat} (r : RelAll c as H vs ds) (ps : List PyData) : RelAll c as H (sortedBy ps vs) (sortedBy ps ds) := by
  have hl := r.length
  have e1 : sortedBy ps vs = (sortedBy ps (vs.zip ds)).map Prod.fst := by
    rw [sortedBy_map, List.map_fst_zip (by omega)]
  have e2 : sortedBy ps ds = (sortedBy ps (vs.zip ds)).map Prod.snd := by
    rw [sortedBy_map, List.map_snd_zip (by omega)]
  rw [e1, e2]
  exact relAll_of fun p hp => relAll_mem r (sortedBy_mem hp)
theorem sim_sortKey {fm : FA} {f : Addr} {t : TA} {a : M (List Dat)} (ha : SimA c W t a) : SimE c W (tCKw (rSortKey c.K f (spM c 1 (nr fm))) t (tCons (tC (.ref f)) tNil)) (mCB (fSortKey fm) a) := by
  intro as H σ δ μ st env Q w
  refine ha as H σ δ μ st env _ ((want_bind (R1 := RelAll c) w).imp ?_)
  rintro vs H1 ⟨as1, μ1, ds, e, s1, rs, w1⟩
  show rSortKey c.K f (spM c 1 (nr fm)) vs [.ref f] H1 Q
  unfold fSortKey at w1
  split at w1
  · rename_i d
    split at w1
    · rename_i es he
      obtain ⟨v, rfl, rv⟩ := rel1 rs
      obtain ⟨l, xs, rfl, h1, h2⟩ := lstAt_of s1 rv he
      refine ⟨l, xs, rfl, rfl, h1, ?_⟩
      refine sim_keys (σ := σ) (W := W) s1 h2 _ ((want_bind (R1 := RelAll c) w1).imp ?_)
      rintro ks H2 ⟨as2, μ2, kd, e2, s2, r2, w2⟩
      split at w2
      · rename_i ps hp
        split at w2
        · rename_i hk
          obtain ⟨k1, k3⟩ := keysOk_of hk
          refine ⟨ps, pyAll_of (fun r hy => py_of s2 12 r hy) r2 hp, k1, k3, fun p hn => ?_⟩
          exact w2 _ _ _ (ext_alloc hn) (s2.alloc hn ⟨_, upd_same, (rel_sorted (h2.mono e2) ps).mono (ext_alloc hn)⟩) (rel_alloc s2)
        · exact w2.elim
      · exact w2.elim
    · exact w1.elim
  · exact w1.elim
end
end Nh

namespace Nh
open PySem PySem.Spec PyProof.Rows L2
section
variable {c : Cfg}
/-! ### texts in order -/
def fLtS : F2 := fun x y μ => match x, y with
  | .str i, .str j => .ok (.bl (decide (i.cps.toList < j.cps.toList))) μ
  | _, _ => .stuck
theorem simr_ltS : SimR c (fun x y H Q => ∃ i j, x = .str i ∧ y = .str j ∧ Q (.bl (decide (i.cps.toList < j.cps.toList))) H) fLtS := by
  intro as H μ v w x y st rx ry σ W Q h
  unfold fLtS at h
  split at h
  · cases rx
    cases ry
    exact ⟨_, _, rfl, rfl, h _ as H .refl st (.bl _)⟩
  · exact h.elim
end
end Nh

namespace Nh
open PySem PySem.Spec PyProof.Rows L2
/-! ### sorted of texts, of numbers; the text of a number -/
def leT (a b : Str) : Bool := !decide (b.cps.toList < a.cps.toList)
theorem natL_tri : ∀ (a b : List Nat), ¬ a < b → ¬ b < a → a = b
  | [], [], _, _ => rfl
  | [], b :: bs, h, _ => (h (List.nil_lt_cons _ _)).elim
  | a :: as, [], _, h => (h (List.nil_lt_cons _ _)).elim
  | a :: as, b :: bs, h1, h2 => by
    rw [List.cons_lt_cons_iff] at h1 h2
    have e : a = b := by omega
    subst e
    rw [natL_tri as bs (fun z => h1 (.inr ⟨rfl, z⟩)) (fun z => h2 (.inr ⟨rfl, z⟩))]
theorem leT_iff {a b : Str} : leT a b = true ↔ ¬ b.cps.toList < a.cps.toList := by
  unfold leT
  rw [Bool.not_eq_true', decide_eq_false_iff_not]
theorem leT_anti {a b : Str} (h1 : leT a b = true) (h2 : leT b a = true) : a = b := by
  have e := natL_tri _ _ (leT_iff.mp h2) (leT_iff.mp h1)
  obtain ⟨x⟩ := a
  obtain ⟨y⟩ := b
  exact congrArg Str.mk (Array.toList_inj.mp e)
theorem leT_total (a b : Str) : (leT a b || leT b a) = true := by
  unfold leT
  by_cases h : b.cps.toList < a.cps.toList
  · rw [decide_eq_false (List.lt_asymm h)]
    simp
  · rw [decide_eq_false h]
    simp
theorem leT_trans (a b c : Str) (h1 : leT a b = true) (h2 : leT b c = true) : leT a c = true := by
  rw [leT_iff] at h1 h2 ⊢
  intro h
  by_cases hb : c.cps.toList < b.cps.toList
  · exact h2 hb
  · by_cases e : b.cps.toList < c.cps.toList
    · exact h1 (List.lt_trans e h)
    · have := natL_tri _ _ e hb
      rw [this] at h1
      exact h1 h
section
variable {c : Cfg} {as : List Addr} {H : Hp} {μ : Store}
def intsD : List Dat → Option (List Int)
  | [] => some []
  | .int i :: r => (intsD r).map (i :: ·)
  | _ :: _ => none
theorem intsD_of : ∀ {ds : List Dat} {is : List Int} {vs : List V}, intsD ds = some is → RelAll c as H vs ds → vs = is.map V.int
  | [], _, _, h, r => by cases h; cases r; rfl
  | d :: ds, is, vs, h, r => by
    cases r with
    | cons h1 t1 =>
      cases d with
      | int i =>
        unfold intsD at h
        cases e : intsD ds with
        | none => rw [e] at h; cases h
        | some js =>
          rw [e] at h
          cases h
          cases h1
          rw [List.map_cons, intsD_of e t1]
      | _ => cases h
def fSortedI : FA := fun ds μ => match ds with
  | [d] => match (lstAt μ d).bind intsD with
    | some is => if is.length < 64 then allocR (.lst ((is.mergeSort fun a b => decide (a ≤ b)).map .int)) μ else .stuck
    | none => .stuck
  | _ => .stuck
theorem simc_sortedI : SimC c (rSorted c.K) fSortedI := by
  intro as H μ vs ds st rs σ W Q h
  unfold fSortedI at h
  split at h
  · rename_i d
    split at h
    · rename_i is he
      split at h
      · rename_i hz
        obtain ⟨v, rfl, r⟩ := rel1 rs
        cases hl : lstAt μ d with
        | none => rw [hl] at he; cases he
        | some es =>
          rw [hl] at he
          obtain ⟨a, xs, rfl, h1, h2⟩ := lstAt_of st r hl
          have e2 : intsD es = some is := he
          obtain rfl := intsD_of e2 h2
          refine ⟨a, is, rfl, h1, hz, fun ys p hp hs hn => ?_⟩
          have e : ys = is.mergeSort fun a b => decide (a ≤ b) := by
            refine List.Perm.eq_of_pairwise (le := fun a b : Int => a ≤ b) (fun a b _ _ x y => Int.le_antisymm x y) hs ?_ (hp.trans (List.mergeSort_perm is _).symm)
            have := List.pairwise_mergeSort (le := fun a b : Int => decide (a ≤ b)) (fun a b c x y => decide_eq_true (Int.le_trans (of_decide_eq_true x) (of_decide_eq_true y))) (fun a b => by
              rcases Int.le_total a b with z | z
              · simp [z]
              · simp [z]) is
            exact this.imp fun z => of_decide_eq_true z
          subst e
          exact h _ _ _ (ext_alloc hn) (st.alloc hn ⟨_, upd_same, relInts _⟩) (rel_alloc st)
      · exact h.elim
    · exact h.elim
  · exact h.elim
theorem rising_le : ∀ (r : List Str) (p : Str), risingS p r = true → (∀ x ∈ r, leT p x = true) ∧ r.Pairwise fun a b => leT a b = true
  | [], _, _ => ⟨(fun _ h => nomatch h), List.Pairwise.nil⟩
  | x :: r, p, h => by
    unfold risingS at h
    rw [Bool.and_eq_true, ltCps_eq] at h
    obtain ⟨h1, h2⟩ := h
    have hpx : leT p x = true := h1
    obtain ⟨z1, z2⟩ := rising_le r x h2
    refine ⟨fun y hy => ?_, .cons z1 z2⟩
    rcases List.mem_cons.mp hy with rfl | hy
    · exact hpx
    · exact leT_trans _ _ _ hpx (z1 y hy)
theorem sortedS_le {l : List Str} (h : sortedS l = true) : l.Pairwise fun a b => leT a b = true := by
  cases l with
  | nil => exact .nil
  | cons x r =>
    obtain ⟨z1, z2⟩ := rising_le r x h
    exact .cons z1 z2
def fSortedS : FA := fun ds μ => match ds with
  | [d] => match (lstAt μ d).bind strsD with
    | some ss => if ss.length < 64 then allocR (.lst ((ss.mergeSort leT).map .str)) μ else .stuck
    | none => .stuck
  | _ => .stuck
theorem simc_sortedS : SimC c (rSortedS c.K) fSortedS := by
  intro as H μ vs ds st rs σ W Q h
  unfold fSortedS at h
  split at h
  · rename_i d
    split at h
    · rename_i ss he
      split at h
      · rename_i hz
        obtain ⟨v, rfl, r⟩ := rel1 rs
        cases hl : lstAt μ d with
        | none => rw [hl] at he; cases he
        | some es =>
          rw [hl] at he
          obtain ⟨a, xs, rfl, h1, h2⟩ := lstAt_of st r hl
          have e2 : strsD es = some ss := he
          obtain rfl := strsD_of e2 h2
          refine ⟨a, ss, rfl, h1, hz, fun ys p hp hs hn => ?_⟩
          have e : ys = ss.mergeSort leT := List.Perm.eq_of_pairwise (le := fun a b => leT a b = true) (fun a b _ _ x y => leT_anti x y) (sortedS_le hs) (List.pairwise_mergeSort leT_trans leT_total ss) (hp.trans (List.mergeSort_perm ss _).symm)
          subst e
          exact h _ _ _ (ext_alloc hn) (st.alloc hn ⟨_, upd_same, relStrs _⟩) (rel_alloc st)
      · exact h.elim
    · exact h.elim
  · exact h.elim
def fStrI : FA := fun ds μ => match ds with
  | [.int i] => if i.natAbs.log2 < 1920 then .ok (.str (toString i)) μ else .stuck
  | _ => .stuck
theorem simc_strI : SimC c (fun xs H Q => ∃ i : Int, xs = [.int i] ∧ i.natAbs.log2 < 1920 ∧ Q (.str (toString i)) H) fStrI := by
  intro as H μ vs ds st rs σ W Q h
  unfold fStrI at h
  split at h
  · split at h
    · rename_i hz
      obtain ⟨v, rfl, r⟩ := rel1 rs
      cases r
      exact ⟨_, rfl, hz, h _ as H .refl st (.str _)⟩
    · exact h.elim
  · exact h.elim
end
end Nh

namespace Nh
open PySem PySem.Spec PyProof.Rows L2 RZ
section
variable {c : Cfg} {W : WX} {as as' : List Addr} {H H' : Hp} {μ : Store}
/-! ### zip of two tuples -/
def pairAt (ds es : List Dat) (i : Nat) : Option Dat := match ds[i]?, es[i]? with
  | some d, some e => some (.tup [d, e])
  | _, _ => none
def srcZ (ds es : List Dat) : Src := ⟨min ds.length es.length, fun i _ => pairAt ds es i, fun _ => true⟩
theorem jrel_zipT {a b : Addr} {xs ys : List V} {ds es : List Dat} (ha : RoT c.K H a xs) (ra : RelAll c as H xs ds) (hb : RoT c.K H b ys) (rb : RelAll c as H ys es) : JRel c as H (ItzT c.K a b) (srcZ ds es) := fun as' H' μ' e st => by
  refine ⟨fun i d hi hg => ?_, fun _ => ⟨xs, ys, (ha.mono e).sq, (hb.mono e).sq, ?_⟩⟩
  · have hg' : pairAt ds es i = some d := hg
    unfold pairAt at hg'
    split at hg'
    · rename_i d1 d2 e1 e2
      cases hg'
      obtain ⟨x, hx, rx⟩ := (ra.mono e).get e1
      obtain ⟨y, hy, ry⟩ := (rb.mono e).get e2
      refine ⟨⟨xs, ys, x, y, (ha.mono e).sq, (hb.mono e).sq, hx, hy⟩, fun v H2 z => ?_⟩
      obtain ⟨T, x', y', rfl, hn, rfl, q1, q2⟩ := z
      have z1 := q1 xs (ha.mono e).sq
      have z2 := q2 ys (hb.mono e).sq
      rw [hx] at z1
      rw [hy] at z2
      cases z1
      cases z2
      exact ⟨ext_new hn, st.tup hn, .tup upd_same (.cons (rx.mono (ext_new hn)) (.cons (ry.mono (ext_new hn)) .nil))⟩
    · cases hg'
  · show xs.length ≤ min ds.length es.length ∨ ys.length ≤ min ds.length es.length
    have h1 := ra.length
    have h2 := rb.length
    omega
def miZipT (a : M (List Dat)) : M Src := fun δ μ => (a δ μ).bind fun ds μ1 => match ds with
  | [.tup ds, .tup es] => .ok (srcZ ds es) μ1
  | _ => .stuck
theorem simi_zipT {t : TA} {a : M (List Dat)} (h : SimA c W t a) : SimI c W (iZipA c.K t) (miZipT a) := by
  intro as H σ δ μ st env Q w
  refine h as H σ δ μ st env _ ((want_bind (R1 := RelAll c) w).imp ?_)
  rintro vs H1 ⟨as1, μ1, ds, e, s1, rs, w1⟩
  split at w1
  · obtain ⟨v, u, rfl, r1, r2⟩ := rel2 rs
    cases r1 with
    | @tup p xs _ h1 h2 =>
      cases r2 with
      | @tup q ys _ h3 h4 => exact ⟨p, q, xs, ys, rfl, .inr ⟨h1.sq, h3.sq, w1 _ as1 H1 .refl s1 (jrel_zipT h1 h2 h3 h4)⟩⟩
  · exact w1.elim
end
end Nh

namespace Nh
open PySem PySem.Spec PyProof.Rows L2
section
variable {c : Cfg} {W : WX} {as as' : List Addr} {H H' : Hp} {μ : Store} {α β : Type}
/-! ### this or that: the first that gives an answer -/
def fAlt (f g : F2) : F2 := fun x y μ => match f x y μ with
  | .stuck => g x y μ
  | r => r
theorem simr_alt {r r' : R2} {f g : F2} (h : SimR c r f) (k : SimR c r' g) : SimR c (fun x y H Q => r x y H Q ∨ r' x y H Q) (fAlt f g) := by
  intro as H μ v w x y st rx ry σ W Q q
  unfold fAlt at q
  cases e : f x y μ with
  | ok d μ' => rw [e] at q; exact .inl (h as H μ v w x y st rx ry σ W Q (by rw [e]; exact q))
  | raise n μ' => rw [e] at q; exact .inl (h as H μ v w x y st rx ry σ W Q (by rw [e]; exact q))
  | stuck => rw [e] at q; exact .inr (k as H μ v w x y st rx ry σ W Q q)
def fAlt3 (f g : F3) : F3 := fun x l h μ => match f x l h μ with
  | .stuck => g x l h μ
  | r => r
theorem sims_alt3 {r r' : V → Option Int → Option Int → Hp → VK → Prop} {f g : F3} (h : SimSl c r f) (k : SimSl c r' g) : SimSl c (fun x lo hi H Q => r x lo hi H Q ∨ r' x lo hi H Q) (fAlt3 f g) := by
  intro as H μ v x lo hi st rx σ W Q q
  unfold fAlt3 at q
  cases e : f x lo hi μ with
  | ok d μ' => rw [e] at q; exact .inl (h as H μ v x lo hi st rx σ W Q (by rw [e]; exact q))
  | raise n μ' => rw [e] at q; exact .inl (h as H μ v x lo hi st rx σ W Q (by rw [e]; exact q))
  | stuck => rw [e] at q; exact .inr (k as H μ v x lo hi st rx σ W Q q)
def mAlt (m n : M α) : M α := fun δ μ => match m δ μ with
  | .stuck => n δ μ
  | r => r
theorem sim_alt {R : List Addr → Hp → β → α → Prop} {t u : L2.St → Hp → (β → Hp → Prop) → Prop} {m n : M α} (h : Sim c W R t m) (k : Sim c W R u n) : Sim c W R (fun σ H Q => t σ H Q ∨ u σ H Q) (mAlt m n) := by
  intro as H σ δ μ st env Q q
  unfold mAlt at q
  cases e : m δ μ with
  | ok d μ' => rw [e] at q; exact .inl (h as H σ δ μ st env Q (by rw [e]; exact q))
  | raise n μ' => rw [e] at q; exact .inl (h as H σ δ μ st env Q (by rw [e]; exact q))
  | stuck => rw [e] at q; exact .inr (k as H σ δ μ st env Q q)
theorem pe_or2 {X : Cx} {e : Expr} {t u : TE} (h : PE X e t) (k : PE X e u) : PE X e (fun σ H Q => t σ H Q ∨ u σ H Q) :=
  ⟨fun pins s σ H Q I q => q.elim (h.run pins s σ H Q I) (k.run pins s σ H Q I)⟩
theorem pi_or2 {X : Cx} {tg e : Expr} {t u : TI} (h : PI X tg e t) (k : PI X tg e u) : PI X tg e (fun σ H R => t σ H R ∨ u σ H R) :=
  ⟨fun pins s σ H R I q => q.elim (h.run pins s σ H R I) (k.run pins s σ H R I)⟩
/-! ### operators of any kind -/
theorem op_addU {X : Cx} : OpR X (binaryOp .Add) (fun x y H Q => rI0 (fun i j => V.int (i + j)) x y H Q ∨ (∃ i j, x = V.str i ∧ y = V.str j ∧ i.length + j.length ≤ sizeLine ∧ Q (V.str (i ++ j)) H) ∨ rCatA X.K x y H Q ∨ rCat x y H Q) :=
  op_add.or (op_add_str.or (op_catA.or op_cat))
def fAddU : F2 := fAlt fAdd (fAlt fAddS (fAlt fCatT fCat))
theorem simr_addU : SimR c (fun x y H Q => rI0 (fun i j => V.int (i + j)) x y H Q ∨ (∃ i j, x = V.str i ∧ y = V.str j ∧ i.length + j.length ≤ sizeLine ∧ Q (V.str (i ++ j)) H) ∨ rCatA c.K x y H Q ∨ rCat x y H Q) fAddU :=
  simr_alt simr_add (simr_alt simr_addS (simr_alt simr_catT simr_cat))
theorem op_mulU {X : Cx} : OpR X (binaryOp .Mult) (fun x y H Q => rI CMul (fun i j => V.int (i * j)) x y H Q ∨ rMulS x y H Q ∨ rRepT X.K x y H Q) := op_mul.or (op_mulS.or op_repT)
def fMulU : F2 := fAlt fMul (fAlt fMulS fRepT)
theorem simr_mulU : SimR c (fun x y H Q => rI CMul (fun i j => V.int (i * j)) x y H Q ∨ rMulS x y H Q ∨ rRepT c.K x y H Q) fMulU := simr_alt simr_mul (simr_alt simr_mulS simr_repT)
theorem ix_U {X : Cx} : IxR X (fun x y H Q => rIxL X.K x y H Q ∨ rIxT X.K x y H Q ∨ rIxS x y H Q) := ix_list.or (ix_tup.or ix_str)
def fIxU : F2 := fAlt fIxL (fAlt fIxT fIxS)
theorem simr_ixU : SimR c (fun x y H Q => rIxL c.K x y H Q ∨ rIxT c.K x y H Q ∨ rIxS x y H Q) fIxU := simr_alt simr_ixL (simr_alt simr_ixT simr_ixS)
theorem sl_U {X : Cx} : SlR X (fun x lo hi H Q => rSlL X.K x lo hi H Q ∨ rSlA X.K x lo hi H Q ∨ rSlS x lo hi H Q) := sl_list.or (sl_tupA.or sl_str)
def fSlU : F3 := fAlt3 fSlL (fAlt3 fSlT fSlS)
theorem sims_U : SimSl c (fun x lo hi H Q => rSlL c.K x lo hi H Q ∨ rSlA c.K x lo hi H Q ∨ rSlS x lo hi H Q) fSlU := sims_alt3 sims_lst (sims_alt3 sims_tup sims_str)
/-! ### < of texts; the other comparisons of texts -/
def fLeS : F2 := fun x y μ => match x, y with
  | .str i, .str j => .ok (.bl (!decide (j.cps.toList < i.cps.toList))) μ
  | _, _ => .stuck
def fGtS : F2 := fun x y μ => match x, y with
  | .str i, .str j => .ok (.bl (decide (j.cps.toList < i.cps.toList))) μ
  | _, _ => .stuck
theorem simr_leS : SimR c (fun x y H Q => ∃ i j, x = .str i ∧ y = .str j ∧ Q (.bl (!decide (j.cps.toList < i.cps.toList))) H) fLeS := by
  intro as H μ v w x y st rx ry σ W Q h
  unfold fLeS at h
  split at h
  · cases rx
    cases ry
    exact ⟨_, _, rfl, rfl, h _ as H .refl st (.bl _)⟩
  · exact h.elim
theorem simr_gtS : SimR c (fun x y H Q => ∃ i j, x = .str i ∧ y = .str j ∧ Q (.bl (decide (j.cps.toList < i.cps.toList))) H) fGtS := by
  intro as H μ v w x y st rx ry σ W Q h
  unfold fGtS at h
  split at h
  · cases rx
    cases ry
    exact ⟨_, _, rfl, rfl, h _ as H .refl st (.bl _)⟩
  · exact h.elim
theorem op_ltU {X : Cx} : OpR X (compareOp .Lt) (fun x y H Q => rI0 (fun i j => V.bl (decide (i < j))) x y H Q ∨ ∃ i j, x = V.str i ∧ y = V.str j ∧ Q (V.bl (decide (i.cps.toList < j.cps.toList))) H) := op_lt.or op_lt_str
def fLtU : F2 := fAlt fLt fLtS
theorem simr_ltU : SimR c (fun x y H Q => rI0 (fun i j => V.bl (decide (i < j))) x y H Q ∨ ∃ i j, x = V.str i ∧ y = V.str j ∧ Q (V.bl (decide (i.cps.toList < j.cps.toList))) H) fLtU := simr_alt simr_lt simr_ltS
/-! ### in, of any kind -/
def rInDict (neg : Bool) : R2 := fun x y H Q => ∃ (a : Addr) (o : Option V), y = .ref a ∧ DGet H a x o ∧ Q (.bl (if neg then !o.isSome else o.isSome)) H
theorem op_inDict {X : Cx} (hu : X.A.units + 1 < cLine) : OpR X (compareOp .In) (rInDict false) := by
  intro pins s σ H x y v u Q I rx ry h
  obtain ⟨a, o, rfl, g, q⟩ := h
  obtain rfl : u = Value.ref a := ry
  exact d_in hu I g rx fun s3 I3 => ⟨.bl o.isSome, H, I3, rfl, q⟩
theorem op_notInDict {X : Cx} (hu : X.A.units + 1 < cLine) : OpR X (compareOp .NotIn) (rInDict true) := by
  intro pins s σ H x y v u Q I rx ry h
  obtain ⟨a, o, rfl, g, q⟩ := h
  obtain rfl : u = Value.ref a := ry
  exact d_notIn hu I g rx fun s3 I3 => ⟨.bl (!o.isSome), H, I3, rfl, q⟩
def allKeys : List Dat → Option (List Key)
  | [] => some []
  | d :: r => match keyD d, allKeys r with
    | some k, some ks => some (k :: ks)
    | _, _ => none
theorem allKeys_of : ∀ {ds : List Dat} {ks : List Key} {vs : List V}, allKeys ds = some ks → RelAll c as H vs ds → vs = ks.map kV
  | [], _, _, h, r => by cases h; cases r; rfl
  | d :: ds, ks, _, h, r => by
    cases r with
    | cons h1 t =>
      unfold allKeys at h
      split at h
      · rename_i k ks' e1 e2
        cases h
        rw [keyD_of h1 e1, allKeys_of e2 t]
        rfl
      · cases h
def lookP {κ : Type} [DecidableEq κ] (kvs : List (κ × Dat)) (k : κ) : Option Dat := (kvs.find? fun kv => decide (kv.1 = k)).map (·.2)
theorem RelP.look {κ : Type} [DecidableEq κ] {ps : List (κ × V)} {kvs : List (κ × Dat)} (r : RelP c as H ps kvs) (k : κ) : match lookP kvs k with
    | some d => ∃ v, valV ps k = some v ∧ Rel c as H v d
    | none => valV ps k = none := by
  induction r with
  | nil => rfl
  | @cons p q ps qs h1 t ih =>
    unfold lookP
    rw [List.find?_cons]
    by_cases e : q.1 = k
    · rw [decide_eq_true e]
      exact ⟨p.2, valV_pos (h1.1.trans e), h1.2⟩
    · rw [decide_eq_false e]
      rw [valV_neg (by rw [h1.1]; exact e)]
      exact ih
end
end Nh

namespace Nh
open PySem PySem.Spec PyProof.Rows L2
section
variable {c : Cfg} {W : WX} {as as' : List Addr} {H H' : Hp} {μ : Store} {σ : L2.St} {δ : Env}
/-! ### fields -/
def putG {β : Type} (f : Str) (v : β) : List (Str × β) → List (Str × β)
  | [] => [(f, v)]
  | q :: r => if q.1 = f then (q.1, v) :: r else q :: putG f v r
theorem putG_V (f : Str) (v : V) : ∀ fs : List (Str × V), putG f v fs = putF f v fs
  | [] => rfl
  | (g, x) :: r => by
    unfold putG putF
    by_cases h : g = f
    · rw [if_pos h, if_pos h]
    · rw [if_neg h, if_neg h, putG_V f v r]
theorem RelP.len {κ : Type} {ps : List (κ × V)} {kvs : List (κ × Dat)} (r : RelP c as H ps kvs) : ps.length = kvs.length := Paired.length r
theorem RelP.putG {ps : List (Str × V)} {fs : List (Str × Dat)} {f : Str} {v : V} {d : Dat} (r : RelP c as H ps fs) (h : Rel c as H v d) : RelP c as H (Nh.putG f v ps) (Nh.putG f d fs) := by
  induction r with
  | nil => exact .cons ⟨rfl, h⟩ .nil
  | @cons p q ps qs h1 t ih =>
    unfold Nh.putG
    by_cases e : q.1 = f
    · rw [if_pos e, if_pos (h1.1.trans e)]
      exact .cons ⟨h1.1, h⟩ t
    · rw [if_neg e, if_neg (by rw [h1.1]; exact e)]
      exact .cons h1 ih
theorem RelP.lookF {ps : List (Str × V)} {fs : List (Str × Dat)} (r : RelP c as H ps fs) (f : Str) : match fs.lookup f with
    | some d => ∃ v, ps.lookup f = some v ∧ Rel c as H v d
    | none => ps.lookup f = none := by
  induction r with
  | nil => rfl
  | @cons p q ps qs h1 t ih =>
    obtain ⟨a, v⟩ := p
    obtain ⟨b, d⟩ := q
    obtain ⟨e1, e2⟩ := h1
    dsimp only at e1 e2
    subst e1
    rw [List.lookup_cons, List.lookup_cons]
    cases e : f == a with
    | true => exact ⟨v, rfl, e2⟩
    | false => exact ih
/-- which fields a class's instances may have -/
abbrev FldT := Nat → Str → Bool
structure FldOk (c : Cfg) (ok : FldT) : Prop where
  cls : ∀ n f, ok n f = true → Cls c.K (c.cl n)
  no : ∀ n f, ok n f = true → NoAttr c.K (c.cl n) f
def insAt (μ : Store) : Dat → Option (Nat × Nat × List (Str × Dat))
  | .cell k => match μ[k]? with
    | some (.ins n fs) => some (k, n, fs)
    | _ => none
  | _ => none
theorem insAt_of {v : V} {d : Dat} {k n : Nat} {fs : List (Str × Dat)} (st : StH c as H μ) (r : Rel c as H v d) (h : insAt μ d = some (k, n, fs)) :
    ∃ a dx vs, d = .cell k ∧ v = .ref a ∧ μ[k]? = some (.ins n fs) ∧ as[k]? = some a ∧ H a = some (.ins (c.cl n) dx vs) ∧ RelP c as H vs fs := by
  unfold insAt at h
  split at h
  · split at h
    · rename_i hk
      cases h
      cases r with
      | cell ha =>
        obtain ⟨dx, vs, h1, h2⟩ := st.cell_at hk ha
        exact ⟨_, dx, vs, rfl, rfl, hk, ha, h1, h2⟩
    · cases h
  · cases h
def mFld (ok : FldT) (f : Str) (a : M Dat) : M Dat := fun δ μ => (a δ μ).bind fun x μ1 => match insAt μ1 x with
  | some (_, n, fs) => if ok n f = true then match fs.lookup f with
    | some d => .ok d μ1
    | none => .stuck else .stuck
  | none => .stuck
theorem sim_fld {ok : FldT} (hok : FldOk c ok) {f : Str} {t : TE} {a : M Dat} (h : SimE c W t a) : SimE c W (tFld c.K t f) (mFld ok f a) := by
  intro as H σ δ μ st env Q w
  refine h as H σ δ μ st env _ ((want_bind (R1 := Rel c) w).imp ?_)
  rintro v H1 ⟨as1, μ1, x, e, s1, r, w1⟩
  split at w1
  · rename_i k n fs hx
    obtain ⟨p, dx, vs, rfl, rfl, hk, ha, h1, h2⟩ := insAt_of s1 r hx
    split at w1
    · rename_i hf
      have q := h2.lookF f
      split at w1
      · rename_i d hd
        rw [hd] at q
        obtain ⟨v, h3, h4⟩ := q
        exact ⟨p, _, dx, vs, v, rfl, h1, hok.cls n f hf, hok.no n f hf, h3, w1 _ as1 H1 .refl s1 h4⟩
      · exact w1.elim
    · exact w1.elim
  · exact w1.elim
/-- o.f = v -/
def msFld (ok : FldT) (f : Str) (a v : M Dat) : MS := fun δ μ => (v δ μ).toS δ fun z μ1 => (a δ μ1).toS δ fun x μ2 => match insAt μ2 x with
  | some (k, n, fs) => if ok n f = true ∧ fs.length < 1000 then .nx δ (μ2.set k (.ins n (putG f z fs))) else .stuck
  | none => .stuck
theorem sims_fld {ok : FldT} (hok : FldOk c ok) {f : Str} {ta tv : TE} {a v : M Dat} (ha : SimE c W ta a) (hv : SimE c W tv v) : SimS c W (sFld c.K ta tv f) (msFld ok f a v) := by
  intro as H σ δ μ st env D w
  refine hv as H σ δ μ st env _ ((want_toS (R := Rel c) env w).imp ?_)
  rintro z H1 ⟨as1, μ1, dz, e1, s1, rz, w1⟩
  have env1 := env.mono e1
  refine ha as1 H1 σ δ μ1 s1 env1 _ ((want_toS (R := Rel c) env1 w1).imp ?_)
  rintro x H2 ⟨as2, μ2, dx, e2, s2, rx, w2⟩
  have env2 := env1.mono e2
  split at w2
  · rename_i k n fs hx
    obtain ⟨p, dd, vs, rfl, rfl, hk, hp, h1, h2⟩ := insAt_of s2 rx hx
    split at w2
    · rename_i hf
      have rz2 := rz.mono e2
      have ee := ext_set (o := .ins (c.cl n) dd (putF f z vs)) s2 hk hp
      refine ⟨p, _, dd, vs, rfl, h1, hok.cls n f hf.1, hok.no n f hf.1, by rw [h2.len]; exact hf.2, ?_⟩
      have q := (h2.putG (f := f) rz2).mono ee
      rw [putG_V] at q
      exact w2 σ as2 _ ee (s2.set (y := .ins n (putG f dz fs)) hk hp ⟨dd, _, upd_same, q⟩) (env2.mono ee)
    · exact w2.elim
  · exact w2.elim
/-- o.f += v, whole numbers -/
def msFldAdd (ok : FldT) (f : Str) (a v : M Dat) : MS := fun δ μ => (a δ μ).toS δ fun x μ1 => match insAt μ1 x with
  | some (k, n, fs) => if ok n f = true then match fs.lookup f with
    | some (.int i) => (v δ μ1).toS δ fun y μ2 => match y, μ2[k]? with
      | .int j, some (.ins m gs) => if m = n ∧ gs.length < 1000 then .nx δ (μ2.set k (.ins n (putG f (.int (i + j)) gs))) else .stuck
      | _, _ => .stuck
    | _ => .stuck else .stuck
  | none => .stuck
theorem sims_fldAdd {ok : FldT} (hok : FldOk c ok) {f : Str} {ta tv : TE} {a v : M Dat} (ha : SimE c W ta a) (hv : SimE c W tv v) : SimS c W (sFldAug c.K ta tv rAdd f) (msFldAdd ok f a v) := by
  intro as H σ δ μ st env D w
  refine ha as H σ δ μ st env _ ((want_toS (R := Rel c) env w).imp ?_)
  rintro x H1 ⟨as1, μ1, dx, e1, s1, rx, w1⟩
  have env1 := env.mono e1
  split at w1
  · rename_i k n fs hx
    obtain ⟨p, dd, vs, rfl, rfl, hk, hp, h1, h2⟩ := insAt_of s1 rx hx
    split at w1
    · rename_i hf
      have q := h2.lookF f
      split at w1
      · rename_i i hi
        rw [hi] at q
        obtain ⟨u, h3, h4⟩ := q
        cases h4
        refine ⟨p, _, dd, vs, _, rfl, h1, hok.cls n f hf, hok.no n f hf, h3, ?_⟩
        refine hv as1 H1 σ δ μ1 s1 env1 _ ((want_toS (R := Rel c) env1 w1).imp ?_)
        rintro y H2 ⟨as2, μ2, dy, e2, s2, ry, w2⟩
        have env2 := env1.mono e2
        split at w2
        · rename_i j m gs hk2
          split at w2
          · rename_i hm
            obtain ⟨hm, hl⟩ := hm
            subst hm
            cases ry
            have hp2 := e2.pre _ _ hp
            obtain ⟨d2, vs2, h5, h6⟩ := s2.cell_at hk2 hp2
            have ee := ext_set (o := .ins (c.cl m) d2 (putF f (.int (i + j)) vs2)) s2 hk2 hp2
            refine ⟨i, j, rfl, rfl, d2, vs2, h5, by rw [h6.len]; exact hl, ?_⟩
            have q := (h6.putG (f := f) (v := .int (i + j)) (.int _)).mono ee
            rw [putG_V] at q
            exact w2 σ as2 _ ee (s2.set (y := .ins m (putG f (.int (i + j)) gs)) hk2 hp2 ⟨d2, _, upd_same, q⟩) (env2.mono ee)
          · exact w2.elim
        · exact w2.elim
      · exact w1.elim
    · exact w1.elim
  · exact w1.elim
/-! ### methods of own classes -/
def mMeth (n : Nat) (m : Str) (k : Nat) (f : FA) (a : M Dat) (b : M (List Dat)) : M Dat := fun δ μ => (a δ μ).bind fun x μ1 => match insAt μ1 x with
  | some (_, n', fs) => if n' = n ∧ fs.lookup m = none then (b δ μ1).bind fun ds μ2 => if ds.length + 1 = k then f (x :: ds) μ2 else .stuck else .stuck
  | none => .stuck
theorem sim_meth {n k : Nat} {m : Str} {f : FA} {E : XK} {ta : TE} {t : TA} {a : M Dat} {b : M (List Dat)} (ha : SimE c W ta a) (h : SimA c W t b)
    (hE : ∀ k μ', (∀ ds μ, f ds μ ≠ .raise k μ') ∨ ∀ σ cls H, W cls none σ H → E cls none H) : SimE c W (tMeth (c.cl n) m (spM c k f) [] E ta t) (mMeth n m k f a b) := by
  intro as H σ δ μ st env Q w
  refine ha as H σ δ μ st env _ ((want_bind (R1 := Rel c) w).imp ?_)
  rintro v H1 ⟨as1, μ1, x, e1, s1, rx, w1⟩
  split at w1
  · rename_i j n' fs hx
    obtain ⟨p, dd, vs, rfl, rfl, hk, hp, h1, h2⟩ := insAt_of s1 rx hx
    split at w1
    · rename_i hn
      obtain ⟨rfl, hm⟩ := hn
      have q := h2.lookF m
      rw [hm] at q
      refine ⟨p, dd, vs, rfl, h1, q, ?_⟩
      refine h as1 H1 σ δ μ1 s1 (env.mono e1) _ ((want_bind (R1 := RelAll c) w1).imp ?_)
      rintro us H2 ⟨as2, μ2, ds, e2, s2, rs, w2⟩
      split at w2
      · rename_i hl
        rw [List.append_nil]
        refine ⟨by rw [List.length_cons, rs.length]; exact hl, as2, μ2, _, s2, .cons (rx.mono e2) rs, ?_⟩
        cases hf : f (.cell j :: ds) μ2 with
        | ok x μ' => rw [hf] at w2; exact w2
        | raise k μ' =>
          rw [hf] at w2
          rcases hE k μ' with z | z
          · exact (z _ _ hf).elim
          · exact fun a' H' e' s' => z σ _ _ (w2 a' H' e' s')
        | stuck => rw [hf] at w2; exact w2
      · exact w2.elim
    · exact w1.elim
  · exact w1.elim
theorem sim_meth0 {n k : Nat} {m : Str} {f : FA} {ta : TE} {t : TA} {a : M Dat} {b : M (List Dat)} (ha : SimE c W ta a) (h : SimA c W t b) : SimE c W (tMeth (c.cl n) m (spM c k (nr f)) [] E0 ta t) (mMeth n m k (nr f) a b) :=
  sim_meth ha h fun k μ' => .inl fun ds μ => nr_ne f ds μ k μ'
theorem sim_methE {n k : Nat} {m : Str} {f : FA} {E : XK} {ta : TE} {t : TA} {a : M Dat} {b : M (List Dat)} (ha : SimE c (fun cls d _ H => E cls d H) ta a) (h : SimA c (fun cls d _ H => E cls d H) t b) :
    SimE c (fun cls d _ H => E cls d H) (tMeth (c.cl n) m (spM c k f) [] E ta t) (mMeth n m k f a b) := sim_meth ha h fun _ _ => .inr fun _ _ _ z => z
/-! ### new instances -/
def mkEnd (j : Nat) : Dat → Store → Res Dat := fun r μ => match r with
  | .non => .ok (.cell j) μ
  | _ => .stuck
def mMake (n k : Nat) (f : FA) (b : M (List Dat)) : M Dat := fun δ μ => (b δ μ).bind fun ds μ1 => if ds.length + 1 = k then
  (f (.cell μ1.length :: ds) (μ1 ++ [.ins n []])).bind (mkEnd μ1.length) else .stuck
theorem made_st {n : Nat} {x dx : Addr} (st : StH c as H μ) (hx : H x = none) (hd : H dx = none) (ne : dx ≠ x) :
    Ext as H (as ++ [x]) (upd (upd H dx (.own x)) x (.ins (c.cl n) dx [])) ∧ StH c (as ++ [x]) (upd (upd H dx (.own x)) x (.ins (c.cl n) dx [])) (μ ++ [.ins n []]) := by
  have hx2 : (upd H dx (.own x)) x = none := by rw [upd_ne (Ne.symm ne)]; exact hx
  have s1 := st.tup (o := .own x) hd
  exact ⟨(ext_new hd).trans (ext_alloc hx2), s1.alloc hx2 ⟨dx, [], upd_same, .nil⟩⟩
theorem want_made {f : FA} {n : Nat} {us : List V} {ds : List Dat} {x dx : Addr} {Q : VK} {E : XK} (hE : ∀ k μ', (∀ ds μ, f ds μ ≠ .raise k μ') ∨ ∀ σ cls H, W cls none σ H → E cls none H)
    (st : StH c as H μ) (rs : RelAll c as H us ds) (hx : H x = none) (hd : H dx = none) (ne : dx ≠ x)
    (w : Want c (Rel c) ((f (.cell μ.length :: ds) (μ ++ [.ins n []])).bind (mkEnd μ.length)) as H σ Q W) :
    spM c (ds.length + 1) f (.ref x :: us) (upd (upd H dx (.own x)) x (.ins (c.cl n) dx [])) (fun v H2 => v = .non ∧ Q (.ref x) H2) E := by
  obtain ⟨ee, s1⟩ := made_st (c := c) (n := n) st hx hd ne
  have ra : Rel c (as ++ [x]) (upd (upd H dx (.own x)) x (.ins (c.cl n) dx [])) (.ref x) (.cell μ.length) := rel_alloc st
  refine ⟨by rw [List.length_cons, rs.length], _, _, _, s1, .cons ra (rs.mono ee), ?_⟩
  replace w := Want.mono ee w
  cases hf : f (.cell μ.length :: ds) (μ ++ [.ins n []]) with
  | ok r μ' =>
    rw [hf] at w
    change Want c (Rel c) (mkEnd μ.length r μ') _ _ σ Q W at w
    unfold mkEnd at w
    split at w
    · intro v a' H' e' s' rv
      cases rv
      exact ⟨rfl, w _ a' H' e' s' (ra.mono e')⟩
    · exact w.elim
  | raise k μ' =>
    rw [hf] at w
    rcases hE k μ' with z | z
    · exact (z _ _ hf).elim
    · exact fun a' H' e' s' => z σ _ _ (w a' H' e' s')
  | stuck => rw [hf] at w; exact w
theorem sim_make {n k : Nat} {f : FA} {E : XK} {t : TA} {b : M (List Dat)} (h : SimA c W t b) (hE : ∀ k μ', (∀ ds μ, f ds μ ≠ .raise k μ') ∨ ∀ σ cls H, W cls none σ H → E cls none H) :
    SimE c W (tMake (c.cl n) (spM c k f) [] E t) (mMake n k f b) := by
  intro as H σ δ μ st env Q w
  refine h as H σ δ μ st env _ ((want_bind (R1 := RelAll c) w).imp ?_)
  rintro us H1 ⟨as1, μ1, ds, e1, s1, rs, w1⟩ x dx hx hd ne
  split at w1
  · rename_i hl
    subst hl
    rw [List.append_nil]
    exact want_made hE s1 rs hx hd ne w1
  · exact w1.elim
theorem sim_make0 {n k : Nat} {f : FA} {t : TA} {b : M (List Dat)} (h : SimA c W t b) : SimE c W (tMake (c.cl n) (spM c k (nr f)) [] E0 t) (mMake n k (nr f) b) :=
  sim_make h fun k μ' => .inl fun ds μ => nr_ne f ds μ k μ'
theorem sim_makeE {n k : Nat} {f : FA} {E : XK} {t : TA} {b : M (List Dat)} (h : SimA c (fun cls d _ H => E cls d H) t b) : SimE c (fun cls d _ H => E cls d H) (tMake (c.cl n) (spM c k f) [] E t) (mMake n k f b) :=
  sim_make h fun _ _ => .inr fun _ _ _ z => z
end
/-! ### within a try's body: what is raised is wished for at the slots -/
section
variable {X : Cx} {CX : CXT} {k : Nat} {g C : Addr} {fd : FuncData} {ps : List Str} {sp : Sp} {E : L2.St → XK} {x m : Str} {p pos apos : Pos} {e o : Expr} {es : List Expr} {ta : TE} {t : TA}
def tMethS (C : Addr) (m : Str) (sp : Sp) (E : L2.St → XK) (ta : TE) (t : TA) : TE := fun σ H Q => tMeth C m sp [] (E σ) ta t σ H Q
def tMakeS (C : Addr) (sp : Sp) (E : L2.St → XK) (t : TA) : TE := fun σ H Q => tMake C sp [] (E σ) t σ H Q
theorem make_at {pins : List (Addr × Obj)} {σ : L2.St} {H : Hp} {s : Shared} {Q : VK} {us : List Value} {vs : List V} (M : Mk X.K C g) (F : FnOk X.prog X.w X.K X.mg X.base CX k g fd ps sp) (hr : Room (k + 1) X.A) (hb : Binds X.K fd ps [])
    (hx : PassesAt CX X σ (E σ)) (J : L2.Inv X pins σ H s) (rv : Vals vs us)
    (want : ∀ x dx, H x = none → H dx = none → dx ≠ x → sp (.ref x :: vs) (upd (upd H dx (.own x)) x (.ins C dx [])) (fun v H2 => v = .non ∧ Q (.ref x) H2) (E σ)) :
    wpAny (model X.prog X.w) X.A (call (.ref C) us) (EP X pins σ Q) X.xe s := by
  have z := want (s.heap.objs.size + 1) s.heap.objs.size (J.hok.fresh (Nat.le_succ _)) (J.hok.fresh (Nat.le_refl _)) (Nat.ne_of_lt (Nat.lt_succ_self _))
  have J2 := Inv.made (C := C) J
  have rv2 : Vals (V.ref (s.heap.objs.size + 1) :: vs) (Value.ref (s.heap.objs.size + 1) :: us) := .cons rfl rv
  have hlen : (Value.ref (s.heap.objs.size + 1) :: us).length = ps.length := rv2.length.symm.trans (F.len _ _ _ _ z)
  have bound := hb _ (Value.ref (s.heap.objs.size + 1) :: us) J2.kIn (by rw [List.append_nil]; exact hlen)
  rw [List.append_nil] at bound
  have went := F.run _ X.stack _ _ ⟨Value.ref (s.heap.objs.size + 1) :: us, []⟩ (Value.ref (s.heap.objs.size + 1) :: us) _ _ (E σ) (hr.make C us []) (J2.env0.make C us []) bound rv2 z
  refine wpAny_call (make_map (f := g) J.kIn M.makes M.init (beq_iff_eq.mp M.fn) (codeAny_mono went fun res s2 fin => ?_))
  match res, fin with
  | .error err, fin => exact hx pins _ _ err s2 J2 fin
  | .ok (.ret u), fin =>
    obtain ⟨v, H3, J3, r3, q3⟩ := J2.after fin
    obtain ⟨hv, q4⟩ := q3
    rw [hv] at r3
    exact ⟨r3, ⟨V.ref (s.heap.objs.size + 1), H3, J3, rfl, q4⟩⟩
  | .ok .next, fin => exact fin.elim
  | .ok .brk, fin => exact fin.elim
  | .ok .cont, fin => exact fin.elim
end
end Nh

namespace Nh
open PySem PySem.Spec PyProof.Rows L2
/-! ### within a try's body: makes and methods -/
section
variable {X : Cx} {CX : CXT} {k : Nat} {g C : Addr} {fd : FuncData} {ps : List Str} {sp : Sp} {E : L2.St → XK} {x m : Str} {p pos apos : Pos} {e o : Expr} {es : List Expr} {ta : TE} {t : TA}
theorem pe_makeS (M : Mk X.K C g) (F : FnOk X.prog X.w X.K X.mg X.base CX k g fd ps sp) (hr : Room (k + 1) X.A) (hg : Gl X x) (hm : X.mg x = some (.ref C)) (hb : Binds X.K fd ps []) (hx : ∀ σ, PassesAt CX X σ (E σ)) (args : PA X (e :: es) t)
    (nodeb : (x == ("__debug__" : Str)) = false := by decide) (first : starEach (e :: es) X.env = (false, eval e X.env) :: starEach es X.env := by rfl) (plain : (backTo pos (starEach es X.env)).any (·.1) = false := by rfl) :
    PE X (.Call (.Name x p) (e :: es) [] pos) (tMakeS C sp E t) := by
  constructor
  intro pins s σ H Q J want
  apply wpAny_Call_Name_kw
  apply ld_glob J hg hm _ nodeb
  refine PySem.W.callWith_K (h₀ := X.base) J.ok.mod.kin M.kp (thn (args.run pos pins s σ H _ J want) fun us s1 got => ?_) first plain
  obtain ⟨vs, H1, J1, rv, q⟩ := got
  refine ⟨J1.kIn, make_at M F hr hb (hx σ) J1 rv fun y dy h1 h2 h3 => ?_⟩
  have z := q y dy h1 h2 h3
  rw [List.append_nil] at z
  exact z
theorem pe_methS {pl : Sem Bool} (recv : PE X o ta) (cls : Cls X.K C) (hm : Meth X.K C m g) (F : FnOk X.prog X.w X.K X.mg X.base CX k g fd ps sp) (hr : Room k X.A) (hb : Binds X.K fd ps []) (hx : ∀ σ, PassesAt CX X σ (E σ)) (args : PA X (e :: es) t)
    (first : starEach (e :: es) X.env = (false, eval e X.env) :: starEach es X.env := by rfl) (plain : (backTo pos (starEach es X.env)).any (·.1) = false := by rfl)
    (tree : eval (.Call (.Attribute o m apos) (e :: es) [] pos) X.env = (do
      let own ← eval o X.env; standAt apos.atName; let (fn, ahead) ← holding [own] (getMethod own m pl)
      callWith pos fn ahead (backTo pos (starEach (e :: es) X.env)) (backToKw pos (keywordEach [] X.env))) := by rfl) :
    PE X (.Call (.Attribute o m apos) (e :: es) [] pos) (tMethS C m sp E ta t) := by
  constructor
  intro pins s σ H Q J want
  refine PySem.W.methodCall_KW (pl := pl) (thn (recv.run pins s σ H _ J want) fun u s1 got => ?_) tree
  obtain ⟨x, H1, J1, rx, a, dx, fs, ex, ea, l, q⟩ := got
  rw [ex] at rx
  have eu : u = Value.ref a := rx
  rw [eu]
  refine getmeth_ok J1 ea cls hm l (PySem.W.callWith_K (first := [.ref a]) (h₀ := X.base) J.ok.mod.kin hm.kp (thn (args.run pos pins s1 σ H1 _ J1 q) fun us s2 got2 => ?_) first plain)
  obtain ⟨vs, H2, J2, rv, q2⟩ := got2
  rw [ex, List.append_nil] at q2
  exact ⟨J2.kIn, run_fnS (us := .ref a :: us) (vs := .ref a :: vs) F hr hb (hx σ) J2 (.cons rfl rv) q2⟩
theorem pe_methS0 {pl : Sem Bool} (recv : PE X o ta) (cls : Cls X.K C) (hm : Meth X.K C m g) (F : FnOk X.prog X.w X.K X.mg X.base CX k g fd ps sp) (hr : Room k X.A) (hb : Binds X.K fd ps []) (hx : ∀ σ, PassesAt CX X σ (E σ))
    (tree : eval (.Call (.Attribute o m apos) [] [] pos) X.env = (do
      let own ← eval o X.env; standAt apos.atName; let (fn, ahead) ← holding [own] (getMethod own m pl)
      callWith pos fn ahead (backTo pos (starEach [] X.env)) (backToKw pos (keywordEach [] X.env))) := by rfl) :
    PE X (.Call (.Attribute o m apos) [] [] pos) (tMethS C m sp E ta tNil) := by
  constructor
  intro pins s σ H Q J want
  refine PySem.W.methodCall_KW (pl := pl) (thn (recv.run pins s σ H _ J want) fun u s1 got => ?_) tree
  obtain ⟨x, H1, J1, rx, a, dx, fs, ex, ea, l, q⟩ := got
  rw [ex] at rx
  have eu : u = Value.ref a := rx
  rw [eu]
  have q2 : sp [.ref a] H1 Q (E σ) := by rw [← ex]; exact q
  exact getmeth_ok J1 ea cls hm l (PySem.W.callWith_K0 (first := [.ref a]) J1.kIn hm.kp (run_fnS (us := [.ref a]) (vs := [.ref a]) F hr hb (hx σ) J1 (.cons rfl .nil) q2))
end
section
variable {c : Cfg} {W : WX} {as as' : List Addr} {H H' : Hp} {μ : Store} {σ : L2.St} {δ : Env}
theorem sim_makeS {n k : Nat} {f : FA} {t : TA} {b : M (List Dat)} (h : SimA c W t b) : SimE c W (tMakeS (c.cl n) (spM c k f) (WE W) t) (mMake n k f b) := by
  intro as H σ δ μ st env Q w
  refine h as H σ δ μ st env _ ((want_bind (R1 := RelAll c) w).imp ?_)
  rintro us H1 ⟨as1, μ1, ds, e1, s1, rs, w1⟩ x dx hx hd ne
  split at w1
  · rename_i hl
    subst hl
    rw [List.append_nil]
    obtain ⟨ee, s2⟩ := made_st (c := c) (n := n) s1 hx hd ne
    have ra : Rel c (as1 ++ [x]) (upd (upd H1 dx (.own x)) x (.ins (c.cl n) dx [])) (.ref x) (.cell μ1.length) := rel_alloc s1
    refine ⟨by rw [List.length_cons, rs.length], _, _, _, s2, .cons ra (rs.mono ee), ?_⟩
    replace w1 := Want.mono ee w1
    cases hf : f (.cell μ1.length :: ds) (μ1 ++ [.ins n []]) with
    | ok r μ' =>
      rw [hf] at w1
      change Want c (Rel c) (mkEnd μ1.length r μ') _ _ σ Q W at w1
      unfold mkEnd at w1
      split at w1
      · intro v a' H' e' s' rv
        cases rv
        exact ⟨rfl, w1 _ a' H' e' s' (ra.mono e')⟩
      · exact w1.elim
    | raise j μ' => rw [hf] at w1; exact fun a' H' e' s' => w1 a' H' e' s'
    | stuck => rw [hf] at w1; exact w1
  · exact w1.elim
theorem sim_methS {n k : Nat} {m : Str} {f : FA} {ta : TE} {t : TA} {a : M Dat} {b : M (List Dat)} (ha : SimE c W ta a) (h : SimA c W t b) : SimE c W (tMethS (c.cl n) m (spM c k f) (WE W) ta t) (mMeth n m k f a b) := by
  intro as H σ δ μ st env Q w
  refine ha as H σ δ μ st env _ ((want_bind (R1 := Rel c) w).imp ?_)
  rintro v H1 ⟨as1, μ1, x, e1, s1, rx, w1⟩
  split at w1
  · rename_i j n' fs hx
    obtain ⟨p, dd, vs, rfl, rfl, hk, hp, h1, h2⟩ := insAt_of s1 rx hx
    split at w1
    · rename_i hn
      obtain ⟨rfl, hm⟩ := hn
      have q := h2.lookF m
      rw [hm] at q
      refine ⟨p, dd, vs, rfl, h1, q, ?_⟩
      refine h as1 H1 σ δ μ1 s1 (env.mono e1) _ ((want_bind (R1 := RelAll c) w1).imp ?_)
      rintro us H2 ⟨as2, μ2, ds, e2, s2, rs, w2⟩
      split at w2
      · rename_i hl
        rw [List.append_nil]
        refine ⟨by rw [List.length_cons, rs.length]; exact hl, as2, μ2, _, s2, .cons (rx.mono e2) rs, ?_⟩
        cases hf : f (.cell j :: ds) μ2 with
        | ok x μ' => rw [hf] at w2; exact w2
        | raise i μ' => rw [hf] at w2; exact fun a' H' e' s' => w2 a' H' e' s'
        | stuck => rw [hf] at w2; exact w2
      · exact w2.elim
    · exact w1.elim
  · exact w1.elim
/-! ### constants of the module: tuples, dicts with text keys -/
structure ConT (K : PySem.W.Frag) (a : Addr) (xs : List V) : Prop where
  ex : ∃ (o : Obj) (its : Array Value) (n : Nat), K.lookup a = some o ∧ o.cls = .type "tuple" ∧ o.dict = none ∧ o.data = .seq its n ∧ its.size ≤ sizeLine ∧ Vals xs its.toList
theorem ConT.roC {K : PySem.W.Frag} {a : Addr} {xs : List V} {H : Hp} (h : ConT K a xs) : RoC K H a xs := by
  obtain ⟨o, its, n, h1, h2, h0, h3, h4, h5⟩ := h.ex
  exact .inl ⟨fun _ => .inr ⟨o, its, n, h1, h2, h3, h4, h5⟩, o, h1, h2, h0⟩
theorem conT_mk {K : PySem.W.Frag} {a : Addr} {xs : List V} {its : Array Value} {n : Nat} {sl : Array (Option Value)} (l : K.lookup a = some ⟨.type "tuple", none, .seq its n, sl⟩) (z : its.size ≤ sizeLine) (r : Vals xs its.toList) : ConT K a xs :=
  ⟨⟨_, its, n, l, rfl, rfl, rfl, z, r⟩⟩
theorem sim_con {a : Addr} {xs : List V} {ds : List Dat} (h : ConT c.K a xs) (r : ∀ as H, RelAll c as H xs ds) : SimE c W (tC (.ref a)) (mC (.ct ds)) := sim_c fun as H => .ct h.roC (r as H)
/-- d[k], d a dict of the module with text keys -/
def mTab (tbl : List (Str × Dat)) (b : M Dat) : M Dat := fun δ μ => (b δ μ).bind fun y μ1 => match y with
  | .str z => match tbl.lookup z with
    | some d => .ok d μ1
    | none => .stuck
  | _ => .stuck
theorem sim_tab {w : World} {D : Addr} {tbl : List (Str × Dat)} {t : TE} {b : M Dat} (hd : ∀ z d, tbl.lookup z = some d → ∃ v, KDct c.K w D z v ∧ ∀ as H, Rel c as H v d) (h : SimE c W t b) : SimE c W (tOp (rIxD c.K w) (tC (.ref D)) t) (mTab tbl b) := by
  intro as H σ δ μ st env Q w0
  refine h as H σ δ μ st env _ ((want_bind (R1 := Rel c) w0).imp ?_)
  rintro y H1 ⟨as1, μ1, dy, e1, s1, ry, w1⟩
  split at w1
  · split at w1
    · rename_i d hz
      cases ry
      obtain ⟨v, h1, h2⟩ := hd _ d hz
      exact ⟨D, _, v, rfl, rfl, h1, w1 _ as1 H1 .refl s1 (h2 as1 H1)⟩
    · exact w1.elim
  · exact w1.elim
theorem kdct_mk {K : PySem.W.Frag} {w : World} {a : Addr} {x : Str} {v : V} {u : Value} {es : Array DictEntry} {n : Nat} (l : K.lookup a = some ⟨.type "dict", none, .dict es n, #[]⟩) (kl : PySem.W.KeysLit w.params es.toList)
    (e : PySem.W.nsIn K a x = some (some u)) (r : RelV v u) : KDct K w a x v := ⟨es, n, u, l, kl, e, r⟩
/-! ### a call of a local name that holds one of several defs: numbers of defs stand among the classes' -/
def mCallL (i k : Nat) (fs : List (Nat × FA)) (b : M (List Dat)) : M Dat := fun δ μ => match δ[i]? with
  | some (some (.cls n)) => match fs.lookup n with
    | some f => (b δ μ).bind fun ds μ1 => if ds.length = k then f ds μ1 else .stuck
    | none => .stuck
  | _ => .stuck
/-- what is known of each of the defs -/
def heldS (c : Cfg) (k : Nat) : List (Nat × FA) → Addr → Sp → Prop
  | [], _, _ => False
  | (n, f) :: r, a, sp => (a = c.cl n ∧ sp = spM c k (nr f)) ∨ heldS c k r a sp
def tCallB (i : Nat) (S : Addr → Sp → Prop) (t : TA) : TE := fun σ H Q => ∃ f sp, σ[i]? = some (some (.ref f)) ∧ S f sp ∧ t σ H fun vs H1 => sp vs H1 Q (fun _ _ _ => False)
theorem pe_callB2 {X : Cx} {k i : Nat} {S : Addr → Sp → Prop} {x : Str} {p pos : Pos} {e : Expr} {es : List Expr} {t : TA} (A : ∀ f sp, S f sp → Held X.prog X.w X.K X.mg X.base k f sp) (hr : Room k X.A) (hN : X.N[i]? = some x) (hv : Vis X.env.scope x) (ha : PA X (e :: es) t)
    (hdb : (x == ("__debug__" : Str)) = false := by decide) (hcd : (x == ("__classdict__" : Str)) = false := by decide)
    (he : starEach (e :: es) X.env = (false, eval e X.env) :: starEach es X.env := by rfl) (hpl : (backTo pos (starEach es X.env)).any (·.1) = false := by rfl) : PE X (.Call (.Name x p) (e :: es) [] pos) (tCallB i S t) :=
  ⟨fun pins s σ H Q I ⟨f, sp, hs, hS, ht⟩ => (pe_callA (S := fun a => open Classical in if a = f then some sp else none)
    (fun a sp' h => by
      open Classical in
      by_cases ea : a = f
      · rw [if_pos ea] at h
        cases h
        rw [ea]
        exact A f sp hS
      · rw [if_neg ea] at h
        cases h) hr hN hv ha hdb hcd he hpl).run pins s σ H Q I ⟨f, sp, hs, by show (open Classical in if f = f then some sp else none) = some sp; exact if_pos rfl, ht⟩⟩
theorem sim_callL {i k : Nat} {fs : List (Nat × FA)} {t : TA} {b : M (List Dat)} (h : SimA c W t b) :
    SimE c W (tCallB i (heldS c k fs) t) (mCallL i k (fs.map fun p => (p.1, nr p.2)) b) := by
  intro as H σ δ μ st env Q w
  unfold mCallL at w
  split at w
  · rename_i n hn
    obtain ⟨v, h1, h2⟩ := env.at_ i _ hn
    split at w
    · rename_i f hf
      cases h2
      have key : ∀ fs : List (Nat × FA), (fs.map fun p => (p.1, nr p.2)).lookup n = some f → heldS c k fs (c.cl n) (spM c k f) := by
        intro fs
        induction fs with
        | nil => intro z; cases z
        | cons q r ih =>
          intro z
          rw [List.map_cons, List.lookup_cons] at z
          cases e : n == q.1 with
          | true =>
            rw [e] at z
            cases z
            exact .inl ⟨by rw [beq_iff_eq.mp e], rfl⟩
          | false =>
            rw [e] at z
            exact .inr (ih z)
      refine ⟨c.cl n, spM c k f, h1, key fs hf, ?_⟩
      refine h as H σ δ μ st env _ ((want_bind (R1 := RelAll c) w).imp ?_)
      rintro vs H1 ⟨as1, μ1, ds, e1, s1, rs, w1⟩
      split at w1
      · rename_i hl
        refine ⟨by rw [rs.length]; exact hl, as1, μ1, ds, s1, rs, ?_⟩
        have nrf : ∀ ds μ k μ', f ds μ ≠ .raise k μ' := by
          have : ∀ fs : List (Nat × FA), (fs.map fun p => (p.1, nr p.2)).lookup n = some f → ∃ g, f = nr g := by
            intro fs
            induction fs with
            | nil => intro z; cases z
            | cons q r ih =>
              intro z
              rw [List.map_cons, List.lookup_cons] at z
              cases e : n == q.1 with
              | true => rw [e] at z; cases z; exact ⟨_, rfl⟩
              | false => rw [e] at z; exact ih z
          obtain ⟨g, rfl⟩ := this fs hf
          exact nr_ne g
        cases hr : f ds μ1 with
        | ok x μ' => rw [hr] at w1; exact w1
        | raise j μ' => exact (nrf _ _ _ _ hr).elim
        | stuck => rw [hr] at w1; exact w1
      · exact w1.elim
    · exact w.elim
  · exact w.elim
/-! ### dicts with tuples as keys -/
def mDNewT : M Dat := fun _ μ => allocR (.dictT []) μ
theorem sim_dnewT : SimE c W tDNewT mDNewT := fun as H σ δ μ st env Q w => fun p hp => w _ _ _ (ext_alloc hp) (st.alloc hp ⟨[], upd_same, .nil⟩) (rel_alloc st)
def keyT : Dat → Option (List Key)
  | .tup ds => allKeys ds
  | _ => none
theorem keyT_of {v : V} {d : Dat} {ks : List Key} (r : Rel c as H v d) (h : keyT d = some ks) : ∃ b, v = .ref b ∧ H b = some (.tup (ks.map kV)) := by
  unfold keyT at h
  split at h
  · cases r with
    | tup h1 h2 =>
      rw [allKeys_of h h2] at h1
      exact ⟨_, rfl, h1⟩
  · cases h
def putP {κ : Type} [DecidableEq κ] (kvs : List (κ × Dat)) (k : κ) (v : Dat) : List (κ × Dat) :=
  if (kvs.any fun kv => decide (kv.1 = k)) = true then kvs.map (fun kv => if kv.1 = k then (kv.1, v) else kv) else kvs ++ [(k, v)]
theorem RelP.any {κ : Type} [DecidableEq κ] {ps : List (κ × V)} {kvs : List (κ × Dat)} (r : RelP c as H ps kvs) (k : κ) : (ps.any fun kv => decide (kv.1 = k)) = kvs.any fun kv => decide (kv.1 = k) := by
  induction r with
  | nil => rfl
  | cons h t ih => rw [List.any_cons, List.any_cons, h.1, ih]
theorem RelP.put {κ : Type} [DecidableEq κ] {ps : List (κ × V)} {kvs : List (κ × Dat)} (r : RelP c as H ps kvs) {k : κ} {v : V} {d : Dat} (h : Rel c as H v d) : RelP c as H (putK ps k v) (putP kvs k d) := by
  unfold putK putP
  rw [r.any k]
  by_cases e : (kvs.any fun kv => decide (kv.1 = k)) = true
  · rw [if_pos e, if_pos e]
    clear e
    induction r with
    | nil => exact .nil
    | @cons p q ps qs h1 t ih =>
      refine .cons ?_ ih
      show (if p.1 = k then (p.1, v) else p).1 = (if q.1 = k then (q.1, d) else q).1 ∧ Rel c as H (if p.1 = k then (p.1, v) else p).2 (if q.1 = k then (q.1, d) else q).2
      by_cases z : q.1 = k
      · rw [if_pos (h1.1.trans z), if_pos z]
        exact ⟨h1.1, h⟩
      · rw [if_neg (show ¬ p.1 = k by rw [h1.1]; exact z), if_neg z]
        exact h1
  · rw [if_neg e, if_neg e]
    exact Paired.append_ r (.cons ⟨rfl, h⟩ .nil)
/-- what a dict holds at a key; both kinds of dicts -/
def dAt (μ : Store) (x y : Dat) : Option (Option Dat) := match x with
  | .cell k => match μ[k]? with
    | some (.dict kvs) => (keyD y).map (lookD kvs)
    | some (.dictT kvs) => (keyT y).map (lookP kvs)
    | _ => none
  | _ => none
def OptRel (c : Cfg) (as : List Addr) (H : Hp) (ov : Option V) : Option Dat → Prop
  | some d => ∃ u, ov = some u ∧ Rel c as H u d
  | none => ov = none
theorem OptRel.same {ov : Option V} {o : Option Dat} (h : OptRel c as H ov o) : ov.isSome = o.isSome := by
  cases o with
  | some d => obtain ⟨u, rfl, _⟩ := h; rfl
  | none => rw [show ov = none from h]; rfl
theorem RelKV.opt {ps : List (Key × V)} {kvs : List (Key × Dat)} (r : RelKV c as H ps kvs) (k : Key) : OptRel c as H (valV ps k) (lookD kvs k) := by
  cases e : lookD kvs k with
  | some d => exact r.look e
  | none => exact r.lookN e
theorem RelP.opt {κ : Type} [DecidableEq κ] {ps : List (κ × V)} {kvs : List (κ × Dat)} (r : RelP c as H ps kvs) (k : κ) : OptRel c as H (valV ps k) (lookP kvs k) := by
  have z := r.look k
  cases e : lookP kvs k with
  | some d => rw [e] at z; exact z
  | none => rw [e] at z; exact z
theorem dAt_of {v w : V} {x y : Dat} {o : Option Dat} (st : StH c as H μ) (rx : Rel c as H v x) (ry : Rel c as H w y) (h : dAt μ x y = some o) :
    ∃ a ov, v = .ref a ∧ DGet H a w ov ∧ OptRel c as H ov o := by
  unfold dAt at h
  split at h
  · rename_i k
    split at h
    · rename_i kvs hk
      cases hy : keyD y with
      | none => rw [hy] at h; cases h
      | some q =>
        rw [hy] at h
        cases h
        cases rx with
        | @cell _ a ha =>
          obtain ⟨ps, h1, h2⟩ := st.cell_at hk ha
          rw [keyD_of ry hy]
          exact ⟨a, _, rfl, DGet.k h1, h2.opt q⟩
    · rename_i kvs hk
      cases hy : keyT y with
      | none => rw [hy] at h; cases h
      | some q =>
        rw [hy] at h
        cases h
        cases rx with
        | @cell _ a ha =>
          obtain ⟨ps, h1, h2⟩ := st.cell_at hk ha
          obtain ⟨b, rfl, hb⟩ := keyT_of ry hy
          exact ⟨a, _, rfl, DGet.t h1 hb, h2.opt q⟩
    · cases h
  · cases h
def fInDict (neg : Bool) : F2 := fun y x μ => match dAt μ x y with
  | some o => .ok (.bl (if neg then !o.isSome else o.isSome)) μ
  | none => .stuck
theorem simr_inDict (neg : Bool) : SimR c (rInDict neg) (fInDict neg) := by
  intro as H μ v w x y st rx ry σ W Q h
  unfold fInDict at h
  split at h
  · rename_i o ho
    obtain ⟨a, ov, rfl, g, q⟩ := dAt_of st ry rx ho
    refine ⟨a, ov, rfl, g, ?_⟩
    rw [q.same]
    exact h _ as H .refl st (.bl _)
  · exact h.elim
def mDGetU (a b : M Dat) : M Dat := fun δ μ => (a δ μ).bind fun x μ1 => (b δ μ1).bind fun y μ2 => match dAt μ2 x y with
  | some (some d) => .ok d μ2
  | _ => .stuck
theorem sim_dgetU {td ty : TE} {a b : M Dat} (ha : SimE c W td a) (hb : SimE c W ty b) : SimE c W (tDGet td ty) (mDGetU a b) := by
  intro as H σ δ μ st env Q w
  refine ha as H σ δ μ st env _ ((want_bind (R1 := Rel c) w).imp ?_)
  rintro v H1 ⟨as1, μ1, x, e, s1, rx, w1⟩
  refine hb as1 H1 σ δ μ1 s1 (env.mono e) _ ((want_bind (R1 := Rel c) w1).imp ?_)
  rintro u H2 ⟨as2, μ2, y, e2, s2, ry, w2⟩
  split at w2
  · rename_i d hd
    obtain ⟨a, ov, rfl, g, q⟩ := dAt_of s2 (rx.mono e2) ry hd
    obtain ⟨z, rfl, rz⟩ := q
    exact ⟨a, z, rfl, g, w2 _ as2 H2 .refl s2 rz⟩
  · exact w2.elim
/-- d[k] = v, both kinds of dicts -/
def dPutAt (μ : Store) (x y z : Dat) : Option Store := match x with
  | .cell k => match μ[k]? with
    | some (.dict kvs) => (keyD y).bind fun q => if kvs.length < sizeLine then some (μ.set k (.dict (putD kvs q z))) else none
    | some (.dictT kvs) => (keyT y).bind fun q => if kvs.length < sizeLine then some (μ.set k (.dictT (putP kvs q z))) else none
    | _ => none
  | _ => none
def msDPutU (a b v : M Dat) : MS := fun δ μ => (v δ μ).toS δ fun z μ1 => (a δ μ1).toS δ fun x μ2 => (b δ μ2).toS δ fun y μ3 => match dPutAt μ3 x y z with
  | some μ' => .nx δ μ'
  | none => .stuck
theorem sims_dputU {ta tb tv : TE} {a b v : M Dat} (ha : SimE c W ta a) (hb : SimE c W tb b) (hv : SimE c W tv v) : SimS c W (sDPut ta tb tv) (msDPutU a b v) := by
  intro as H σ δ μ st env D w
  refine hv as H σ δ μ st env _ ((want_toS (R := Rel c) env w).imp ?_)
  rintro z H1 ⟨as1, μ1, dz, e1, s1, rz, w1⟩
  have env1 := env.mono e1
  refine ha as1 H1 σ δ μ1 s1 env1 _ ((want_toS (R := Rel c) env1 w1).imp ?_)
  rintro x H2 ⟨as2, μ2, dx, e2, s2, rx, w2⟩
  have env2 := env1.mono e2
  refine hb as2 H2 σ δ μ2 s2 env2 _ ((want_toS (R := Rel c) env2 w2).imp ?_)
  rintro y H3 ⟨as3, μ3, dy, e3, s3, ry, w3⟩
  split at w3
  · rename_i μ' hp
    have rx3 := rx.mono e3
    have rz3 := rz.mono (e2.trans e3)
    unfold dPutAt at hp
    split at hp
    · rename_i k
      split at hp
      · rename_i kvs hk
        cases hy : keyD dy with
        | none => rw [hy] at hp; cases hp
        | some q =>
          rw [hy] at hp
          change (if kvs.length < sizeLine then some (μ3.set k (.dict (putD kvs q dz))) else none) = some μ' at hp
          split at hp
          · rename_i hz
            cases hp
            cases rx3 with
            | cell ha3 =>
              obtain ⟨ps, h1, h2⟩ := s3.cell_at hk ha3
              have ey := keyD_of ry hy
              subst ey
              have ee := ext_set (o := .dK (putK ps q z)) s3 hk ha3
              exact ⟨_, _, rfl, DPut.k h1 (by rw [h2.length]; exact hz), w3 σ as3 _ ee (s3.set (y := .dict (putD kvs q dz)) hk ha3 ⟨_, upd_same, (h2.put rz3).mono ee⟩) ((env2.mono e3).mono ee)⟩
          · cases hp
      · rename_i kvs hk
        cases hy : keyT dy with
        | none => rw [hy] at hp; cases hp
        | some q =>
          rw [hy] at hp
          change (if kvs.length < sizeLine then some (μ3.set k (.dictT (putP kvs q dz))) else none) = some μ' at hp
          split at hp
          · rename_i hz
            cases hp
            cases rx3 with
            | cell ha3 =>
              obtain ⟨ps, h1, h2⟩ := s3.cell_at hk ha3
              obtain ⟨b, rfl, hb⟩ := keyT_of ry hy
              have ee := ext_set (o := .dT (putK ps q z)) s3 hk ha3
              exact ⟨_, _, rfl, DPut.t h1 hb (by rw [h2.len]; exact hz), w3 σ as3 _ ee (s3.set (y := .dictT (putP kvs q dz)) hk ha3 ⟨_, upd_same, (h2.put rz3).mono ee⟩) ((env2.mono e3).mono ee)⟩
          · cases hp
      · cases hp
    · cases hp
  · exact w3.elim
end
end Nh

namespace Nh
open PySem PySem.Spec PyProof.Rows L2
section
variable {c : Cfg} {W : WX} {as as' : List Addr} {H H' : Hp} {μ : Store} {σ : L2.St} {δ : Env}
/-! ### shifts, masks -/
def fShl : F2 := intOpC CPow fun i j => .int (i * 2 ^ j.toNat)
def fShr : F2 := intOpC (fun _ j => 0 ≤ j) fun i j => .int (i / 2 ^ j.toNat)
theorem simr_shl : SimR c (rI CPow fun i j => .int (i * 2 ^ j.toNat)) fShl := simr_I fun _ _ _ _ => .int _
theorem simr_shr : SimR c (rI (fun _ j => 0 ≤ j) fun i j => .int (i / 2 ^ j.toNat)) fShr := simr_I fun _ _ _ _ => .int _
def fAndM : F2 := fun x y μ => match x, y with
  | .int i, .int j => if j = 255 then .ok (.int (i % 256)) μ else .stuck
  | _, _ => .stuck
theorem simr_andM : SimR c (fun x y H Q => ∃ (i : Int) (k : Nat), x = .int i ∧ y = .int (2 ^ k - 1) ∧ Q (.int (i % 2 ^ k)) H) fAndM := by
  intro as H μ v w x y st rx ry σ W Q h
  unfold fAndM at h
  split at h
  · split at h
    · rename_i i j hj
      subst hj
      cases rx
      cases ry
      exact ⟨_, 8, rfl, rfl, h _ as H .refl st (.int _)⟩
    · exact h.elim
  · exact h.elim
def fOrd : FA := fun ds μ => match ds with
  | [.str x] => if x.length = 1 then .ok (.int (x.cps.getD 0 0 : Nat)) μ else .stuck
  | _ => .stuck
theorem simc_ord : SimC c (fun xs H Q => ∃ x, xs = [.str x] ∧ x.length = 1 ∧ Q (.int (x.cps.getD 0 0 : Nat)) H) fOrd := by
  intro as H μ vs ds st rs σ W Q h
  unfold fOrd at h
  split at h
  · split at h
    · rename_i hz
      obtain ⟨v, rfl, r⟩ := rel1 rs
      cases r
      exact ⟨_, rfl, hz, h _ as H .refl st (.int _)⟩
    · exact h.elim
  · exact h.elim
/-! ### text.index(text), tuple.index(text) -/
def fSIndex : F2 := fun x y μ => match x, y with
  | .str a, .str b => match Builtin.Str.occurrences a b 0 a.length 1 with
    | i :: _ => .ok (.int (i : Nat)) μ
    | [] => .stuck
  | _, _ => .stuck
theorem simm_sindex : SimM1 c (fun x xs H Q => ∃ a b i rest, x = .str a ∧ xs = [.str b] ∧ Builtin.Str.occurrences a b 0 a.length 1 = i :: rest ∧ Q (.int (i : Nat)) H) fSIndex := by
  intro as H μ z w y st ry σ W Q h
  cases ry with
  | str b =>
    dsimp only [fSIndex] at h
    split at h
    · rename_i i rest ho
      exact ⟨_, _, i, rest, rfl, rfl, ho, h _ as H .refl st (.int _)⟩
    · exact h.elim
  | _ => exact False.elim h
def firstAt (ys : List Str) (z : Str) : Option Nat := ys.findIdx? fun y => decide (y = z)
theorem firstAt_some {ys : List Str} {z : Str} {j : Nat} (h : firstAt ys z = some j) : ys[j]? = some z ∧ ∀ m, m < j → ys[m]? ≠ some z := by
  obtain ⟨hj, e, no⟩ := List.findIdx?_eq_some_iff_getElem.mp h
  refine ⟨by rw [List.getElem?_eq_getElem hj, of_decide_eq_true e], fun m hm q => ?_⟩
  have z1 := no m hm
  have hm2 : m < ys.length := Nat.lt_trans hm hj
  rw [List.getElem?_eq_getElem hm2] at q
  rw [Option.some.inj q] at z1
  exact absurd (decide_eq_true rfl) z1
def mTIndex (a : M Dat) (b : M (List Dat)) : M Dat := fun δ μ => (a δ μ).bind fun x μ1 => match x with
  | .ct ds => (b δ μ1).bind fun es μ2 => match strsD ds, es with
    | some ys, [.str z] => match firstAt ys z with
      | some j => .ok (.int (j : Nat)) μ2
      | none => .stuck
    | _, _ => .stuck
  | _ => .stuck
/-- a tuple of which the object itself is known -/
def tyC (K : PySem.W.Frag) (x : V) (H : Hp) : Prop := ∃ p, x = .ref p ∧ ((∃ o, K.lookup p = some o ∧ o.cls = .type "tuple" ∧ o.dict = none) ∨ ∃ o xs, H p = some (.frz o (.tup xs)) ∧ o.cls = .type "tuple" ∧ o.dict = none)
def rTI (K : PySem.W.Frag) : V → List V → Hp → VK → Prop := fun x xs H Q => ∃ p, ∃ ys : List Str, ∃ z j, x = .ref p ∧ xs = [.str z] ∧ SqT K H p (ys.map V.str) ∧ ys[j]? = some z ∧ (∀ m, m < j → ys[m]? ≠ some z) ∧ Q (.int (j : Nat)) H
def tTI (K : PySem.W.Frag) (to : TE) (t : TA) : TE := fun σ H Q => to σ H fun x H1 => tyC K x H1 ∧ t σ H1 fun xs H2 => rTI K x xs H2 Q
theorem pe_tindex {X : Cx} {o e : Expr} {to : TE} {t : TA} {apos cpos : Pos} (ho : PE X o to) (ha : PA X [e] t)
    (hbase : attributeBase o "index" X.env (eval o X.env) = eval o X.env := by rfl)
    (hfew : ((backTo cpos (starEach [e] X.env)).all (fun x => !x.1) && (backToKw cpos (keywordEach [] X.env)).all (fun x => x.1.isSome)
      && decide ([e].length + ([] : List Keyword).length + (if ([] : List Keyword).isEmpty then 0 else 1) < 30)) = true := by rfl)
    (hline : (apos.endLine == cpos.line) = true := by rfl) (hs : starEach [e] X.env = (false, eval e X.env) :: starEach [] X.env := by rfl) (hplain : (backTo cpos (starEach [] X.env)).any (·.1) = false := by rfl) :
    PE X (.Call (.Attribute o "index" apos) [e] [] cpos) (tTI X.K to t) := by
  refine ⟨fun pins s σ H Q I h => ?_⟩
  refine wpAny_Call_method_late hbase hfew hline rfl (thn (ho.run pins s σ H _ I h) fun v s1 ⟨x, H1, I1, r1, ty, q1⟩ => ?_)
  obtain ⟨p, rfl, ty⟩ := ty
  obtain rfl : v = Value.ref p := r1
  have known : ∃ ob, s1.heap.get? p = some ob ∧ ob.cls = .type "tuple" ∧ ob.dict = none := by
    rcases ty with ⟨ob, hk, hc, hd⟩ | ⟨ob, xs, hk, hc, hd⟩
    · exact ⟨ob, I1.kIn p ob hk, hc, hd⟩
    · exact ⟨ob, (I1.hok p _ hk).1, hc, hd⟩
  obtain ⟨ob, h1, h2, h3⟩ := known
  refine ⟨"tuple", "tuple.index", PySem.F.plainAttrs_tuple, PySem.F.slot_tuple_index, PySem.F.type_tuple_index, ⟨ob, h1, h2⟩, (fun a e => by cases e; exact ⟨ob, h1, h3⟩), ?_⟩
  have hA := ha.run cpos pins s1 σ H1 _ I1 q1
  rw [hs] at hA ⊢
  refine Calls.callWith_builtin (by show (false || (backTo cpos (starEach [] X.env)).any (·.1)) = false; rw [hplain] <;> rfl) (Calls.evalArgs_plain ?_)
  exact thn hA fun us s2 ⟨vs, H2, I2, r2, q2⟩ => mt_tup_index pins s2 σ H2 (.ref p) vs (.ref p) us Q I2 rfl r2 q2
theorem sim_tindex {to : TE} {t : TA} {a : M Dat} {b : M (List Dat)} (ha : SimE c W to a) (hb : SimA c W t b) : SimE c W (tTI c.K to t) (mTIndex a b) := by
  intro as H σ δ μ st env Q w
  refine ha as H σ δ μ st env _ ((want_bind (R1 := Rel c) w).imp ?_)
  rintro v H1 ⟨as1, μ1, x, e, s1, rx, w1⟩
  split at w1
  · cases rx with
    | @ct p xs ds h1 h2 =>
      refine ⟨⟨p, rfl, ?_⟩, hb as1 H1 σ δ μ1 s1 (env.mono e) _ ((want_bind (R1 := RelAll c) w1).imp ?_)⟩
      · rcases h1 with ⟨_, h4⟩ | ⟨o, h4, h5⟩
        · exact .inl h4
        · exact .inr ⟨o, xs, h4, h5⟩
      rintro us H2 ⟨as2, μ2, es, e2, s2, rs, w2⟩
      split at w2
      · rename_i ys z hy
        split at w2
        · rename_i j hj
          obtain ⟨u, rfl, ru⟩ := rel1 rs
          cases ru
          have q := strsD_of hy h2
          subst q
          obtain ⟨q1, q2⟩ := firstAt_some hj
          exact ⟨p, ys, z, j, rfl, rfl, (h1.mono e2).sq, q1, q2, w2 _ as2 H2 .refl s2 (.int _)⟩
        · exact w2.elim
      · exact w2.elim
  · exact w1.elim
/-! ### a tuple written of known things, kept as it is -/
def tTupF (t : TA) : TE := fun σ H Q => t σ H fun xs H1 => xs.length ≤ sizeLine ∧ ∀ p (o : Obj), H1 p = none → o.cls = .type "tuple" → o.dict = none → Q (.ref p) (upd H1 p (.frz o (.tup xs)))
theorem pe_tupF {X : Cx} {es : List Expr} {t : TA} {x1 : Nat} {pos : Pos} (h : PA X es t) : PE X (.Tuple es x1 pos) (tTupF t) := by
  refine ⟨fun pins s σ H Q I hq => ?_⟩
  refine wpAny_Tuple_spliced (thn (h.run pos pins s σ H _ I hq) fun us s1 ⟨xs, H1, I1, r, z, q⟩ => ⟨by rw [← r.length]; exact z, ?_⟩)
  have hf : H1 s1.heap.objs.size = none := I1.hok.fresh (Nat.le_refl _)
  refine ⟨.ref s1.heap.objs.size, upd H1 s1.heap.objs.size (.frz { cls := .type "tuple", data := .seq us.toArray } (.tup xs)), I1.laid (t' := s1.toks) (fun b u e => Heap.get?_push_of_some _ e) (Nat.le_refl _) ?_, rfl, q _ _ hf rfl rfl⟩
  exact ⟨Heap.get?_push_size _ rfl, z, us, r, ⟨_, Heap.get?_push_size _ rfl, rfl, _, rfl⟩⟩
def mTupF (a : M (List Dat)) : M Dat := fun δ μ => (a δ μ).bind fun ds μ1 => if ds.length ≤ sizeLine then .ok (.ct ds) μ1 else .stuck
theorem sim_tupF {t : TA} {a : M (List Dat)} (h : SimA c W t a) : SimE c W (tTupF t) (mTupF a) := by
  intro as0 H0 σ δ μ0 st0 env0 Q w0
  refine h as0 H0 σ δ μ0 st0 env0 _ ((want_bind (R1 := RelAll c) w0).imp ?_)
  rintro vs H ⟨as, μ, ds, e0, st, r, w⟩
  split at w
  · rename_i hz
    refine ⟨by rw [r.length]; exact hz, fun p o hp h1 h2 => ?_⟩
    exact w _ as _ (ext_new hp) (st.tup (o := .frz o (.tup vs)) hp) (.ct (.inr ⟨o, upd_same, h1, h2⟩) (r.mono (ext_new hp)))
  · exact w.elim
/-! ### in, of any kind -/
theorem op_inU {X : Cx} (hu : X.A.units + 1 < cLine) : OpR X (compareOp .In) (fun x y H Q => (∃ (c : Nat) (z : Str), x = V.str ⟨#[c]⟩ ∧ y = V.str z ∧ Q (V.bl (decide (c ∈ z.cps.toList))) H) ∨ rIn X.K false x y H Q ∨ rInDict false x y H Q) :=
  op_in_sign.or (op_in_seq.or (op_inDict hu))
theorem op_notInU {X : Cx} (hu : X.A.units + 1 < cLine) : OpR X (compareOp .NotIn) (fun x y H Q => (∃ (c : Nat) (z : Str), x = V.str ⟨#[c]⟩ ∧ y = V.str z ∧ Q (V.bl (!decide (c ∈ z.cps.toList))) H) ∨ rIn X.K true x y H Q ∨ rInDict true x y H Q) :=
  op_notIn_sign.or (op_notIn_seq.or (op_notInDict hu))
def fInU : F2 := fAlt fInSign (fAlt (fIn false) (fInDict false))
def fNotInU : F2 := fAlt fNotInSign (fAlt (fIn true) (fInDict true))
theorem simr_inU : SimR c (fun x y H Q => (∃ (c : Nat) (z : Str), x = V.str ⟨#[c]⟩ ∧ y = V.str z ∧ Q (V.bl (decide (c ∈ z.cps.toList))) H) ∨ rIn c.K false x y H Q ∨ rInDict false x y H Q) fInU := simr_alt simr_inSign (simr_alt (simr_in false) (simr_inDict false))
theorem simr_notInU : SimR c (fun x y H Q => (∃ (c : Nat) (z : Str), x = V.str ⟨#[c]⟩ ∧ y = V.str z ∧ Q (V.bl (!decide (c ∈ z.cps.toList))) H) ∨ rIn c.K true x y H Q ∨ rInDict true x y H Q) fNotInU := simr_alt simr_notInSign (simr_alt (simr_in true) (simr_inDict true))
/-! ### range(lo, hi, step) downwards by ones -/
def srcD (i : Int) (n : Nat) : Src := ⟨n, fun k _ => some (.int (i + (k : Nat) * (-1))), fun _ => true⟩
def miRange3 (a : M (List Dat)) : M Src := fun δ μ => (a δ μ).bind fun ds μ1 => match ds with
  | [.int i, .int j, .int c] => if c = -1 ∧ -(2 ^ 62) ≤ i ∧ i < 2 ^ 62 ∧ -(2 ^ 62) ≤ j ∧ j < 2 ^ 62 then .ok (srcD i (i - j).toNat) μ1 else .stuck
  | _ => .stuck
theorem rel3 {vs : List V} {d e f : Dat} (r : RelAll c as H vs [d, e, f]) : ∃ u v w, vs = [u, v, w] ∧ Rel c as H u d ∧ Rel c as H v e ∧ Rel c as H w f := by
  cases r with
  | cons h t =>
    obtain ⟨v, w, rfl, h2, h3⟩ := rel2 t
    exact ⟨_, v, w, rfl, h, h2, h3⟩
theorem simi_range3 {t : TA} {a : M (List Dat)} (h : SimA c W t a) : SimI c W (iRng3 t) (miRange3 a) := by
  intro as H σ δ μ st env Q w
  refine h as H σ δ μ st env _ ((want_bind (R1 := RelAll c) w).imp ?_)
  rintro vs H1 ⟨as1, μ1, ds, e, s1, rs, w1⟩
  split at w1
  · split at w1
    · rename_i i j k hz
      obtain ⟨rfl, h1, h2, h3, h4⟩ := hz
      obtain ⟨u, v, z, rfl, r1, r2, r3⟩ := rel3 rs
      cases r1
      cases r2
      cases r3
      refine ⟨i, j, -1, _, rfl, RgC.neg h1 h2 h3 h4, w1 _ as1 H1 .refl s1 fun as' H' μ' e' st' => ⟨fun k d hk hg => ⟨hk, fun x H2 y => ?_⟩, fun _ => Nat.le_refl _⟩⟩
      obtain ⟨rfl, rfl⟩ := y
      have hg' : some (Dat.int (i + (k : Nat) * (-1))) = some d := hg
      cases hg'
      exact ⟨.refl, st', .int _⟩
    · exact w1.elim
  · exact w1.elim
end
end Nh

namespace Nh
open PySem PySem.Spec PyProof.Rows L2
/-! ### enumerate of a tuple -/
/-- the tuple at a, each item with its number, in a new pair -/
def ItEn (K : PySem.W.Frag) (a : Addr) : It where
  go := fun i H => ∃ (xs : List V) (x : V), SqT K H a xs ∧ xs[i]? = some x
  yld := fun i H v H' => ∃ T x, v = .ref T ∧ H T = none ∧ H' = upd H T (.tup [.int (i : Nat), x]) ∧ ∀ xs, SqT K H a xs → xs[i]? = some x
  stop := fun i H => ∃ xs : List V, SqT K H a xs ∧ xs.length ≤ i
theorem isTuple_inj {h : Heap} {a : Addr} {xs ys : Array Value} (p : h.IsTuple a xs) (q : h.IsTuple a ys) : xs = ys := by
  obtain ⟨o, h1, _, n, h2⟩ := p
  obtain ⟨o', h3, _, n', h4⟩ := q
  rw [h1] at h3
  cases h3
  rw [h2] at h4
  cases h4
  rfl
/-- where an enumerate stands over a tuple -/
def EnAt (a e it : Addr) (i : Nat) (h : Heap) : Prop := (∃ old, IsEnum h e it (i : Int) old) ∧ h.IsTupleIter it a i ∧ e ≠ it
theorem en_apart {a e it : Addr} {i : Nat} {h : Heap} {items : Array Value} (st : EnAt a e it i h) (p : h.IsTuple a items) : a ≠ it ∧ e ≠ a := by
  obtain ⟨⟨old, he⟩, ⟨o, ho, hc, _⟩, _⟩ := st
  obtain ⟨o', h1, h2, _⟩ := p
  refine ⟨fun z => ?_, fun z => ?_⟩
  · subst z
    rw [ho] at h1
    cases h1
    rw [hc] at h2
    exact absurd (Value.type.inj h2) (by decide)
  · subst z
    rw [show h.get? e = _ from he] at h1
    cases h1
    exact absurd (Value.type.inj h2) (by decide)
theorem turn_en {P : Program} {w : World} {K : PySem.W.Frag} {elts : List Expr} {kk : Nat} {tpos : Pos} (a e it : Addr) : Turn P w K (.Tuple elts kk tpos) (ItEn K a) [e, it] e (EnAt a e it) where
  mem := List.mem_cons_self
  obj := by
    intro i h st b hb
    obtain ⟨⟨old, he⟩, ⟨o, ho, _, hd⟩, _⟩ := st
    rcases List.mem_cons.mp hb with q | q
    · subst q
      exact ⟨_, he, fun v z => nomatch z⟩
    · rw [List.mem_singleton.mp q]
      exact ⟨o, ho, fun v z => by rw [hd] at z; cases z⟩
  keep := by
    intro i h h' st hk
    obtain ⟨⟨old, he⟩, ⟨o, ho, r⟩, ne⟩ := st
    exact ⟨⟨old, hk e List.mem_cons_self _ he⟩, ⟨o, hk it (List.mem_cons_of_mem _ List.mem_cons_self) o ho, r⟩, ne⟩
  item := by
    rintro Y rfl rfl rfl calm i pins s σ H E J free st ⟨xs, x, hq, hx⟩
    obtain ⟨its, rel, tup, _⟩ := J.tuple hq
    obtain ⟨u, hu, ru⟩ := rel.get hx
    have ap := en_apart st tup
    obtain ⟨⟨old, he⟩, hit, ne⟩ := st
    have elt : e < s.heap.objs.size := Heap.lt_size he
    have ilt : it < s.heap.objs.size := by obtain ⟨o, ho, _⟩ := hit; exact Heap.lt_size ho
    have lt : i < its.toArray.size := by rw [List.size_toArray, ← rel.length]; exact (List.getElem?_eq_some_iff.mp hx).1
    refine wpAny_pyNext_enum_itemC (Draws.tuple (A := Y.A.in1) (by simp [J.ok.hd calm]) it a ap.1 its.toArray) he ⟨hit, tup⟩ lt ne (by simp only [List.mem_cons, List.not_mem_nil, or_false, not_or]; exact ⟨ne, ap.2⟩) fun y h1 tk hy out st1 pair _ kept => ?_
    have ey : y = u := by
      rw [List.getElem?_toArray, hu] at hy
      exact (Option.some.inj hy).symm
    subst ey
    refine ⟨_, rfl, wpAny_letOwnedTupleGo_enum (s := { s with heap := h1, toks := tk + 1 }) out fun h2 he2 same => ?_⟩
    have pair2 : h2.get? s.heap.objs.size = some { cls := .type "tuple", data := .seq #[.int i tk, y] } := by rw [same.2 _ (Nat.ne_of_gt elt)]; exact pair
    have made : ObjOk Y.prog Y.w (upd H s.heap.objs.size (.tup [.int (i : Nat), x])) h2 s.heap.objs.size (.tup [.int (i : Nat), x]) :=
      ⟨(by decide : 2 ≤ sizeLine), [.int i tk, y], .cons ⟨tk, rfl⟩ (.cons ru .nil), ⟨_, pair2, rfl, 0, rfl⟩⟩
    have old2 : ∀ b o, b ∉ [e, it] → s.heap.get? b = some o → h2.get? b = some o := fun b o nb q => by
      simp only [List.mem_cons, List.not_mem_nil, or_false, not_or] at nb
      rw [same.2 b nb.1]
      exact kept b o nb.1 nb.2 q
    have J2 : L2.Inv Y pins σ (upd H s.heap.objs.size (.tup [.int (i : Nat), x])) { s with heap := h2, toks := tk + 1 } := J.turnedNew (ch := [e, it]) old2 free (Nat.le_refl _) made
    have e1 : ((i + 1 : Nat) : Int) = (i : Int) + 1 := by omega
    refine ⟨.ref s.heap.objs.size, _, J2, rfl, ⟨_, x, rfl, J.hok.fresh (Nat.le_refl _), rfl, fun ys q => by rw [J.tuple_inj q hq]; exact hx⟩, ⟨⟨y, by rw [e1]; exact he2⟩, ?_, ne⟩, fun b hb => ?_⟩
    · obtain ⟨o, ho, r⟩ := st1.1
      exact ⟨o, by rw [same.2 it (Ne.symm ne)]; exact ho, r⟩
    · have blt : b < s.heap.objs.size := by
        rcases List.mem_cons.mp hb with q | q
        · rw [q]; exact elt
        · rw [List.mem_singleton.mp q]; exact ilt
      rw [upd_ne (Nat.ne_of_lt blt)]
      exact (free b hb).1
  done := by
    rintro Y rfl rfl rfl calm i pins s σ H E J free st ⟨xs, hq, hx⟩
    obtain ⟨its, rel, tup, _⟩ := J.tuple hq
    have ap := en_apart st tup
    obtain ⟨⟨old, he⟩, hit, ne⟩ := st
    have none_ : its.toArray[i]? = none := by
      rw [List.getElem?_toArray]
      exact List.getElem?_eq_none (by rw [← rel.length]; exact hx)
    have ty : s.TypeIs (.ref e) "enumerate" := ⟨_, he, rfl⟩
    unfold pyNext
    apply wpAny_bind
    apply wpAny_attempt
    refine wpAny_callSpecial?_slot (name := Str.ofString "__next__") ty PySem.F.slot_enumerate_next (wpAny_call_entry PySem.F.slot_enumerate_next ty PySem.F.entry_enumerate_next ?_ (PySem.F.args_enumerate_next_1 _))
    show wpAny _ _ (field (.ref e) 2 >>= fun y => _) _ _ _
    apply wpAny_bind
    refine wpAny_field he rfl (x := .ref it) rfl ?_
    apply wpAny_bind
    refine wpAny_nextOf_tuple_end (by simp [J.ok.hd calm]) hit tup none_ fun h1 y ext stop => ?_
    obtain ⟨o, ho, hc⟩ := stop
    apply wpAny_bind
    refine wpAny_isInstance (T := "StopIteration") (b := true) ⟨o, ho, hc⟩ isSubtype_stop (wpAny_pure ⟨rfl, ?_⟩)
    obtain ⟨f0, f1, f2, f3, f4, f5⟩ := free it (List.mem_cons_of_mem _ List.mem_cons_self)
    exact J.turned (t' := s.toks) (fun b o nb q => ext b o nb q) f0 f1 f3 f4 f5
  self := by
    intro A i s Q E st q
    obtain ⟨⟨old, he⟩, _⟩ := st
    exact wpAny_pyIter_enum he q
def iEnT (K : PySem.W.Frag) (ta : TA) : TI := fun σ H R => ta σ H fun vs H1 => ∃ a xs, vs = [.ref a] ∧ SqT K H1 a xs ∧ R (ItEn K a) H1
set_option maxHeartbeats 8000000 in
theorem enumerate_new {v : Value} {o : Obj} {φ : Heap → Prop} (B : Begins v o φ) :
    Meets (Builtin.«enumerate.__new__» ⟨[.type "enumerate", v], []⟩) (fun _ R s => φ s.heap ∧
      R (.ok (.ret (.ref (s.heap.push o).objs.size))) { s with heap := (s.heap.push o).push { cls := .type "enumerate", data := .fields #[.none, .bool false, .ref s.heap.objs.size, rawInt 0, .none, .none] } }) :=
  .of_wp fun prog w A R s z => by
    obtain ⟨hp, gens, dr, toks, os⟩ := s
    obtain ⟨z1, z2⟩ := z
    have sub := sub_enumerate
    have begun : ∀ {A' : Around} {E : Value → Shared → Prop} {Q : Value → Shared → Prop}, Q (.ref hp.objs.size) ⟨hp.push o, gens, dr, toks, os⟩ → wpAny (model prog w) A' (pyIter v) Q E ⟨hp, gens, dr, toks, os⟩ :=
      B.iter prog w _ _ ⟨hp, gens, dr, toks, os⟩ _ z1
    wp_walk using begun
    apply wpAny_stack_any
    intro st
    apply wpAny_pure
    split
    · rename_i cc _ _ _ _ _
      cases (cc == Value.type "enumerate") <;> (wp_walk using begun; exact ⟨_, rfl, z2⟩)
    · wp_walk using begun
      exact ⟨_, rfl, z2⟩
theorem pi_enT {X : Cx} {e : Expr} {ta : TA} {p pos tpos : Pos} {elts : List Expr} {kk : Nat} (glob : Gl X "enumerate") (free : X.mg "enumerate" = none) (args : PA X [e] ta) (one : starEach [e] X.env = [(false, eval e X.env)] := by rfl) :
    PI X (.Tuple elts kk tpos) (.Call (.Name "enumerate" p) [e] [] pos) (iEnT X.K ta) := by
  constructor
  intro pins s σ H R J want
  refine Call_ (ld_blt J glob free boot_enumerate (PyProof.Rows.callWith_type1 (thn (args.run pos pins s σ H _ J want) fun us s1 got => ?_) one rfl))
  obtain ⟨vs, H1, J1, rv, a, xs, ev, hq, rest⟩ := got
  subst ev
  cases rv with
  | cons r0 rr =>
    cases rr
    cases r0
    obtain ⟨its, rel, tup, _⟩ := J1.tuple hq
    have begins := begins_tuple a its.toArray
    refine callType_new PySem.F.called_enumerate (by decide) (PySem.F.typeCall_enumerate_1 _) (PySem.F.newCall_enumerate_1 _) (fun obj => PySem.F.args_object_init_2 obj _) PySem.F.entry_enumerate_new (enumerate_new begins) ⟨tup, ?_⟩
    have size1 : (s1.heap.push { cls := .type "tuple_iterator", data := .fields #[.ref a, .int 0 0] }).objs.size = s1.heap.objs.size + 1 := Heap.size_push ..
    show _ ∧ _
    rw [size1]
    have he : IsEnum ((s1.heap.push { cls := .type "tuple_iterator", data := .fields #[.ref a, .int 0 0] }).push { cls := .type "enumerate", data := .fields #[.none, .bool false, .ref s1.heap.objs.size, rawInt 0, .none, .none] }) (s1.heap.objs.size + 1) s1.heap.objs.size 0 .none := by
      have z := Heap.get?_push_size (s1.heap.push { cls := .type "tuple_iterator", data := .fields #[.ref a, .int 0 0] }) (o := { cls := .type "enumerate", data := .fields #[.none, .bool false, .ref s1.heap.objs.size, rawInt 0, .none, .none] }) rfl
      rw [size1] at z
      exact z
    refine ⟨⟨_, he, rfl⟩, wpAny_pyIter_enum he ?_⟩
    have J2 : L2.Inv X pins σ H1 { s1 with heap := (s1.heap.push { cls := .type "tuple_iterator", data := .fields #[.ref a, .int 0 0] }).push { cls := .type "enumerate", data := .fields #[.none, .bool false, .ref s1.heap.objs.size, rawInt 0, .none, .none] } } :=
      J1.kept (t' := s1.toks) fun b o q => Heap.get?_push_of_some _ (Heap.get?_push_of_some _ q)
    refine ⟨s1.heap.objs.size + 1, [s1.heap.objs.size + 1, s1.heap.objs.size], _, _, H1, rfl, J2, turn_en a (s1.heap.objs.size + 1) s1.heap.objs.size, ⟨⟨.none, he⟩, ⟨_, Heap.get?_push_of_some _ (Heap.get?_push_size _ rfl), rfl, rfl⟩, Nat.succ_ne_self _⟩, fun b hb => ?_, rest⟩
    have le : s1.heap.objs.size ≤ b := by
      rcases List.mem_cons.mp hb with q | q
      · rw [q]; exact Nat.le_succ _
      · rw [List.mem_singleton.mp q]; exact Nat.le_refl _
    exact J1.fpOk le (J1.hok.fresh le)
section
variable {c : Cfg} {W : WX} {as as' : List Addr} {H H' : Hp} {μ : Store}
def srcE (ds : List Dat) : Src := ⟨ds.length, fun i _ => (ds[i]?).map fun d => .tup [.int (i : Nat), d], fun _ => true⟩
theorem jrel_en {a : Addr} {xs : List V} {ds : List Dat} (hq : ∀ {as' : List Addr} {H' : Hp}, Ext as H as' H' → SqT c.K H' a xs) (r : RelAll c as H xs ds) : JRel c as H (ItEn c.K a) (srcE ds) := fun as' H' μ' e st => by
  refine ⟨fun i d hi hg => ?_, fun _ => ⟨xs, hq e, by rw [r.length]; exact Nat.le_refl _⟩⟩
  have hg' : (ds[i]?).map (fun d => Dat.tup [.int (i : Nat), d]) = some d := hg
  cases hd : ds[i]? with
  | none => rw [hd] at hg'; cases hg'
  | some d0 =>
    rw [hd] at hg'
    cases hg'
    obtain ⟨v, h3, h4⟩ := (r.mono e).get hd
    refine ⟨⟨xs, v, hq e, h3⟩, fun x H2 y => ?_⟩
    obtain ⟨T, x', rfl, hn, rfl, q⟩ := y
    have z := q xs (hq e)
    rw [h3] at z
    cases z
    exact ⟨ext_new hn, st.tup hn, .tup upd_same (.cons (.int _) (.cons (h4.mono (ext_new hn)) .nil))⟩
def miEnT (a : M (List Dat)) : M Src := fun δ μ => (a δ μ).bind fun ds μ1 => match ds with
  | [.tup es] => .ok (srcE es) μ1
  | _ => .stuck
theorem simi_enT {t : TA} {a : M (List Dat)} (h : SimA c W t a) : SimI c W (iEnT c.K t) (miEnT a) := by
  intro as H σ δ μ st env Q w
  refine h as H σ δ μ st env _ ((want_bind (R1 := RelAll c) w).imp ?_)
  rintro vs H1 ⟨as1, μ1, ds, e, s1, rs, w1⟩
  split at w1
  · obtain ⟨v, rfl, r⟩ := rel1 rs
    cases r with
    | @tup a xs _ h1 h2 => exact ⟨a, xs, rfl, h1.sq, w1 _ as1 H1 .refl s1 (jrel_en (fun e => (h1.mono e).sq) h2)⟩
  · exact w1.elim
end
end Nh

namespace Nh
open PySem PySem.Spec PyProof.Rows L2
/-! ### sets of texts whose table can be walked -/
def txtOf : Value → Str
  | .str x _ => x
  | _ => Str.empty
/-- an entry: a text and its hash -/
def TxE (w : World) (e : Int × Value) : Prop := ∃ x tk, e = (hashStr w x, Value.str x tk)
structure SetT (w : World) (h : Heap) (a : Addr) (ks : List Str) (o : Obj) (es : Array (Int × Value)) (ep : Nat) (t : SetTable) : Prop where
  at_ : h.get? a = some o
  exact_ : o.ExactSet
  data : o.data = .set es ep t
  ents : ∀ e ∈ es.toList, TxE w e
  keys : (es.toList.map fun e => txtOf e.2).Nodup
  mem : ∀ x, x ∈ ks ↔ x ∈ es.toList.map fun e => txtOf e.2
  small : es.size < scanBound
  fits : t.fits es.size = true
  rises : Ris t.place.toList
  led : w.params.followText "set-order" = true ∨ t.led = true
def SetS (w : World) (h : Heap) (a : Addr) (ks : List Str) : Prop := ∃ o es ep t, SetT w h a ks o es ep t
section
variable {P : Program} {w : World} {A : Around} {E : Value → Shared → Prop} {s : Shared} {a : Addr} {ks : List Str}
theorem SetS.later {h h' : Heap} (z : SetS w h a ks) (k : ∀ o, h.get? a = some o → h'.get? a = some o) : SetS w h' a ks := by
  obtain ⟨o, es, ep, t, q⟩ := z
  exact ⟨o, es, ep, t, { q with at_ := k o q.at_ }⟩
theorem SetS.same {h : Heap} {ks' : List Str} (z : SetS w h a ks) (k : ∀ x, x ∈ ks' ↔ x ∈ ks) : SetS w h a ks' := by
  obtain ⟨o, es, ep, t, q⟩ := z
  exact ⟨o, es, ep, t, { q with mem := fun x => (k x).trans (q.mem x) }⟩
theorem txE_elems {l : List (Int × Value)} (h : ∀ e ∈ l, TxE w e) : ElemsOf (PySem.strKind P w) l := by
  intro e he
  obtain ⟨x, tk, rfl⟩ := h e he
  exact ⟨⟨x, strKind_is P w x tk, rfl⟩, rfl⟩
theorem txE_is {e : Int × Value} (h : TxE w e) (x : Str) : (PySem.strKind P w).is x e.2 = true ↔ txtOf e.2 = x := by
  obtain ⟨y, tk, rfl⟩ := h
  show (y == x) = true ↔ y = x
  exact beq_iff_eq
theorem SetT.size_le {h : Heap} {o : Obj} {es : Array (Int × Value)} {ep : Nat} {t : SetTable} (q : SetT w h a ks o es ep t) : es.size ≤ ks.length := by
  have z : (es.toList.map fun e => txtOf e.2).length ≤ ks.length := q.keys.length_le_of_subset fun x hx => (q.mem x).mpr hx
  rwa [List.length_map, Array.length_toList] at z
theorem stored {h : Heap} {o : Obj} {es es' : Array (Int × Value)} {ep : Nat} {t t' : SetTable} (ho : h.get? a = some o) (hd : o.data = .set es ep t) : (h.update a (Obj.putSet es' t')).get? a = some { o with data := .set es' (ep + 1) t' } := store_at ho hd
/-- behind the new entry: the table may be laid anew -/
theorem add_end {give : Bool → Sem Unit} (hg : ∀ (b : Bool) (s₁ : Shared) (R' : Unit → Shared → Prop), R' () s₁ → wpAny (model P w) A (give b) R' E s₁) {o : Obj} {es es1 : Array (Int × Value)} {ep : Nat} {t t2 : SetTable} {gone : Bool} {R : Option Bool → Shared → Prop}
    (ho : s.heap.get? a = some o) (hd : o.data = .set es ep t) (hx : o.ExactSet) (g1 : ∀ e ∈ es1.toList, TxE w e) (n1 : (es1.toList.map fun e => txtOf e.2).Nodup) (m1 : ∀ x, x ∈ ks ↔ x ∈ es1.toList.map fun e => txtOf e.2) (z1 : es1.size < scanBound) (f1 : t2.fits es1.size = true)
    (r1 : Ris t2.place.toList) (l1 : w.params.followText "set-order" = true ∨ t2.led = true) (hR : ∀ h', Heap.SameBut a s.heap h' → SetS w h' a ks → R (some true) { s with heap := h' }) :
    wpAny (model P w) A (storeSet a es1 t2 >>= fun _ => if (!gone && t2.tooFull) = true then
        give (relayAll t2 es1 (SetTable.grown es1.size)).2.2 >>= fun _ => storeSet a (relayAll t2 es1 (SetTable.grown es1.size)).1 (relayAll t2 es1 (SetTable.grown es1.size)).2.1 >>= fun _ => pure (some true)
      else pure (some true)) R E s := by
  apply wpAny_bind
  refine wpAny_storeSet_of ho hd ?_ (fits_of_scanBound z1)
  have ho1 : (s.heap.update a (Obj.putSet es1 t2)).get? a = some { o with data := .set es1 (ep + 1) t2 } := stored ho hd
  have same1 := Heap.SameBut.update s.heap a (Obj.putSet es1 t2)
  by_cases full : (!gone && t2.tooFull) = true
  · rw [if_pos full]
    have perm := relayAll_perm t2 es1 (SetTable.grown es1.size)
    have f2 := relayAll_fits t2 es1 (SetTable.grown es1.size)
    have r2 := relayAll_ris t2 es1 (SetTable.grown es1.size)
    have l2 := relayAll_led t2 es1 (SetTable.grown es1.size)
    generalize relayAll t2 es1 (SetTable.grown es1.size) = laid at perm f2 r2 l2 ⊢
    obtain ⟨es2, t3, gave⟩ := laid
    dsimp only at perm f2 r2 l2 ⊢
    have size2 : es2.size = es1.size := by
      have q := perm.length_eq
      rwa [Array.length_toList, Array.length_toList] at q
    apply wpAny_bind
    apply hg
    apply wpAny_bind
    refine wpAny_storeSet_of ho1 rfl ?_ (fits_of_scanBound (by rw [size2]; exact z1))
    apply wpAny_pure
    have permK := perm.map fun e => txtOf e.2
    refine hR _ (same1.trans (Heap.SameBut.update _ a _)) ⟨_, es2, _, t3, stored ho1 rfl, hx, rfl, fun e he => g1 e (perm.mem_iff.mp he), permK.nodup_iff.mpr n1, fun x => (m1 x).trans permK.mem_iff.symm, by rw [size2]; exact z1, f2, r2, ?_⟩
    exact l1.imp id fun q => by rw [l2]; exact q
  · rw [if_neg full]
    exact wpAny_pure (hR _ same1 ⟨_, es1, _, t2, ho1, hx, rfl, g1, n1, m1, z1, f1, r1, l1⟩)
theorem setS_add {x : Str} {tk : Tok} {Q : Bool → Shared → Prop} (z : SetS w s.heap a ks) (room : ks.length + 1 < scanBound)
    (hQ : ∀ b h', Heap.SameBut a s.heap h' → SetS w h' a (ks ++ [x]) → Q b { s with heap := h' }) : wpAny (model P w) A (setAddHashed a (.str x tk) (hashStr w x)) Q E s := by
  obtain ⟨o, es, ep, t, q⟩ := z
  have isx : (PySem.strKind P w).is x (.str x tk) = true := strKind_is P w x tk
  have elems : ElemsOf (PySem.strKind P w) es.toList := txE_elems q.ents
  have sc : (Value.str x tk).scannable = true := rfl
  unfold setAddHashed setAddHashedIn
  apply wpAny_holding
  apply wpAny_bind
  refine wpAny_setState_of q.at_ q.data q.fits ?_
  dsimp only
  rw [byScan_of sc q.small elems]
  simp only [↓reduceIte]
  unfold setAddByScan
  apply wpAny_bind
  apply wpAny_bind
  apply wpAny_rule
  apply wpAny_bind
  refine wpAny_setScan_of (knd := PySem.strKind P w) (k := x) isx q.at_ q.data q.fits elems ?_
  cases found : List.findIdx? (fun e => (PySem.strKind P w).is x e.2) es.toList with
  | some j =>
    dsimp only
    obtain ⟨hj, pj, _⟩ := List.findIdx?_eq_some_iff_getElem.mp found
    have inx : x ∈ ks := (q.mem x).mpr (List.mem_map.mpr ⟨es.toList[j], List.getElem_mem hj, (txE_is (P := P) (q.ents _ (List.getElem_mem hj)) x).mp pj⟩)
    refine wpAny_pure (wpAny_pure (hQ false s.heap (Heap.SameBut.refl a s.heap) (SetS.same ⟨o, es, ep, t, q⟩ fun y => ?_)))
    rw [List.mem_append, List.mem_singleton]
    exact ⟨fun k => k.elim id fun e => e ▸ inx, .inl⟩
  | none =>
    dsimp only
    have out : x ∉ es.toList.map fun e => txtOf e.2 := fun k => by
      obtain ⟨e, he, ee⟩ := List.mem_map.mp k
      have no := List.findIdx?_eq_none_iff.mp found e he
      rw [(txE_is (P := P) (q.ents e he) x).mpr ee] at no
      cases no
    have given : ∀ (b : Bool) {s₁ : Shared} {R' : Unit → Shared → Prop}, R' () s₁ → wpAny (model P w) A (match b with | true => rule "set.scan.the-table-gave-way" | false => pure ()) R' E s₁ := by
      intro b s₁ R' k
      cases b
      · exact wpAny_pure k
      · exact wpAny_rule k
    have perm := layNew_perm t es (hashStr w x) (.str x tk)
    have f1 := layNew_fits t es (hashStr w x) (.str x tk)
    have r1 := layNew_ris t es (hashStr w x) (.str x tk) q.rises
    have l1 := layNew_led t es (hashStr w x) (.str x tk)
    generalize layNew t es (hashStr w x) (.str x tk) = laid at perm f1 r1 l1 ⊢
    obtain ⟨es1, t1, gone, gave⟩ := laid
    dsimp only at perm f1 r1 l1 ⊢
    have perm2 : es1.toList.Perm ((hashStr w x, Value.str x tk) :: es.toList) := by
      rw [Array.toList_push] at perm
      exact perm.trans (List.perm_append_singleton _ _)
    have permK : (es1.toList.map fun e => txtOf e.2).Perm (x :: es.toList.map fun e => txtOf e.2) := perm2.map fun e => txtOf e.2
    have g1 : ∀ e ∈ es1.toList, TxE w e := fun e he => (List.mem_cons.mp (perm2.mem_iff.mp he)).elim (fun k => ⟨x, tk, k⟩) (q.ents e)
    have n1 : (es1.toList.map fun e => txtOf e.2).Nodup := permK.nodup_iff.mpr (List.nodup_cons.mpr ⟨out, q.keys⟩)
    have m1 : ∀ y, y ∈ ks ++ [x] ↔ y ∈ es1.toList.map fun e => txtOf e.2 := fun y => by
      rw [permK.mem_iff, List.mem_cons, List.mem_append, List.mem_singleton, q.mem y]
      exact Or.comm
    have size1 : es1.size = es.size + 1 := by
      have k := perm2.length_eq
      rwa [List.length_cons, Array.length_toList, Array.length_toList] at k
    have z1 : es1.size < scanBound := by
      have k := q.size_le
      omega
    have led1 : w.params.followText "set-order" = true ∨ t1.led = true := q.led.imp id fun k => by rw [l1]; exact k
    apply wpAny_bind
    refine given _ ?_
    by_cases pl : t1.plain = true
    · rw [if_pos pl]
      apply wpAny_bind
      rw [hashByValue_scannable 8 sc]
      apply wpAny_pure
      refine add_end (fun b s₁ R' k => given b k) q.at_ q.data q.exact_ g1 n1 m1 z1 ?_ ?_ ?_ fun h' same r => ?_
      · first | (split <;> first | exact f1 | exact SetTable.fits_plain_off f1) | exact f1
      · first | (split <;> exact r1) | exact r1
      · first | (split <;> exact led1) | exact led1
      · dsimp only
        exact wpAny_pure (hQ true h' same r)
    · rw [if_neg pl]
      apply wpAny_bind
      apply wpAny_pure
      simp only [↓reduceIte]
      refine add_end (fun b s₁ R' k => given b k) q.at_ q.data q.exact_ g1 n1 m1 z1 f1 r1 led1 fun h' same r => ?_
      dsimp only
      exact wpAny_pure (hQ true h' same r)
end
end Nh

namespace Nh
open PySem PySem.Spec PyProof.Rows L2
/-- a new set -/
abbrev newS (w : World) : Obj := { cls := .type "set", dict := none, data := .set #[] 0 (.fresh 0 0 (!w.params.followText "set-order")) }
section
variable {P : Program} {w : World} {A : Around} {E : Value → Shared → Prop} {s : Shared} {a : Addr}
theorem setS_new {h : Heap} (at_ : h.get? a = some (newS w)) : SetS w h a [] := by
  refine ⟨_, #[], 0, _, at_, ⟨rfl, rfl, rfl⟩, rfl, ?_, ?_, ?_, by decide, by rfl, List.Pairwise.nil, ?_⟩
  · intro e he; simp at he
  · simp
  · intro x; simp
  · show _ ∨ (!w.params.followText "set-order") = true
    cases w.params.followText "set-order" <;> simp
theorem update_txts {I : Addr} {fp wr : List Addr} {G : Array GenState → Array GenState → Prop} {n : Nat} {Pv : Nat → Value → Prop} {St : Nat → Shared → Prop} {R : Result → Shared → Prop} (W : WalksS P w A.in1 I fp wr G n Pv St) (S : Addr) (out : S ∉ fp) (xs : List Str)
    (hn : n = xs.length) (few : xs.length + 1 < scanBound) (val : ∀ i v, Pv i v → ∃ x t, xs[i]? = some x ∧ v = .str x t) : ∀ (left i : Nat) (s : Shared), n - i = left → i ≤ n → St i s → SetS w s.heap S (xs.take i) →
      (∀ s', Moved (S :: wr) G s s' → SetS w s'.heap S xs → R (.ok (.ret .none)) s') → codeAny (model P w) A (.builtin "set.update.loop" ⟨[.ref S, .ref I], []⟩) R s := by
  have out2 : S ∉ wr := fun z => out (W.sub _ z)
  have more : ∀ b ∈ wr, b ∈ S :: wr := fun b z => List.mem_cons_of_mem _ z
  intro left
  induction left with
  | zero =>
    intro i s e0 le st z fin
    obtain rfl : i = n := by omega
    apply codeAny_builtin PyProof.Rows.F.entry_set_update_loop
    rw [Around.under_plainId PyProof.Rows.F.plain_set_update_loop _]
    show wpAny _ A.in1 (pyNext (.ref I) >>= fun y => _) _ _ s
    apply wpAny_bind
    refine W.done s _ _ st fun s' mv => ?_
    show wpAny _ A.in1 (ret Value.none) _ _ s'
    apply wpAny_pure
    rw [List.take_of_length_le (by omega)] at z
    exact fin s' (mv.mono more) (z.later fun o q => mv.heap S o out2 q)
  | succ left ih =>
    intro i s e0 le st z fin
    have lt : i < n := by omega
    apply codeAny_builtin PyProof.Rows.F.entry_set_update_loop
    rw [Around.under_plainId PyProof.Rows.F.plain_set_update_loop _]
    show wpAny _ A.in1 (pyNext (.ref I) >>= fun y => _) _ _ s
    apply wpAny_bind
    refine W.item i s _ _ lt st fun v s' pv st' mv => ?_
    obtain ⟨x, t, hx, rfl⟩ := val i v pv
    have z' : SetS w s'.heap S (xs.take i) := z.later fun o q => mv.heap S o out2 q
    show wpAny _ A.in1 (holding [Value.str x t] (setAdd S (.str x t)) >>= fun y => _) _ _ s'
    apply wpAny_bind
    apply wpAny_holding
    unfold setAdd
    apply wpAny_holding
    apply wpAny_bind
    refine (PySem.strKind P w).pyHash (k := x) (strKind_is _ _ _ _) ?_
    refine setS_add (s := { s' with toks := s'.toks + 1 }) (x := x) (tk := t) z' ?_ fun b h' same z2 => ?_
    · rw [List.length_take]; omega
    have z3 : SetS w h' S (xs.take (i + 1)) := z2.same fun y => by rw [List.take_add_one, hx]; rfl
    apply wpAny_pure
    refine ⟨plainId_quiet PyProof.Rows.F.plain_set_update_loop _, ih (i + 1) _ (by omega) lt (W.frame _ s' _ _ st' (Nat.le_succ _) fun b hb o q => ?_) z3 fun s2 mv2 z4 => fin s2 ?_ z4⟩
    · have nb : b ≠ S := fun k => out (k ▸ hb)
      exact (same.2 b nb).trans q
    · refine Moved.trans W.gtrans ((mv.mono more).then_heap (Nat.le_succ _) fun b o nb q => ?_) mv2
      have nb2 : b ≠ S := fun k => nb (k ▸ List.mem_cons_self)
      exact (same.2 b nb2).trans q
theorem new_set1 (v : Value) {Q₁ : Value → Shared → Prop} (h : Q₁ (.ref s.heap.objs.size) { s with heap := s.heap.push (newS w) }) : codeAny (model P w) A (.call (.builtin "set.__new__") ⟨[.type "set", v], []⟩) (wants Q₁ E) s := code_set_led1 v h
set_option maxRecDepth 100000 in
theorem set_of_tuple {l : Addr} {items : Array Value} (xs : List Str) {Q : Value → Shared → Prop} (calm : A.handled = none) (tup : s.heap.IsTuple l items) (txts : PyProof.Rows.StrsAre items.toList xs) (few : xs.length + 1 < scanBound)
    (hQ : ∀ (h' : Heap) (tk : Nat), SetS w h' s.heap.objs.size xs → (∀ b o, s.heap.get? b = some o → h'.get? b = some o) → Q (.ref s.heap.objs.size) { s with heap := h', toks := tk }) : wpAny (model P w) A (call (.type "set") [.ref l]) Q E s := by
  have size1 : items.size = xs.length := by
    have z := StrsAre.len_eq txts
    rwa [Array.length_toList] at z
  obtain ⟨c, tl, mro⟩ := PySem.F.called_set.mro
  have made := PySem.F.called_set.made
  have sub := PySem.F.called_set.sub
  apply wpAny_call
  apply codeAny_of_tree
  show wpAny _ _ (callAny (.type "set") _) _ _ _
  refine wpAny_pure ⟨Code.quiet_builtin _ (by decide +kernel), codeAny_builtin PySem.F.entry_type_call ?_⟩
  rw [Around.under_plain (weight_type_call_type "set" [.ref l] []) rfl]
  have no1 := PySem.F.called_set.notType
  have can := PySem.F.called_set.canCreate
  have tc := PySem.F.typeCall_set_1 (.ref l)
  repeat (any_goals (first | assumption | wp_step))
  refine codeAny_mono (new_set1 (.ref l) (E := E) (Q₁ := fun ob s1 => ob = .ref s.heap.objs.size ∧ s1 = { s with heap := s.heap.push (newS w) }) ⟨rfl, rfl⟩) fun res s1 got => ?_
  match res, got with
  | .error e, got => exact got
  | .ok .next, got => exact got.elim
  | .ok .brk, got => exact got.elim
  | .ok .cont, got => exact got.elim
  | .ok (.ret ob), got =>
    obtain ⟨rfl, rfl⟩ := got
    have there : (s.heap.push (newS w)).get? s.heap.objs.size = some (newS w) := Heap.get?_push_size _ rfl
    have isSet : Shared.TypeIs { s with heap := s.heap.push (newS w) } (.ref s.heap.objs.size) "set" := ⟨_, there, rfl⟩
    have look := PySem.F.called_set.init.lookup
    have bound := PySem.F.called_set.init.bind (.ref s.heap.objs.size)
    repeat (any_goals (first | assumption | wp_step))
    refine codeAny_mono (codeAny_call_builtin (R := wants (fun r s2 => r = .none ∧ ∃ h' tk, s2 = { s with heap := h', toks := tk } ∧ SetS w h' s.heap.objs.size xs ∧ ∀ b o, s.heap.get? b = some o → h'.get? b = some o) E)
      PySem.F.called_set.init.plain PySem.F.entry_set_init (check_set_init_1 isSet ?_)) fun res2 s2 got2 => ?_
    · obtain ⟨⟨oc, odict, odata, osl⟩, hol, hcl, nl, hdl⟩ := tup
      dsimp only at hcl hdl
      subst hcl hdl
      have hol2 : (s.heap.push (newS w)).get? l = some { cls := .type "tuple", dict := odict, data := .seq items nl, slots := osl } := Heap.get?_push_of_some _ hol
      have no2 := PySem.F.sub_tuple_set
      have no3 := PySem.F.sub_tuple_frozenset
      have no4 : (Value.type "tuple" == Value.type "dict") = false := by decide
      have tup2 : (s.heap.push (newS w)).IsTuple l items := ⟨_, hol2, rfl, nl, rfl⟩
      unfold Builtin.«set.__init__» noKeywords Builtin.Frozenset.updateFrom
      generalize hold : pyIter = iter
      wp_walk
      subst hold
      apply wpAny_pyIter_tuple tup2
      apply wpAny_bind
      apply wpAny_runValue
      have below : l < s.heap.objs.size := Heap.lt_size hol
      have newI : l ≠ (s.heap.push (newS w)).objs.size := by rw [Heap.size_push]; exact Nat.ne_of_lt (Nat.lt_succ_of_lt below)
      have off : s.heap.objs.size ∉ [(s.heap.push (newS w)).objs.size, l] := by
        rw [Heap.size_push]
        simp only [List.mem_cons, List.not_mem_nil, or_false, not_or]
        exact ⟨Nat.ne_of_lt (Nat.lt_succ_self _), Nat.ne_of_gt below⟩
      refine update_txts ((Walks.tuple (by simp [calm]) _ l newI items).toS) s.heap.objs.size off xs size1 few (fun i v hv => ?_) items.size 0 _ rfl (Nat.zero_le _) ⟨⟨_, Heap.get?_push_size _ rfl, rfl, rfl⟩, tup2.push _⟩ ?_ ?_
      · have lt : i < xs.length := by rw [← size1]; exact (Array.getElem?_eq_some_iff.mp hv).1
        obtain ⟨t, e⟩ := SS.strs_at txts i v (by rw [Array.getElem?_toList]; exact hv)
        refine ⟨xs[i], t, List.getElem?_eq_getElem lt, ?_⟩
        rw [e, List.getD_eq_getElem?_getD, List.getElem?_eq_getElem lt]
        rfl
      · exact setS_new (Heap.get?_push_of_some _ there)
      · intro s3 mv z
        obtain ⟨h3, g3, d3, t3, o3⟩ := s3
        obtain rfl : g3 = s.gens := mv.gens
        obtain rfl : d3 = s.drawn := mv.drawn
        obtain rfl : o3 = s.os := mv.os
        show wpAny _ _ _ _ _ _
        apply wpAny_pure
        show wpAny _ _ (ret Value.none) _ _ _
        refine wpAny_pure ⟨rfl, h3, t3, rfl, z, fun b o q => ?_⟩
        have lt := Heap.lt_size q
        refine mv.heap b o ?_ (Heap.get?_push_of_some _ (Heap.get?_push_of_some _ q))
        simp only [List.mem_cons, List.not_mem_nil, or_false, not_or]
        rw [Heap.size_push]
        exact ⟨Nat.ne_of_lt lt, Nat.ne_of_lt (Nat.lt_succ_of_lt lt)⟩
    · match res2, got2 with
      | .error e, got2 => exact got2
      | .ok .next, got2 => exact got2.elim
      | .ok .brk, got2 => exact got2.elim
      | .ok .cont, got2 => exact got2.elim
      | .ok (.ret r), got2 =>
        obtain ⟨rfl, h3, t3, rfl, z, kept⟩ := got2
        repeat (any_goals (first | assumption | wp_step))
        exact hQ _ _ z kept
/-! ### sorted of such a set -/
theorem txts_of : ∀ (l : List Value), (∀ v ∈ l, ∃ x tk, v = Value.str x tk) → PyProof.Rows.StrsAre l (l.map txtOf)
  | [], _ => .nil
  | v :: l, h => by
    obtain ⟨x, tk, rfl⟩ := h v List.mem_cons_self
    exact .cons x tk (txts_of l fun u hu => h u (List.mem_cons_of_mem _ hu))
theorem sorted_setS {ks : List Str} {Q : Value → Shared → Prop} (z : SetS w s.heap a ks) (calm : A.handled = none) (few : ks.length < 64)
    (hQ : ∀ s' p (out : Array Value) (c : Nat) (ys : List Str), (∀ b o, s.heap.get? b = some o → s'.heap.get? b = some o) → s'.gens = s.gens → s'.os = s.os → s.heap.objs.size ≤ p → s'.heap.get? p = some (seqObj "list" out c) →
      PyProof.Rows.StrsAre out.toList ys → ys.Nodup → (∀ x, x ∈ ys ↔ x ∈ ks) → sortedS ys = true → Q (.ref p) s') : wpAny (model P w) A (call (.builtin "sorted") [.ref a]) Q E s := by
  obtain ⟨o, es, ep, t, q⟩ := z
  have small : es.size < 64 := Nat.lt_of_le_of_lt q.size_le few
  refine Calls.call_function_entry kind_sorted plain_sorted entry_sorted (args_sorted1 _) ?_
  unfold Builtin.«sorted»
  refine wpAny_bind (m := checkCount "sorted" 1 1 _) (wpAny_pure ?_)
  apply wpAny_bind
  refine collect_set (A := A.in1) calm ⟨o, q.at_, q.exact_.1, q.data⟩ q.fits q.small q.rises q.led fun s1 vs kept _ gens os_ perm => ?_
  have len : vs.length = es.size := by rw [perm.length_eq, List.length_map, Array.length_toList]
  have txts : PyProof.Rows.StrsAre vs (vs.map txtOf) := txts_of vs fun v hv => by
    obtain ⟨e, he, ee⟩ := List.mem_map.mp (perm.mem_iff.mp hv)
    obtain ⟨x, tk, rfl⟩ := q.ents e he
    exact ⟨x, tk, ee.symm⟩
  have permK : (vs.map txtOf).Perm (es.toList.map fun e => txtOf e.2) := by
    have k := perm.map txtOf
    rw [List.map_map] at k
    exact k
  apply wpAny_bind
  refine wpAny_newList ?_ (by rw [len, sizeLine_eq]; omega)
  have fresh : (s1.heap.push (seqObj "list" vs.toArray 0)).get? s1.heap.objs.size = some (seqObj "list" vs.toArray 0) := Heap.get?_push_size _ rfl
  apply wpAny_bind
  apply wpAny_holding
  refine wpAny_call_entry slot_list_sort ⟨_, fresh, rfl⟩ entry_list_sort (list_sort_treeK PyProof.Rows.strKind_oneLt fresh txts.keysOf (fun v1 v2 rest e => keyKind_strs (by rw [← e]; exact txts)) (by rw [len]; exact small) fun st' hp hs => ⟨_, rfl, ?_⟩) (args_list_sort _)
  obtain ⟨ys, y1, y2, y3⟩ := sorted_out_str txts hp hs
  obtain ⟨c, hc⟩ := sortedHeap_at (vs := vs) (out := (arrOf st').map (·.2)) fresh
  have permY : ys.Perm (es.toList.map fun e => txtOf e.2) := y2.trans permK
  apply wpAny_pure
  refine ⟨_, rfl, hQ _ s1.heap.objs.size _ c ys (fun b u e => ?_) gens os_ ?_ hc y1 (permY.nodup_iff.mpr q.keys) (fun x => by rw [permY.mem_iff, ← q.mem x]) y3⟩
  · have k := kept b u e
    have lt := Heap.lt_size k
    show (sortedHeap (s1.heap.push (seqObj "list" vs.toArray 0)) s1.heap.objs.size vs ((arrOf st').map (·.2))).get? b = some u
    rw [sortedHeap_old (Nat.ne_of_lt lt) (by rw [size_push']; exact Nat.lt_succ_of_lt lt)]
    exact Heap.get?_push_of_some _ k
  · assumption
end
end Nh

namespace Nh
open PySem PySem.Spec PyProof.Rows L2
/-! ### sorted(set(t)), t a tuple of texts -/
def SetOS (w : World) (a : Addr) (ks : List Str) : HO := .ext fun h => SetS w h a ks
theorem setOS_ok {P : Program} {w : World} {H : Hp} {h : Heap} {a : Addr} {ks : List Str} (z : SetS w h a ks) : ObjOk P w H h a (SetOS w a ks) := by
  obtain ⟨o, es, ep, t, q⟩ := id z
  exact ⟨z, ⟨o, q.at_⟩, fun h1 h2 k l => k.later l⟩
def rSetT (K : PySem.W.Frag) (w : World) : List V → Hp → VK → Prop := fun vs H Q => ∃ (a : Addr) (xs : List Str), vs = [V.ref a] ∧ SqT K H a (xs.map V.str) ∧ xs.length + 1 < scanBound ∧ ∀ p, H p = none → Q (.ref p) (upd H p (SetOS w p xs))
theorem cr_setT {X : Cx} (calm : X.calm = true) : CallR X (.type "set") (rSetT X.K X.w) := by
  intro pins s σ H vs us Q J r want
  obtain ⟨a, xs, rfl, hq, few, rest⟩ := want
  rw [Vals.ref1 r]
  obtain ⟨its, rel, tup, _⟩ := J.tuple hq
  refine set_of_tuple xs (J.ok.hd calm) tup (by simpa using rel.strs) few fun h' tk z kept => ?_
  exact ⟨.ref _, _, J.laid (t' := tk) kept (Nat.le_refl _) (setOS_ok z), rfl, rest _ (J.hok.fresh (Nat.le_refl _))⟩
def rSortedSS (w : World) : List V → Hp → VK → Prop := fun vs H Q => ∃ (a : Addr) (ks : List Str), vs = [V.ref a] ∧ H a = some (SetOS w a ks) ∧ ks.length < 64 ∧
  ∀ (ys : List Str) (p : Addr), ys.Nodup → (∀ x, x ∈ ys ↔ x ∈ ks) → sortedS ys = true → H p = none → Q (.ref p) (upd H p (.lst (ys.map V.str)))
theorem cr_sortedSS {X : Cx} (calm : X.calm = true) : CallR X (.builtin "sorted") (rSortedSS X.w) := by
  intro pins s σ H vs us Q J r want
  obtain ⟨a, ks, rfl, ha, few, rest⟩ := want
  rw [Vals.ref1 r]
  have z : SetS X.w s.heap a ks := (J.hok a _ ha).1
  refine sorted_setS z (J.ok.hd calm) few fun s2 p out c ys kept gens os_ le at_ txts nd mem ord => ?_
  have len : ys.length ≤ ks.length := nd.length_le_of_subset fun x hx => (mem x).mp hx
  have free : H p = none := J.hok.fresh le
  have new : ObjOk X.prog X.w (upd H p (.lst (ys.map V.str))) s2.heap p (.lst (ys.map V.str)) :=
    ⟨by rw [List.length_map, sizeLine_eq]; omega, out.toList, c, vals_of_strs txts, at_⟩
  obtain ⟨h2, g2, d2, t2, o2⟩ := s2
  dsimp only at kept gens os_ at_ new
  subst gens os_
  exact ⟨.ref p, _, J.call (ch := []) (Un.laid kept le free) (J.hok.laid kept le new) J.bare (fun b k => nomatch k), rfl, rest ys p nd mem ord free⟩
section
variable {c : Cfg} {W : WX} {as as' : List Addr} {H H' : Hp} {μ : Store}
def dedS : List Str → List Str
  | [] => []
  | x :: r => if x ∈ r then dedS r else x :: dedS r
theorem dedS_mem : ∀ (l : List Str) (x : Str), x ∈ dedS l ↔ x ∈ l
  | [], x => Iff.rfl
  | y :: r, x => by
    unfold dedS
    by_cases h : y ∈ r
    · rw [if_pos h, dedS_mem r x, List.mem_cons]
      exact ⟨.inr, fun z => z.elim (fun e => e ▸ h) id⟩
    · rw [if_neg h, List.mem_cons, List.mem_cons, dedS_mem r x]
theorem dedS_nodup : ∀ l : List Str, (dedS l).Nodup
  | [] => List.nodup_nil
  | y :: r => by
    unfold dedS
    by_cases h : y ∈ r
    · rw [if_pos h]; exact dedS_nodup r
    · rw [if_neg h]
      exact List.nodup_cons.mpr ⟨fun z => h ((dedS_mem r y).mp z), dedS_nodup r⟩
def mSortedSet (a : M Dat) : M Dat := fun δ μ => (a δ μ).bind fun x μ1 => match x with
  | .tup ds => match strsD ds with
    | some ss => if ss.length < 64 then allocR (.lst (((dedS ss).mergeSort leT).map .str)) μ1 else .stuck
    | none => .stuck
  | _ => .stuck
theorem scan64 {n : Nat} (h : n < 64) : n + 1 < scanBound := by unfold scanBound; omega
theorem sim_sortedSet {w : World} {t : TE} {a : M Dat} (h : SimE c W t a) : SimE c W (tCB (rSortedSS w) (tCons (tCB (rSetT c.K w) (tCons t tNil)) tNil)) (mSortedSet a) := by
  intro as H σ δ μ st env Q w0
  refine h as H σ δ μ st env _ ((want_bind (R1 := Rel c) w0).imp ?_)
  rintro v H1 ⟨as1, μ1, x, e, s1, r, w1⟩
  split at w1
  · rename_i ds
    split at w1
    · rename_i ss hs
      split at w1
      · rename_i hz
        cases r with
        | @tup p xs _ h1 h2 =>
          have ev := strsD_of hs h2
          subst ev
          refine ⟨p, ss, rfl, h1.sq, scan64 hz, fun q hq => ?_⟩
          have s2 := s1.tup (o := SetOS w q ss) hq
          refine ⟨q, ss, rfl, upd_same, hz, fun ys l nd mem ord hl => ?_⟩
          have same : ys = (dedS ss).mergeSort leT := by
            refine List.Perm.eq_of_pairwise (le := fun a b => leT a b = true) (fun a b _ _ x y => leT_anti x y) (sortedS_le ord) (List.pairwise_mergeSort leT_trans leT_total _) ?_
            refine List.Perm.trans ?_ (List.mergeSort_perm _ _).symm
            exact (List.perm_ext_iff_of_nodup nd (dedS_nodup ss)).mpr fun x => (mem x).trans (dedS_mem ss x).symm
          subst same
          exact w1 _ _ _ ((ext_new hq).trans (ext_alloc hl)) (s2.alloc hl ⟨_, upd_same, relStrs _⟩) (rel_alloc s2)
      · exact w1.elim
    · exact w1.elim
  · exact w1.elim
/-! ### how deep a recursion goes is told by the spec -/
theorem sim_callN {n : Nat} {f : FA} {t : TA} {a : M (List Dat)} (hf : ∀ ds μ k μ', f ds μ ≠ .raise k μ') (h : SimA c W t a) : SimE c W (tCall (spM c n f) [] E0 t) (mCall n f a) :=
  sim_call (fun _ _ _ z => z.elim) h fun k μ' => .inl fun ds μ => hf ds μ k μ'
end
end Nh

namespace Nh
open PySem PySem.Spec PySem.W PyProof.Rows L2
def rLtD (K : PySem.W.Frag) : R2 := fun x y H Q => ∃ d e, Dp K H x d ∧ Dp K H y e ∧ PySem.W.alike d e = true ∧ d ≠ .none ∧ d.depth ≤ 8 ∧ Q (.bl (dataLt d e)) H
theorem op_ltD {X : Cx} (hu : X.A.units + 64 < cLine) : OpR X (compareOp .Lt) (rLtD X.K) := by
  intro pins s σ H x y v u Q I rx ry h
  obtain ⟨d, e, hd, he, ha, hn, h8, q⟩ := h
  obtain ⟨as, r1⟩ := Dp.reads I d x v hd rx
  obtain ⟨bs, r2⟩ := Dp.reads I e y u he ry
  exact lt_data r1 r2 ha hn (by have := Nat.min_le_left d.depth e.depth; omega) ⟨.bl _, H, I, rfl, q⟩
section
variable {c : Cfg}
def notNone : PyData → Bool
  | .none => false
  | _ => true
def fLtD : F2 := fun x y μ => match py μ 12 x, py μ 12 y with
  | some a, some b => if (PySem.W.alike a b && (notNone a && decide (a.depth ≤ 8))) = true then .ok (.bl (dataLt a b)) μ else .stuck
  | _, _ => .stuck
theorem simr_ltD : SimR c (rLtD c.K) fLtD := by
  intro as H μ v w x y st rx ry σ W Q h
  unfold fLtD at h
  split at h
  · rename_i a b e1 e2
    split at h
    · rename_i hz
      obtain ⟨z1, z2⟩ := Bool.and_eq_true_iff.mp hz
      obtain ⟨z2, z3⟩ := Bool.and_eq_true_iff.mp z2
      exact ⟨a, b, py_of st 12 rx e1, py_of st 12 ry e2, z1, (by rintro rfl; cases z2), of_decide_eq_true z3, h _ as H .refl st (.bl _)⟩
    · exact h.elim
  · exact h.elim
/-! ### a list some times over -/
def fRepL : F2 := fun x y μ => match celL μ x, y with
  | some a, .int k => if 0 ≤ k ∧ k ≤ 1000 ∧ a.length ≤ 1000 then allocR (.lst (List.replicate k.toNat a).flatten) μ else .stuck
  | _, _ => .stuck
theorem simr_repL : SimR c rRep fRepL := by
  intro as H μ v w x y st rx ry σ W Q h
  unfold fRepL at h
  split at h
  · rename_i da k ea
    split at h
    · rename_i hz
      obtain ⟨z1, z2, z3⟩ := hz
      obtain ⟨_, a, xs, _, rfl, _, _, h1, h2⟩ := celL_of st rx ea
      cases ry
      have hk : k.toNat ≤ 1000 := by omega
      refine ⟨a, _, xs, rfl, rfl, h1, by omega, by omega, ?_, fun p hp => h _ _ _ (ext_alloc hp) (st.alloc hp ⟨_, upd_same, (h2.rep k.toNat).mono (ext_alloc hp)⟩) (rel_alloc st)⟩
      rw [h2.length]
      exact Nat.le_trans (Nat.mul_le_mul z3 hk) (by decide)
    · exact h.elim
  · exact h.elim
end
end Nh

namespace Nh
open PySem PySem.Spec PySem.W PyProof.Rows L2
section
variable {X : Cx}
def gFld (K : PySem.W.Frag) (ta : TE) (f : Str) : TG := fun v σ H Q => ta σ H fun x H2 => ∃ a C dx fs, x = .ref a ∧ H2 a = some (.ins C dx fs) ∧ Cls K C ∧ NoAttr K C f ∧ fs.length < 1000 ∧ Q σ (upd H2 a (.ins C dx (putF f v fs)))
theorem pg_fld {o : Expr} {f : Str} {pos' : Pos} {ta : TE} (ha : PE X o ta) : PG X (.Attribute o f pos') (gFld X.K ta f) := by
  refine ⟨fun pins s σ H v u Q I r h => ?_⟩
  refine kas_attr (thn (ha.run pins s σ H _ I h) fun ov s2 ⟨x, H2, I2, rx, a, C, dx, fs, ex, ea, c, n, l, q2⟩ => ?_)
  subst ex
  obtain rfl : ov = Value.ref a := rx
  exact setattr_ok I2 ea c n l r fun s3 I3 => ⟨σ, _, I3, q2⟩
def gNamesF : List Nat → TG → TGs
  | [], g => gCons g gNil
  | i :: r, g => gCons (gName i) (gNamesF r g)
end
section
variable {c : Cfg} {W : WX}
def mNamesF : List Nat → List Dat → Env → Option (Env × Dat)
  | [], [z], δ => some (δ, z)
  | i :: r, d :: ds, δ => mNamesF r ds (δ.set i (some d))
  | _, _, _ => none
theorem simg_namesF {as : List Addr} {H : Hp} {g : TG} : ∀ (is : List Nat) {σ : L2.St} {δ δ' : Env} {vs : List V} {ds : List Dat} {z : Dat}, EnvR c as H σ δ → RelAll c as H vs ds → mNamesF is ds δ = some (δ', z) →
    ∀ Q : L2.St → Hp → Prop, (∀ σ' w, EnvR c as H σ' δ' → Rel c as H w z → g w σ' H fun σ2 H2 => gNil [] σ2 H2 Q) → gNamesF is g vs σ H Q
  | [], σ, δ, δ', vs, ds, z, env, r, h, Q, q => by
    cases r with
    | nil => cases h
    | cons h1 t =>
      cases t with
      | nil =>
        cases h
        exact ⟨_, [], rfl, q σ _ env h1⟩
      | cons _ _ => cases h
  | i :: is, σ, δ, δ', vs, ds, z, env, r, h, Q, q => by
    cases r with
    | nil => cases h
    | cons h1 t => exact ⟨_, _, rfl, simg_namesF is (env.set i h1) t h Q q⟩
/-- a, b, o.f = e -/
def msAsgTF (ok : FldT) (f : Str) (is : List Nat) (e a : M Dat) : MS := fun δ μ => (e δ μ).toS δ fun x μ1 => match x with
  | .tup ds => if ds.length = is.length + 1 then match mNamesF is ds δ with
    | some (δ1, z) => (a δ1 μ1).toS δ1 fun y μ2 => match insAt μ2 y with
      | some (k, n, fs) => if ok n f = true ∧ fs.length < 1000 then .nx δ1 (μ2.set k (.ins n (putG f z fs))) else .stuck
      | none => .stuck
    | none => .stuck else .stuck
  | _ => .stuck
theorem sims_asgTF {ok : FldT} (hok : FldOk c ok) {f : Str} {is : List Nat} {te ta : TE} {e a : M Dat} (he : SimE c W te e) (ha : SimE c W ta a) : SimS c W (tAsg te (gTup c.K (is.length + 1) (gNamesF is (gFld c.K ta f)))) (msAsgTF ok f is e a) := by
  intro as H σ δ μ st env D w
  refine he as H σ δ μ st env _ ((want_toS (R := Rel c) env w).imp ?_)
  rintro v H1 ⟨as1, μ1, x, e1, s1, rx, w1⟩
  have env1 := env.mono e1
  split at w1
  · rename_i ds
    split at w1
    · rename_i hl
      split at w1
      · rename_i δ1 z hz
        cases rx with
        | @tup p xs _ h1 h2 =>
          refine ⟨p, xs, rfl, h1.sq, by rw [h2.length]; exact hl, ?_⟩
          refine simg_namesF is env1 h2 hz _ fun σ' u envN rz => ?_
          refine ha as1 H1 σ' δ1 μ1 s1 envN _ ((want_toS (R := Rel c) envN w1).imp ?_)
          rintro y H2 ⟨as2, μ2, dy, e2, s2, ry, w2⟩
          have env2 := envN.mono e2
          split at w2
          · rename_i k n fs hx
            obtain ⟨p2, dd, vs, rfl, rfl, hk, hp, h3, h4⟩ := insAt_of s2 ry hx
            split at w2
            · rename_i hf
              have rz2 := rz.mono e2
              have ee := ext_set (o := .ins (c.cl n) dd (putF f u vs)) s2 hk hp
              refine ⟨p2, _, dd, vs, rfl, h3, hok.cls n f hf.1, hok.no n f hf.1, by rw [h4.len]; exact hf.2, rfl, ?_⟩
              have q := (h4.putG (f := f) rz2).mono ee
              rw [putG_V] at q
              exact w2 σ' as2 _ ee (s2.set (y := .ins n (putG f z fs)) hk hp ⟨dd, _, upd_same, q⟩) (env2.mono ee)
            · exact w2.elim
          · exact w2.elim
      · exact w1.elim
    · exact w1.elim
  · exact w1.elim
/-! ### what is never come to -/
def msStuck : MS := fun _ _ => .stuck
theorem sims_never : SimS c W tNever msStuck := fun _ _ _ _ _ _ _ _ w => w.elim
/-! ### the first place of a text in a list -/
def fLIndex : Dat → FA := fun x es μ => match lstAt μ x, es with
  | some ds, [.str z] => match strsD ds with
    | some ys => match firstAt ys z with
      | some j => .ok (.int (j : Nat)) μ
      | none => .stuck
    | none => .stuck
  | _, _ => .stuck
theorem simb_lindex : SimBM c (rIndex c.K) fLIndex := by
  intro as H μ v x vs ds st rx rs σ W Q h
  unfold fLIndex at h
  split at h
  · rename_i es z he
    split at h
    · rename_i ys hy
      split at h
      · rename_i j hj
        obtain ⟨u, rfl, ru⟩ := rel1 rs
        cases ru
        obtain ⟨p, xs, rfl, h1, h2⟩ := lstAt_of st rx he
        have q := strsD_of hy h2
        subst q
        obtain ⟨q1, q2⟩ := firstAt_some hj
        refine ⟨p, _, .str z, j, .str z, rfl, rfl, h1, rfl, ?_, ?_, beq_self_eq_true z, ?_, h _ as H .refl st (.int _)⟩
        · rw [List.all_map]
          exact List.all_eq_true.mpr fun _ _ => rfl
        · rw [List.getElem?_map, q1]
          rfl
        · intro m z' hm hz'
          rw [List.getElem?_map] at hz'
          cases hq : ys[m]? with
          | none => rw [hq] at hz'; cases hz'
          | some s =>
            rw [hq] at hz'
            cases hz'
            refine beq_eq_false_iff_ne.mpr fun e => ?_
            exact q2 m hm (by rw [hq, e])
      · exact h.elim
    · exact h.elim
  · exact h.elim
/-! ### range(lo, hi, step), of any step -/
def srcDS (i k : Int) (n : Nat) : Src := ⟨n, fun j _ => some (.int (i + (j : Nat) * k)), fun _ => true⟩
def miRange3S (a : M (List Dat)) : M Src := fun δ μ => (a δ μ).bind fun ds μ1 => match ds with
  | [.int i, .int j, .int k] => if k ≠ 0 ∧ k.natAbs < 1073741824 ∧ Builtin.Range.small i j k = true ∧ 0 ≤ Builtin.Range.rangeSize i j k then .ok (srcDS i k (Builtin.Range.rangeSize i j k).toNat) μ1 else .stuck
  | _ => .stuck
theorem simi_range3S {t : TA} {a : M (List Dat)} (h : SimA c W t a) : SimI c W (iRng3 t) (miRange3S a) := by
  intro as H σ δ μ st env Q w
  refine h as H σ δ μ st env _ ((want_bind (R1 := RelAll c) w).imp ?_)
  rintro vs H1 ⟨as1, μ1, ds, e, s1, rs, w1⟩
  split at w1
  · split at w1
    · rename_i i j k hz
      obtain ⟨h1, h2, h3, h4⟩ := hz
      obtain ⟨u, v, z, rfl, r1, r2, r3⟩ := rel3 rs
      cases r1
      cases r2
      cases r3
      refine ⟨i, j, k, _, rfl, ⟨h1, h2, h3, (Int.toNat_of_nonneg h4).symm⟩, w1 _ as1 H1 .refl s1 fun as' H' μ' e' st' => ⟨fun m d hm hg => ⟨hm, fun x H2 y => ?_⟩, fun _ => Nat.le_refl _⟩⟩
      obtain ⟨rfl, rfl⟩ := y
      have hg' : some (Dat.int (i + (m : Nat) * k)) = some d := hg
      cases hg'
      exact ⟨.refl, st', .int _⟩
    · exact w1.elim
  · exact w1.elim
end
end Nh

namespace Nh
open PySem PySem.Spec PyProof.Rows L2
section
variable {c : Cfg} {as : List Addr} {H : Hp}
/-! ### sum of a list of numbers -/
def fSum : FA := fun ds μ => match ds with
  | [d] => match (lstAt μ d).bind intsD with
    | some is => .ok (.int is.sum) μ
    | none => .stuck
  | _ => .stuck
theorem simc_sum : SimC c (rSum c.K) fSum := by
  intro as H μ vs ds st rs σ W Q h
  unfold fSum at h
  split at h
  · rename_i d
    split at h
    · rename_i bs hb
      obtain ⟨v, rfl, r⟩ := rel1 rs
      cases hd : lstAt μ d with
      | none => rw [hd] at hb; cases hb
      | some es =>
        rw [hd] at hb
        obtain ⟨a, xs, rfl, h1, h2⟩ := lstAt_of st r hd
        have e := intsD_of hb h2
        subst e
        exact ⟨a, bs, rfl, h1, h _ as H .refl st (.int _)⟩
    · exact h.elim
  · exact h.elim
end
end Nh

namespace Nh
open PySem PySem.Spec PyProof.Rows L2
section
variable {c : Cfg} {W : WX} {X : Cx} {P : Program} {w : World}
/-! ### a def that raises, called where nothing may be let out: a raise counts as no answer -/
theorem passN {X : Cx} {P : Program} {w : World} : Passes (L2.CX P w) X L2.E0 := by
  rintro _ _ _ _ _ _ _ ⟨_, _, _, _, _, _, _, _, _, _, _, _, z⟩
  exact z.elim
theorem sim_callN0 {n : Nat} {f : FA} {t : TA} {a : M (List Dat)} (h : SimA c W t a) : SimE c W (tCall (spM c n f) [] E0 t) (mCall n (nr f) a) := by
  intro as H σ δ μ st env Q w
  refine h as H σ δ μ st env _ ((want_bind (R1 := RelAll c) w).imp ?_)
  rintro vs H1 ⟨as1, μ1, ds, e, s1, rs, w1⟩
  split at w1
  · rename_i hl
    rw [List.append_nil]
    refine ⟨by rw [rs.length]; exact hl, as1, μ1, ds, s1, rs, ?_⟩
    change Want c (Rel c) (match f ds μ1 with | .raise _ _ => .stuck | r => r) _ _ _ _ _ at w1
    cases hf : f ds μ1 with
    | ok x μ' => rw [hf] at w1; exact w1
    | raise k μ' => rw [hf] at w1; exact w1.elim
    | stuck => rw [hf] at w1; exact w1.elim
  · exact w1.elim
end
end Nh

namespace Nh
open PySem PySem.Spec PyProof.Rows L2
def tab : Tab := ⟨fun n m => match n, m with
  | 7, 6 => some false
  | 7, 3 => some false
  | 7, 8 => some false
  | 7, 1 => some false
  | 7, 2 => some false
  | 7, 5 => some false
  | 7, 7 => some true
  | 7, 4 => some false
  | 7, 0 => some true
  | _, _ => none, fun n t => match n with
  | 7 => if t = "ValueError" then some true else none
  | _ => none, fun _ _ => none⟩
def fldT : FldT := fun n f => match n with
  | 9 => decide (f = "_row") || decide (f = "_taken") || decide (f = "_under_way")
  | _ => false
def b_is_whole : MS := msRet (mAnd (mCB (fIsA tab) (maCons (mVar 0) (maCons (mC (.ty "int")) maNil))) (mNot (mCB (fIsA tab) (maCons (mVar 0) (maCons (mC (.ty "bool")) maNil)))))
def f_is_whole : FA := nr (runB 1 b_is_whole)
def b_within : MS := msRet (mAnd (mCall 1 f_is_whole (maCons (mVar 0) maNil)) (mChain fLe fLe (mVar 1) (mVar 0) (mVar 2)))
def f_within : FA := nr (runB 3 b_within)
def b__is_road : MS := msSeq (msIf (mtOr (mtNot (asB (mCB (fIsA tab) (maCons (mVar 0) (maCons (mC (.ty "list")) maNil))))) (asB (mOp fGt (mCB fLenQ (maCons (mVar 0) maNil)) (mC (.int 200))))) (msRet (mC (.bl false))) msNext)
  (msRet (mCB fAll (maCons (mLc (miList (mVar 0)) (mgName 1) mYes (mCall 3 f_within (maCons (mVar 1) (maCons (mC (.int 0)) (maCons (mC (.int 19)) maNil)))) [1]) maNil)))
def f__is_road : FA := nr (runB 2 b__is_road)
def b_Road___init__ : MS := msSeq (msIf (mtNot (asB (mCall 1 f__is_road (maCons (mVar 1) maNil)))) (msRaise 7) msNext)
  (msSeq (msFld fldT "_row" (mVar 0) (mCB fListOf (maCons (mVar 1) maNil)))
  (msSeq (msFld fldT "_taken" (mVar 0) (mC (.int 0)))
  (msFld fldT "_under_way" (mVar 0) (mLst maNil))))
def f_Road___init__ : FA := runB 2 b_Road___init__
def b_Road__next_number : MS := msSeq (msIf (mtNot (mTru (mFld fldT "_row" (mVar 0)))) (msRet (mC (.int 0))) msNext)
  (msSeq (msAsg (mOp fIxL (mFld fldT "_row" (mVar 0)) (mFld fldT "_taken" (mVar 0))) (mgName 1))
  (msSeq (msFld fldT "_taken" (mVar 0) (mOp fMod (mOp fAdd (mFld fldT "_taken" (mVar 0)) (mC (.int 1))) (mCB fLenQ (maCons (mFld fldT "_row" (mVar 0)) maNil))))
  (msRet (mVar 1))))
def f_Road__next_number : FA := nr (runB 2 b_Road__next_number)
def b__delays : MS := msSeq (msIf (asB (mOp fLt (mVar 0) (mC (.int 10)))) (msRet (mLst (maCons (mVar 0) maNil))) msNext)
  (msSeq (msIf (asB (mOp fEq (mVar 0) (mC (.int 10)))) (msRet (mLst maNil)) msNext)
  (msRet (mLst (maCons (mC (.int 0)) (maCons (mOp fSub (mVar 0) (mC (.int 10))) maNil)))))
def f__delays : FA := nr (runB 1 b__delays)
def b_Road_send : MS := msFor (miList (mCall 1 f__delays (maCons (mMeth 9 "_next_number" 1 f_Road__next_number (mVar 0) maNil) maNil))) (mgName 3) (msDrop (mBM fAppend (mFld fldT "_under_way" (mVar 0)) (maCons (mTup (maCons (mOp fAdd (mOp fAdd (mVar 2) (mC (.int 1))) (mVar 3)) (maCons (mVar 1) maNil))) maNil)))
def f_Road_send : FA := nr (runB 4 b_Road_send)
def b_Road_due : MS := msSeq (msAsg (mLc (miList (mFld fldT "_under_way" (mVar 0))) (mgTup [3, 4]) (asB (mOp fEq (mVar 3) (mVar 1))) (mVar 4) [3, 4]) (mgName 2))
  (msSeq (msFld fldT "_under_way" (mVar 0) (mLc (miList (mFld fldT "_under_way" (mVar 0))) (mgName 5) (asB (mOp fNe (mOp fIxT (mVar 5) (mC (.int 0))) (mVar 1))) (mVar 5) [5]))
  (msRet (mVar 2)))
def f_Road_due : FA := nr (runB 6 b_Road_due)
def b_Road_many : MS := msRet (mCB fLenQ (maCons (mFld fldT "_under_way" (mVar 0)) maNil))
def f_Road_many : FA := nr (runB 1 b_Road_many)
def b__law_draw : MS := msRet (mIf (asB (mOp fGt (mCB fLenQ (maCons (mVar 0) maNil)) (mVar 1))) (mOp fIxL (mVar 0) (mVar 1)) (mC (.int 0)))
def f__law_draw : FA := nr (runB 2 b__law_draw)
def b__law_spread : MS := msRet (mOp fMod (mOp fMul (mOp fAdd (mVar 0) (mC (.int 3))) (mOp fAdd (mOp fAdd (mC (.int 48271)) (mOp fMul (mOp fMul (mC (.int 2)) (mVar 1)) (mVar 1))) (mVar 1))) (mC (.int 2147483647)))
def f__law_spread : FA := nr (runB 2 b__law_spread)
def b__law_alone : MS := msSeq (msIf (mtOr (asB (mOp fIsN (mVar 0) (mC .non))) (mtNot (asB (mCB (fIsA tab) (maCons (mVar 0) (maCons (mC (.ty "ValueError")) maNil)))))) (msRet (mAnd (mOp fEq (mVar 1) (mC (.str "none"))) (mOp fIsN (mVar 0) (mC .non)))) msNext)
  (msSeq (msAsg (mOp fAddS (mOp fMulS (mC (.str "name ")) (mCB fInt1 (maCons (mCB (fIsA tab) (maCons (mVar 0) (maCons (mC (.cls 1)) maNil))) maNil))) (mOp fMulS (mC (.str "record ")) (mCB fInt1 (maCons (mCB (fIsA tab) (maCons (mVar 0) (maCons (mC (.cls 2)) maNil))) maNil)))) (mgName 2))
  (msSeq (msAsg (mOp fAddS (mOp fAddS (mVar 2) (mOp fMulS (mC (.str "turn ")) (mCB fInt1 (maCons (mCB (fIsA tab) (maCons (mVar 0) (maCons (mC (.cls 7)) maNil))) maNil)))) (mOp fMulS (mC (.str "zone ")) (mCB fInt1 (maCons (mCB (fIsA tab) (maCons (mVar 0) (maCons (mC (.cls 4)) maNil))) maNil)))) (mgName 2))
  (msSeq (msAsg (mOp fAddS (mVar 2) (mOp fMulS (mC (.str "change ")) (mCB fInt1 (maCons (mCB (fIsA tab) (maCons (mVar 0) (maCons (mC (.cls 6)) maNil))) maNil)))) (mgName 2))
  (msRet (mOp fEq (mOp fAddS (mVar 2) (mOp fMulS (mC (.str "other ")) (mCB fInt1 (maCons (mCB (fIsA tab) (maCons (mVar 0) (maCons (mTup (maCons (mC (.cls 3)) (maCons (mC (.cls 5)) (maCons (mC (.cls 8)) maNil)))) maNil))) maNil)))) (mVar 1))))))
def f__law_alone : FA := nr (runB 3 b__law_alone)
def b__law_row : MS := msSeq (msAsg (mCall 2 f__law_spread (maCons (mCall 2 f__law_draw (maCons (mVar 0) (maCons (mC (.int 0)) maNil))) (maCons (mC (.int 2)) maNil))) (mgName 1))
  (msSeq (msAsg (mOp fMod (mVar 1) (mC (.int 5))) (mgName 2))
  (msSeq (msAsg (mLst maNil) (mgName 3))
  (msSeq (msFor (miRange1 (maCons (mOp fMod (mOp fDiv (mVar 1) (mC (.int 5))) (mC (.int 21))) maNil)) (mgName 4) (msSeq (msAsg (mCall 2 f__law_spread (maCons (mCall 2 f__law_draw (maCons (mVar 0) (maCons (mOp fAdd (mC (.int 1)) (mOp fMod (mVar 4) (mC (.int 2)))) maNil))) (maCons (mVar 4) maNil))) (mgName 5))
  (msDrop (mBM fAppend (mVar 3) (maCons (mOp fIxL (mLst (maCons (mOp fMod (mVar 5) (mC (.int 20))) (maCons (mOp fMod (mVar 5) (mC (.int 10))) (maCons (mOp fIxL (mLst (maCons (mC (.int 0)) (maCons (mC (.int 10)) maNil))) (mOp fMod (mVar 5) (mC (.int 2)))) (maCons (mOp fAdd (mC (.int 10)) (mOp fMod (mVar 5) (mC (.int 10)))) (maCons (mOp fIxL (mLst (maCons (mC (.int 0)) (maCons (mC (.int 0)) (maCons (mC (.int 0)) (maCons (mC (.int 3)) (maCons (mC (.int 11)) (maCons (mC (.int 19)) maNil))))))) (mOp fMod (mVar 5) (mC (.int 6)))) maNil)))))) (mVar 2)) maNil)))))
  (msRet (mVar 3)))))
def f__law_row : FA := nr (runB 6 b__law_row)
def b__law_sent : MS := msSeq (msAsg (mIf (asB (mOp fNeD (mVar 1) (mLst maNil))) (mOp fIxL (mVar 1) (mOp fMod (mVar 2) (mCB fLenQ (maCons (mVar 1) maNil)))) (mC (.int 0))) (mgName 5))
  (msSeq (msIf (asB (mOp fEq (mVar 5) (mC (.int 10)))) (msRet (mVar 0)) msNext)
  (msSeq (msIf (asB (mOp fLt (mVar 5) (mC (.int 10)))) (msRet (mOp fCat (mVar 0) (mLst (maCons (mTup (maCons (mOp fAdd (mOp fAdd (mVar 4) (mC (.int 1))) (mVar 5)) (maCons (mVar 3) maNil))) maNil)))) msNext)
  (msRet (mOp fCat (mVar 0) (mLst (maCons (mTup (maCons (mOp fAdd (mVar 4) (mC (.int 1))) (maCons (mVar 3) maNil))) (maCons (mTup (maCons (mOp fSub (mOp fAdd (mOp fAdd (mVar 4) (mC (.int 1))) (mVar 5)) (mC (.int 10))) (maCons (mVar 3) maNil))) maNil)))))))
def f__law_sent : FA := nr (runB 6 b__law_sent)
def b__law_refused : MS := msSeq (msAsg (mC .non) (mgName 1))
  (msSeq (msTry tab 0 2 1 (msDrop (mMake 9 2 f_Road___init__ (maCons (mOp fIxL (mLst (maCons (mC .non) (maCons (mTup (maCons (mC (.int 0)) (maCons (mC (.int 1)) maNil))) (maCons (mC (.str "01")) (maCons (mLst (maCons (mC (.int 20)) maNil)) (maCons (mLst (maCons (mUn fNeg (mC (.int 1))) maNil)) (maCons (mLst (maCons (mC (.bl true)) maNil)) (maCons (mOp fRepL (mLst (maCons (mC (.int 0)) maNil)) (mC (.int 201))) (maCons (mLst (maCons (mC (.str "0")) maNil)) (maCons (mC (.int 5)) maNil)))))))))) (mOp fMod (mVar 0) (mC (.int 9)))) maNil))))
  (msRet (mCall 2 f__law_alone (maCons (mVar 1) (maCons (mC (.str "turn ")) maNil)))))
def f__law_refused : FA := nr (runB 3 b__law_refused)
def b_law : MS := msSeq (msAsg (mCall 1 f__law_row (maCons (mVar 0) maNil)) (mgName 1))
  (msSeq (msAsg (mCB fListOf (maCons (mVar 1) maNil)) (mgName 2))
  (msSeq (msAsg (mMake 9 2 f_Road___init__ (maCons (mVar 2) maNil)) (mgName 3))
  (msSeq (msDrop (mBM fAppend (mVar 2) (maCons (mC (.int 5)) maNil)))
  (msSeq (msAsg (mLst maNil) (mgName 4))
  (msSeq (msAsg (mC (.int 0)) (mgName 5))
  (msSeq (msAsg (mOp fMod (mCall 2 f__law_draw (maCons (mVar 0) (maCons (mC (.int 2)) maNil))) (mOp fPow (mC (.int 10)) (mC (.int 9)))) (mgName 6))
  (msSeq (msFor (miRange1 (maCons (mCB fMax2 (maCons (mC (.int 0)) (maCons (mOp fSub (mCB fLenQ (maCons (mVar 0) maNil)) (mC (.int 3))) maNil))) maNil)) (mgName 7) (msSeq (msAsg (mCall 2 f__law_spread (maCons (mOp fIxL (mVar 0) (mOp fAdd (mC (.int 3)) (mVar 7))) (maCons (mVar 7) maNil))) (mgName 8))
  (msSeq (msFor (miRange1 (maCons (mIf (asB (mOp fLt (mVar 5) (mC (.int 60)))) (mOp fIxL (mLst (maCons (mC (.int 0)) (maCons (mC (.int 1)) (maCons (mC (.int 1)) (maCons (mC (.int 2)) (maCons (mC (.int 6)) maNil)))))) (mOp fMod (mVar 8) (mC (.int 5)))) (mC (.int 0))) maNil)) (mgName 9) (msSeq (msAsg (mOp fIxL (mLst (maCons (mTup (maCons (mC (.str "letter")) (maCons (mVar 5) maNil))) (maCons (mC (.str "same")) (maCons (mC .non) (maCons (mTup (maCons (mOp fDiv (mVar 5) (mC (.int 2))) (maCons (mC (.str "x")) maNil))) maNil))))) (mOp fMod (mOp fDiv (mVar 8) (mOp fAdd (mC (.int 5)) (mVar 9))) (mC (.int 4)))) (mgName 10))
  (msSeq (msIf (asB (mOp fNotN (mMeth 9 "send" 3 f_Road_send (mVar 3) (maCons (mVar 10) (maCons (mVar 6) maNil))) (mC .non))) (msRet (mC (.bl false))) msNext)
  (msSeq (msAsg (mCall 5 f__law_sent (maCons (mVar 4) (maCons (mVar 1) (maCons (mVar 5) (maCons (mVar 10) (maCons (mVar 6) maNil)))))) (mgName 4))
  (msAsg (mOp fAdd (mVar 5) (mC (.int 1))) (mgName 5))))))
  (msSeq (msIf (mtOr (mtNot (asB (mCall 1 f__law_refused (maCons (mOp fDiv (mVar 8) (mC (.int 21))) maNil)))) (asB (mOp fNe (mMeth 9 "many" 1 f_Road_many (mVar 3) maNil) (mCB fLenQ (maCons (mVar 4) maNil))))) (msRet (mC (.bl false))) msNext)
  (msSeq (msAsg (mOp fAdd (mOp fAdd (mVar 6) (mC (.int 1))) (mOp fDiv (mOp fMod (mOp fDiv (mVar 8) (mC (.int 200))) (mC (.int 7))) (mC (.int 6)))) (mgName 6))
  (msFor (miRange1 (maCons (mOp fAdd (mC (.int 1)) (mOp fMod (mOp fDiv (mVar 8) (mC (.int 100))) (mC (.int 2)))) maNil)) (mgName 11) (msSeq (msAsg (mMeth 9 "due" 2 f_Road_due (mVar 3) (maCons (mVar 6) maNil)) (mgName 12))
  (msSeq (msAsg (mLc (miList (mVar 4)) (mgTup [15, 10]) (asB (mOp fEq (mVar 15) (mVar 6))) (mVar 10) [15, 10]) (mgName 13))
  (msSeq (msAsg (mLc (miList (mVar 4)) (mgName 14) (asB (mOp fNe (mOp fIxT (mVar 14) (mC (.int 0))) (mVar 6))) (mVar 14) [14]) (mgName 4))
  (msSeq (msIf (mtOr (mtNot (asB (mCB (fIsA tab) (maCons (mVar 12) (maCons (mC (.ty "list")) maNil))))) (mtOr (asB (mOp fNeD (mVar 12) (mVar 13))) (asB (mOp fNe (mMeth 9 "many" 1 f_Road_many (mVar 3) maNil) (mCB fLenQ (maCons (mVar 4) maNil)))))) (msRet (mC (.bl false))) msNext)
  (msDrop (mBM fAppend (mVar 12) (maCons (mC (.str "more")) maNil)))))))))))))
  (msSeq (msFor (miRange1 (maCons (mC (.int 22)) maNil)) (mgName 9) (msSeq (msAsg (mOp fAdd (mVar 6) (mC (.int 1))) (mgName 6))
  (msSeq (msIf (asB (mOp fNeD (mMeth 9 "due" 2 f_Road_due (mVar 3) (maCons (mVar 6) maNil)) (mLc (miList (mVar 4)) (mgTup [15, 10]) (asB (mOp fEq (mVar 15) (mVar 6))) (mVar 10) [15, 10]))) (msRet (mC (.bl false))) msNext)
  (msAsg (mLc (miList (mVar 4)) (mgName 14) (asB (mOp fNe (mOp fIxT (mVar 14) (mC (.int 0))) (mVar 6))) (mVar 14) [14]) (mgName 4)))))
  (msRet (mAnd (mOp fEq (mMeth 9 "many" 1 f_Road_many (mVar 3) maNil) (mCB fLenQ (maCons (mVar 4) maNil))) (mNot (mCB (fIsA tab) (maCons (mMeth 9 "many" 1 f_Road_many (mVar 3) maNil) (maCons (mC (.ty "bool")) maNil))))))))))))))
def f_law : FA := runB 16 b_law
end Nh
namespace Nh
open PySem PySem.Spec PyProof.Rows L2
/-! ### what a mirror gives, by what is wanted -/
def wp {α : Type} (r : Res α) (Q : α → Store → Prop) (R : Nat → Store → Prop := fun _ _ => False) : Prop := match r with
  | .ok x μ => Q x μ
  | .raise n μ => R n μ
  | .stuck => False
structure Ps where
  nx : Env → Store → Prop
  rt : Dat → Store → Prop
  bk : Env → Store → Prop := fun _ _ => False
  ct : Env → Store → Prop := fun _ _ => False
  ra : Nat → Env → Store → Prop := fun _ _ _ => False
def wps (r : SRes) (P : Ps) : Prop := match r with
  | .nx δ μ => P.nx δ μ
  | .rt d μ => P.rt d μ
  | .bk δ μ => P.bk δ μ
  | .ct δ μ => P.ct δ μ
  | .raise n δ μ => P.ra n δ μ
  | .stuck => False
section
variable {α β : Type} {Q Q' : α → Store → Prop} {R R' : Nat → Store → Prop} {P P' : Ps} {δ : Env} {μ : Store}
theorem wp_mono {r : Res α} (h : wp r Q R) (hq : ∀ x μ, Q x μ → Q' x μ) (hr : ∀ n μ, R n μ → R' n μ) : wp r Q' R' := by
  cases r with
  | ok x μ => exact hq _ _ h
  | raise n μ => exact hr _ _ h
  | stuck => exact h
theorem wp_imp {r : Res α} (h : wp r Q) (hq : ∀ x μ, Q x μ → Q' x μ) : wp r Q' R' := wp_mono h hq fun _ _ z => z.elim
theorem wp_bind {r : Res α} {f : α → Store → Res β} {Q : β → Store → Prop} : wp (r.bind f) Q R ↔ wp r (fun x μ => wp (f x μ) Q R) R := by
  cases r <;> rfl
theorem wp_ok {x : α} : wp (.ok x μ) Q R ↔ Q x μ := Iff.rfl
theorem wp_nrR {r : Res α} : wp (nrR r) Q R ↔ wp r Q := by cases r <;> rfl
theorem wps_toS {r : Res α} {f : α → Store → SRes} : wps (r.toS δ f) P ↔ wp r (fun x μ => wps (f x μ) P) (fun n μ => P.ra n δ μ) := by
  cases r <;> rfl
theorem wps_nx : wps (.nx δ μ) P ↔ P.nx δ μ := Iff.rfl
theorem wps_rt {d : Dat} : wps (.rt d μ) P ↔ P.rt d μ := Iff.rfl
theorem wps_seq {a b : MS} : wps (msSeq a b δ μ) P ↔ wps (a δ μ) { P with nx := fun δ μ => wps (b δ μ) P } := by
  unfold msSeq
  cases a δ μ <;> rfl
theorem wps_mono {r : SRes} (h : wps r P) (h1 : ∀ δ μ, P.nx δ μ → P'.nx δ μ) (h2 : ∀ d μ, P.rt d μ → P'.rt d μ) (h3 : ∀ δ μ, P.bk δ μ → P'.bk δ μ) (h4 : ∀ δ μ, P.ct δ μ → P'.ct δ μ) (h5 : ∀ n δ μ, P.ra n δ μ → P'.ra n δ μ) : wps r P' := by
  cases r with
  | nx δ μ => exact h1 _ _ h
  | rt d μ => exact h2 _ _ h
  | bk δ μ => exact h3 _ _ h
  | ct δ μ => exact h4 _ _ h
  | raise n δ μ => exact h5 _ _ _ h
  | stuck => exact h
theorem wp_run {N : Nat} {b : MS} {ds : List Dat} {Q : Dat → Store → Prop} : wp (runB N b ds μ) Q R ↔ wps (b (startD N ds) μ) { nx := fun _ μ => Q .non μ, rt := Q, ra := fun n _ μ => R n μ } := by
  unfold runB
  cases b (startD N ds) μ <;> rfl
theorem wp_nr {f : FA} {ds : List Dat} {Q : Dat → Store → Prop} (h : wp (f ds μ) Q) : wp (nr f ds μ) Q R := by
  unfold nr
  cases hf : f ds μ with
  | ok x μ' => rw [hf] at h; exact h
  | raise n μ' => rw [hf] at h; exact h.elim
  | stuck => rw [hf] at h; exact h
theorem wps_if {q : M Bool} {a b : MS} : wps (msIf q a b δ μ) P ↔ wp (q δ μ) (fun k μ1 => if k = true then wps (a δ μ1) P else wps (b δ μ1) P) (fun n μ => P.ra n δ μ) := by
  unfold msIf
  rw [wps_toS]
  constructor
  · intro h
    refine wp_mono h (fun k μ1 z => ?_) fun _ _ z => z
    cases k <;> exact z
  · intro h
    refine wp_mono h (fun k μ1 z => ?_) fun _ _ z => z
    cases k <;> exact z
theorem wp_if {q : M Bool} {a b : M α} : wp (mIf q a b δ μ) Q R ↔ wp (q δ μ) (fun k μ1 => if k = true then wp (a δ μ1) Q R else wp (b δ μ1) Q R) R := by
  unfold mIf
  rw [wp_bind]
  constructor
  · intro h
    refine wp_mono h (fun k μ1 z => ?_) fun _ _ z => z
    cases k <;> exact z
  · intro h
    refine wp_mono h (fun k μ1 z => ?_) fun _ _ z => z
    cases k <;> exact z
theorem wp_tAnd {a b : M Bool} {Q : Bool → Store → Prop} : wp (mtAnd a b δ μ) Q R ↔ wp (a δ μ) (fun k μ1 => if k = true then wp (b δ μ1) Q R else Q false μ1) R := by
  unfold mtAnd
  rw [wp_bind]
  constructor <;>
  · intro h
    refine wp_mono h (fun k μ1 z => ?_) fun _ _ z => z
    cases k <;> exact z
theorem wp_tOr {a b : M Bool} {Q : Bool → Store → Prop} : wp (mtOr a b δ μ) Q R ↔ wp (a δ μ) (fun k μ1 => if k = true then Q true μ1 else wp (b δ μ1) Q R) R := by
  unfold mtOr
  rw [wp_bind]
  constructor <;>
  · intro h
    refine wp_mono h (fun k μ1 z => ?_) fun _ _ z => z
    cases k <;> exact z
theorem wp_tNot {a : M Bool} {Q : Bool → Store → Prop} : wp (mtNot a δ μ) Q R ↔ wp (a δ μ) (fun k μ1 => Q (!k) μ1) R := by
  unfold mtNot
  rw [wp_bind]
  rfl
end

/-! ### comprehensions over what stands still -/
theorem getElem?_mid {μ g : Store} {x : Cell} : (μ ++ (x :: g))[μ.length]? = some x := by simp
theorem set_mid {μ g : Store} {x y : Cell} : (μ ++ (x :: g)).set μ.length y = μ ++ (y :: g) := by simp
theorem lcLoop_map {s : Src} {mg : MG} {mt : M Bool} {me : M Dat} {δ0 : Env} {μ : Store} {items : List Dat} {p : Dat → Bool} {f : Dat → Dat} (hn : s.n = items.length) (hget : ∀ i μ', s.get i μ' = items[i]?) (hfin : ∀ μ', s.fin μ' = true) (hlen : items.length < sizeLine)
    (step : ∀ (i : Nat) (d : Dat) (g : Store) (acc : List Dat), items[i]? = some d → ∃ δ1, mg d δ0 = some δ1 ∧ wp (mt δ1 (μ ++ (.lst acc :: g))) fun b μ3 => b = p d ∧ ∃ g1, μ3 = μ ++ (.lst acc :: g1) ∧
      (b = true → wp (me δ1 μ3) fun y μ4 => y = f d ∧ ∃ g2, μ4 = μ ++ (.lst acc :: g2))) :
    ∀ (r i : Nat) (acc : List Dat) (g : Store), i + r = items.length → acc.length ≤ i → ∃ g', lcLoop s mg mt me δ0 μ.length r i (μ ++ (.lst acc :: g)) = .ok () (μ ++ (.lst (acc ++ ((items.drop i).filter p).map f) :: g')) := by
  intro r
  induction r with
  | zero =>
    intro i acc g hi ha
    refine ⟨g, ?_⟩
    unfold lcLoop
    rw [if_pos (hfin _), List.drop_eq_nil_of_le (by omega), List.filter_nil, List.map_nil, List.append_nil]
  | succ r ih =>
    intro i acc g hi ha
    have hlt : i < items.length := by omega
    obtain ⟨δ1, h1, h2⟩ := step i items[i] g acc (List.getElem?_eq_getElem hlt)
    unfold lcLoop
    rw [hget, List.getElem?_eq_getElem hlt, Option.bind_some, h1]
    dsimp only
    have hd : items.drop i = items[i] :: items.drop (i + 1) := List.drop_eq_getElem_cons hlt
    cases hm : mt δ1 (μ ++ (.lst acc :: g)) with
    | ok b μ3 =>
      rw [hm] at h2
      obtain ⟨rfl, g1, rfl, h3⟩ := h2
      show ∃ g', (if p items[i] = true then _ else _) = _
      rw [hd, List.filter_cons]
      by_cases hp : p items[i] = true
      · rw [if_pos hp, if_pos hp]
        have h4 := h3 hp
        cases hme : me δ1 (μ ++ (.lst acc :: g1)) with
        | ok y μ4 =>
          rw [hme] at h4
          obtain ⟨rfl, g2, rfl⟩ := h4
          dsimp only [nrR, Res.bind]
          rw [getElem?_mid]
          dsimp only
          rw [if_pos (by omega), set_mid, List.map_cons]
          obtain ⟨g', e⟩ := ih (i + 1) (acc ++ [f items[i]]) g2 (by omega) (by simp; omega)
          exact ⟨g', by rw [e]; simp⟩
        | raise n μ4 => rw [hme] at h4; exact h4.elim
        | stuck => rw [hme] at h4; exact h4.elim
      · rw [if_neg hp, if_neg hp]
        exact ih (i + 1) acc g1 (by omega) (by omega)
    | raise n μ3 => rw [hm] at h2; exact h2.elim
    | stuck => rw [hm] at h2; exact h2.elim
theorem wp_lc_map {src : M Src} {s : Src} {mg : MG} {mt : M Bool} {me : M Dat} {vs : List Nat} {δ : Env} {μ : Store} {Q : Dat → Store → Prop} {R : Nat → Store → Prop} (items : List Dat) (p : Dat → Bool) (f : Dat → Dat) (hsrc : src δ μ = .ok s μ)
    (hn : s.n = items.length) (hget : ∀ i μ', s.get i μ' = items[i]?) (hfin : ∀ μ', s.fin μ' = true) (hlen : items.length < sizeLine)
    (step : ∀ (i : Nat) (d : Dat) (g : Store) (acc : List Dat), items[i]? = some d → ∃ δ1, mg d (wipeD δ vs) = some δ1 ∧ wp (mt δ1 (μ ++ (.lst acc :: g))) fun b μ3 => b = p d ∧ ∃ g1, μ3 = μ ++ (.lst acc :: g1) ∧
      (b = true → wp (me δ1 μ3) fun y μ4 => y = f d ∧ ∃ g2, μ4 = μ ++ (.lst acc :: g2)))
    (h : ∀ g, Q (.cell μ.length) (μ ++ (.lst ((items.filter p).map f) :: g))) : wp (mLc src mg mt me vs δ μ) Q R := by
  unfold mLc
  rw [hsrc]
  obtain ⟨g', e⟩ := lcLoop_map hn hget hfin hlen step s.n 0 [] [] (by omega) (Nat.zero_le _)
  show wp ((lcLoop s mg mt me (wipeD δ vs) μ.length s.n 0 (μ ++ [.lst []])).bind _) Q R
  rw [e]
  exact h g'
theorem srcS_get (z : Str) (i : Nat) (μ : Store) : (srcS z).get i μ = (z.cps.toList.map fun q => Dat.str ⟨#[q]⟩)[i]? := by
  show (z.cps[i]?).map _ = _
  rw [List.getElem?_map, Array.getElem?_toList]
theorem filter_yes {α : Type} (l : List α) : l.filter (fun _ => true) = l := List.filter_eq_self.mpr fun _ _ => rfl
def rangeD (lo : Int) (n : Nat) : List Dat := (List.range n).map fun i => Dat.int (lo + (i : Nat))
/-! ### the primitives -/
section
variable {μ : Store} {δ : Env}
theorem isA_str (s : Str) : fIsA tab [.str s, .ty "str"] μ = .ok (.bl true) μ := rfl
theorem isA_non (t : String) (b : Bool) (h : kitB "NoneType" t = some b) : fIsA tab [.non, .ty t] μ = .ok (.bl b) μ := by
  show (match kitB "NoneType" t with | some b => Res.ok (Dat.bl b) μ | none => Res.stuck) = _
  rw [h]
theorem inSign_star (z : Str) : fInSign (.str "*") (.str z) μ = .ok (.bl (decide (42 ∈ z.cps.toList))) μ := rfl
theorem inSign_one (q : Nat) (z : Str) : fInSign (.str ⟨#[q]⟩) (.str z) μ = .ok (.bl (decide (q ∈ z.cps.toList))) μ := rfl
theorem notInSign_one (q : Nat) (z : Str) : fNotInSign (.str ⟨#[q]⟩) (.str z) μ = .ok (.bl (!decide (q ∈ z.cps.toList))) μ := rfl
theorem fLen_str {s : Str} (h : s.length ≤ sizeLine) : fLen [.str s] μ = .ok (.int (s.length : Int)) μ := by
  simp only [fLen, lenD, if_pos h]
theorem fEq_str (a b : Str) : fEq (.str a) (.str b) μ = .ok (.bl (decide (a = b))) μ := by
  simp only [fEq, toV, scal, V.str.injEq, if_true]
theorem fEq_int (a b : Int) : fEq (.int a) (.int b) μ = .ok (.bl (decide (a = b))) μ := by
  simp only [fEq, toV, scal, V.int.injEq, if_true]
theorem fLe_int (a b : Int) : fLe (.int a) (.int b) μ = .ok (.bl (decide (a ≤ b))) μ := rfl
theorem fLt_int (a b : Int) : fLt (.int a) (.int b) μ = .ok (.bl (decide (a < b))) μ := rfl
theorem fGt_int (a b : Int) : fGt (.int a) (.int b) μ = .ok (.bl (decide (b < a))) μ := rfl
theorem fAdd_int (a b : Int) : fAdd (.int a) (.int b) μ = .ok (.int (a + b)) μ := rfl
theorem fSub_int (a b : Int) : fSub (.int a) (.int b) μ = .ok (.int (a - b)) μ := rfl
theorem fMod_int {a b : Int} (h : 0 < b) : fMod (.int a) (.int b) μ = .ok (.int (a % b)) μ := by
  simp only [fMod, intOpC, if_pos h]
theorem fDiv_int {a b : Int} (h : 0 < b ∧ b < 1073741824) : fDiv (.int a) (.int b) μ = .ok (.int (a / b)) μ := by
  simp only [fDiv, intOpC]
  rw [if_pos (show CDiv a b from h)]
theorem fMul_int {a b : Int} (h : (-(2 ^ 64) < a ∧ a < 2 ^ 64) ∨ (-(2 ^ 64) < b ∧ b < 2 ^ 64)) : fMul (.int a) (.int b) μ = .ok (.int (a * b)) μ := by
  simp only [fMul, intOpC]
  rw [if_pos (show CMul a b from h)]
theorem fNeg_int (a : Int) : fNeg (.int a) μ = .ok (.int (-a)) μ := rfl
theorem fAddS_str {a b : Str} (h : a.length + b.length ≤ sizeLine) : fAddS (.str a) (.str b) μ = .ok (.str (a ++ b)) μ := by
  simp only [fAddS, if_pos h]
theorem blsD_map (bs : List Bool) : blsD (bs.map Dat.bl) = some bs := by
  induction bs with
  | nil => rfl
  | cons b r ih => rw [List.map_cons, blsD, ih]; rfl
theorem strsD_map (ss : List Str) : strsD (ss.map Dat.str) = some ss := by
  induction ss with
  | nil => rfl
  | cons b r ih => rw [List.map_cons, strsD, ih]; rfl
theorem fAll_mid {g : Store} {ds : List Dat} {bs : List Bool} (h : ds = bs.map Dat.bl) : fAll [.cell μ.length] (μ ++ (.lst ds :: g)) = .ok (.bl (bs.all id)) (μ ++ (.lst ds :: g)) := by
  subst h
  simp only [fAll, lstAt, getElem?_mid, Option.bind_some, blsD_map]
theorem fJoin_mid {g : Store} {ds : List Dat} {ss : List Str} (a : Str) (h : ds = ss.map Dat.str) (hz : (ss.map (·.length)).sum + ss.length * a.length ≤ 16777216) : fJoin (.str a) (.cell μ.length) (μ ++ (.lst ds :: g)) = .ok (.str (Txt.join a ss)) (μ ++ (.lst ds :: g)) := by
  subst h
  simp only [fJoin, seqD, lstAt, getElem?_mid, Option.bind_some, strsD_map, if_pos hz]
end
theorem sl16 : sizeLine = 16777216 := sizeLine_eq
theorem isA_k {μ : Store} {d : Dat} {k t : String} {b : Bool} (h : tyD μ d = some (.inl k)) (hb : kitB k t = some b) : fIsA tab [d, .ty t] μ = .ok (.bl b) μ := by
  simp only [fIsA, h, tabHas, oneD, hb, if_true]
theorem get_app {μ g : Store} {i : Nat} {x : Cell} (h : μ[i]? = some x) : (μ ++ g)[i]? = some x := by
  have hi := (List.getElem?_eq_some_iff.mp h).1
  rw [List.getElem?_append_left hi]
  exact h
/-! ### loops -/
theorem forLoop_inv {s : Src} {g : MG} {b : MS} {P : Ps} {items : List Dat} (hn : s.n = items.length) (hget : ∀ i μ, s.get i μ = items[i]?) (hfin : ∀ μ, s.fin μ = true) (I : Nat → Env → Store → Prop)
    (step : ∀ (i : Nat) (d : Dat) (δ : Env) (μ : Store), items[i]? = some d → I i δ μ → ∃ δ1, g d δ = some δ1 ∧ wps (b δ1 μ) { nx := I (i + 1), ct := I (i + 1), rt := P.rt, bk := P.nx, ra := P.ra }) (hd : ∀ δ μ, I items.length δ μ → P.nx δ μ) :
    ∀ (r i : Nat) (δ : Env) (μ : Store), i + r = items.length → I i δ μ → wps (forLoop s g b r i δ μ) P := by
  intro r
  induction r with
  | zero =>
    intro i δ μ hi h
    unfold forLoop
    rw [if_pos (hfin _)]
    have e : i = items.length := by omega
    subst e
    exact hd _ _ h
  | succ r ih =>
    intro i δ μ hi h
    have hlt : i < items.length := by omega
    obtain ⟨δ1, h1, h2⟩ := step i items[i] δ μ (List.getElem?_eq_getElem hlt) h
    unfold forLoop
    rw [hget, List.getElem?_eq_getElem hlt, Option.bind_some, h1]
    dsimp only
    cases hb : b δ1 μ with
    | nx δ' μ' => rw [hb] at h2; exact ih (i + 1) δ' μ' (by omega) h2
    | ct δ' μ' => rw [hb] at h2; exact ih (i + 1) δ' μ' (by omega) h2
    | bk δ' μ' => rw [hb] at h2; exact h2
    | rt d μ' => rw [hb] at h2; exact h2
    | raise n δ' μ' => rw [hb] at h2; exact h2
    | stuck => rw [hb] at h2; exact h2
theorem wps_for {src : M Src} {s : Src} {g : MG} {b : MS} {P : Ps} {δ : Env} {μ μ1 : Store} (items : List Dat) (I : Nat → Env → Store → Prop) (hsrc : src δ μ = .ok s μ1) (hn : s.n = items.length) (hget : ∀ i μ, s.get i μ = items[i]?) (hfin : ∀ μ, s.fin μ = true)
    (h0 : I 0 δ μ1) (step : ∀ (i : Nat) (d : Dat) (δ : Env) (μ : Store), items[i]? = some d → I i δ μ → ∃ δ1, g d δ = some δ1 ∧ wps (b δ1 μ) { nx := I (i + 1), ct := I (i + 1), rt := P.rt, bk := P.nx, ra := P.ra })
    (hd : ∀ δ μ, I items.length δ μ → P.nx δ μ) : wps (msFor src g b δ μ) P := by
  unfold msFor
  rw [hsrc]
  exact forLoop_inv hn hget hfin I step hd s.n 0 δ μ1 (by omega) h0
theorem lcLoop_inv {s : Src} {mg : MG} {me : M Dat} {δ0 : Env} {L : Nat} {items : List Dat} (hn : s.n = items.length) (hget : ∀ i μ', s.get i μ' = items[i]?) (hfin : ∀ μ', s.fin μ' = true) (hlen : items.length < sizeLine) (I : Nat → List Dat → Store → Prop)
    (step : ∀ (i : Nat) (d : Dat) (acc : List Dat) (μ : Store), items[i]? = some d → I i acc μ → acc.length = i → ∃ δ1, mg d δ0 = some δ1 ∧ wp (me δ1 μ) fun y μ4 => μ4[L]? = some (.lst acc) ∧ I (i + 1) (acc ++ [y]) (μ4.set L (.lst (acc ++ [y])))) :
    ∀ (r i : Nat) (acc : List Dat) (μ : Store), i + r = items.length → acc.length = i → I i acc μ → ∃ acc' μ', lcLoop s mg mYes me δ0 L r i μ = .ok () μ' ∧ acc'.length = items.length ∧ I items.length acc' μ' := by
  intro r
  induction r with
  | zero =>
    intro i acc μ hi ha h
    refine ⟨acc, μ, ?_, by omega, by rw [show items.length = i by omega]; exact h⟩
    unfold lcLoop
    rw [if_pos (hfin _)]
  | succ r ih =>
    intro i acc μ hi ha h
    have hlt : i < items.length := by omega
    obtain ⟨δ1, h1, h2⟩ := step i items[i] acc μ (List.getElem?_eq_getElem hlt) h ha
    unfold lcLoop
    rw [hget, List.getElem?_eq_getElem hlt, Option.bind_some, h1]
    dsimp only [mYes, nrR, Res.bind]
    rw [if_pos rfl]
    cases hme : me δ1 μ with
    | ok y μ4 =>
      rw [hme] at h2
      obtain ⟨h3, h4⟩ := h2
      dsimp only [nrR, Res.bind]
      rw [h3]
      dsimp only
      rw [if_pos (by omega)]
      exact ih (i + 1) (acc ++ [y]) _ (by omega) (by rw [List.length_append, List.length_singleton]; omega) h4
    | raise n μ4 => rw [hme] at h2; exact h2.elim
    | stuck => rw [hme] at h2; exact h2.elim
theorem wp_lc_inv {src : M Src} {s : Src} {mg : MG} {me : M Dat} {vs : List Nat} {δ : Env} {μ : Store} {Q : Dat → Store → Prop} {R : Nat → Store → Prop} (items : List Dat) (I : Nat → List Dat → Store → Prop) (hsrc : src δ μ = .ok s μ)
    (hn : s.n = items.length) (hget : ∀ i μ', s.get i μ' = items[i]?) (hfin : ∀ μ', s.fin μ' = true) (hlen : items.length < sizeLine) (h0 : I 0 [] (μ ++ [.lst []]))
    (step : ∀ (i : Nat) (d : Dat) (acc : List Dat) (μ2 : Store), items[i]? = some d → I i acc μ2 → acc.length = i → ∃ δ1, mg d (wipeD δ vs) = some δ1 ∧ wp (me δ1 μ2) fun y μ4 => μ4[μ.length]? = some (.lst acc) ∧ I (i + 1) (acc ++ [y]) (μ4.set μ.length (.lst (acc ++ [y]))))
    (hd : ∀ acc μ2, acc.length = items.length → I items.length acc μ2 → Q (.cell μ.length) μ2) : wp (mLc src mg mYes me vs δ μ) Q R := by
  unfold mLc
  rw [hsrc]
  obtain ⟨acc, μ', e, hl, h⟩ := lcLoop_inv hn hget hfin hlen I step s.n 0 [] (μ ++ [.lst []]) (by omega) rfl h0
  show wp ((lcLoop s mg mYes me (wipeD δ vs) μ.length s.n 0 (μ ++ [.lst []])).bind _) Q R
  rw [e]
  exact hd acc μ' hl h
theorem range_src {j : Int} (h : -(2 ^ 62) ≤ j ∧ j < 2 ^ 62) (δ : Env) (μ : Store) : miRange1 (maCons (mC (.int j)) maNil) δ μ = .ok (srcR 0 j.toNat) μ := by
  unfold miRange1
  show (if -(2 ^ 62) ≤ j ∧ j < 2 ^ 62 then Res.ok (srcR 0 j.toNat) μ else .stuck) = _
  rw [if_pos h]
theorem srcR_get (lo : Int) (n i : Nat) (μ : Store) (h : i < n) : (srcR lo n).get i μ = (rangeD lo n)[i]? := by
  unfold rangeD
  rw [List.getElem?_map, List.getElem?_range h]
  rfl
/-- a range whose items beyond its end are not asked -/
def srcQ (lo : Int) (n : Nat) : Src := ⟨n, fun i _ => (rangeD lo n)[i]?, fun _ => true⟩
theorem rangeD_len (lo : Int) (n : Nat) : (rangeD lo n).length = n := by
  unfold rangeD
  rw [List.length_map, List.length_range]
theorem rangeD_get {lo : Int} {n i : Nat} {d : Dat} (h : (rangeD lo n)[i]? = some d) : i < n ∧ d = .int (lo + i) := by
  unfold rangeD at h
  rw [List.getElem?_map] at h
  by_cases hi : i < n
  · rw [List.getElem?_range hi] at h
    cases h
    exact ⟨hi, rfl⟩
  · rw [List.getElem?_eq_none (by rw [List.length_range]; omega)] at h
    cases h
theorem forLoop_q {lo : Int} {n : Nat} {g : MG} {b : MS} : ∀ (r i : Nat) (δ : Env) (μ : Store), i + r = n → forLoop (srcR lo n) g b r i δ μ = forLoop (srcQ lo n) g b r i δ μ := by
  intro r
  induction r with
  | zero => intro i δ μ _; rfl
  | succ r ih =>
    intro i δ μ hi
    unfold forLoop
    rw [srcR_get lo n i μ (by omega)]
    show _ = (match ((rangeD lo n)[i]?).bind fun d => g d δ with | none => SRes.stuck | some δ1 => _)
    cases ((rangeD lo n)[i]?).bind fun d => g d δ with
    | none => rfl
    | some δ1 =>
      dsimp only
      cases b δ1 μ with
      | nx δ' μ' => exact ih (i + 1) δ' μ' (by omega)
      | ct δ' μ' => exact ih (i + 1) δ' μ' (by omega)
      | _ => rfl
theorem lcLoop_q {lo : Int} {n : Nat} {g : MG} {tt : M Bool} {te : M Dat} {δ : Env} {k : Nat} : ∀ (r i : Nat) (μ : Store), i + r = n → lcLoop (srcR lo n) g tt te δ k r i μ = lcLoop (srcQ lo n) g tt te δ k r i μ := by
  intro r
  induction r with
  | zero => intro i μ _; rfl
  | succ r ih =>
    intro i μ hi
    unfold lcLoop
    rw [srcR_get lo n i μ (by omega)]
    show _ = (match ((rangeD lo n)[i]?).bind fun d => g d δ with | none => Res.stuck | some δ1 => _)
    cases ((rangeD lo n)[i]?).bind fun d => g d δ with
    | none => rfl
    | some δ1 =>
      dsimp only
      cases nrR (tt δ1 μ) with
      | ok b μ1 =>
        dsimp only [Res.bind]
        by_cases hb : b = true
        · rw [if_pos hb, if_pos hb]
          cases nrR (te δ1 μ1) with
          | ok y μ2 =>
            dsimp only [Res.bind]
            cases μ2[k]? with
            | none => rfl
            | some x =>
              cases x with
              | lst acc =>
                dsimp only
                by_cases hz : acc.length < sizeLine
                · rw [if_pos hz, if_pos hz]
                  exact ih (i + 1) _ (by omega)
                · rw [if_neg hz, if_neg hz]
              | _ => rfl
          | _ => rfl
        · rw [if_neg hb, if_neg hb]
          exact ih (i + 1) _ (by omega)
      | _ => rfl
/-- a range stands for its list -/
def miQ (lo : Int) (n : Nat) : M Src := fun _ μ => .ok (srcQ lo n) μ
theorem msFor_q {src : M Src} {lo : Int} {n : Nat} {g : MG} {b : MS} {δ : Env} {μ μ1 : Store} (h : src δ μ = .ok (srcR lo n) μ1) : msFor src g b δ μ = msFor (miQ lo n) g b δ μ1 := by
  unfold msFor
  rw [h]
  exact forLoop_q n 0 δ μ1 (by omega)
theorem mLc_q {src : M Src} {lo : Int} {n : Nat} {g : MG} {tt : M Bool} {te : M Dat} {vs : List Nat} {δ : Env} {μ μ1 : Store} (h : src δ μ = .ok (srcR lo n) μ1) : mLc src g tt te vs δ μ = mLc (miQ lo n) g tt te vs δ μ1 := by
  unfold mLc
  rw [h]
  show (lcLoop (srcR lo n) g tt te (wipeD δ vs) μ1.length n 0 (μ1 ++ [.lst []])).bind _ = (lcLoop (srcQ lo n) g tt te (wipeD δ vs) μ1.length n 0 (μ1 ++ [.lst []])).bind _
  rw [lcLoop_q n 0 _ (by omega)]
/-! ### a list that was just written, at a reckoned place -/
theorem atI_some {α : Type} {l : List α} {i : Int} (h0 : 0 ≤ i) (h1 : i < l.length) : ∃ x, atI l i = some x ∧ x ∈ l := by
  have hi : i.toNat < l.length := by omega
  refine ⟨l[i.toNat], ?_, List.getElem_mem hi⟩
  have e : ((i.toNat : Nat) : Int) = i := by omega
  have q := atI_nat (List.getElem?_eq_getElem hi)
  rw [e] at q
  exact q
theorem fIxL_new {μ : Store} {ds : List Dat} {i : Int} (h0 : 0 ≤ i) (h1 : i < ds.length) : ∃ d, fIxL (.cell μ.length) (.int i) (μ ++ [.lst ds]) = .ok d (μ ++ [.lst ds]) ∧ d ∈ ds := by
  obtain ⟨d, e, hm⟩ := atI_some h0 h1
  refine ⟨d, ?_, hm⟩
  simp only [fIxL, lstAt, getElem?_mid, e]
theorem fIxL_at {μ : Store} {k : Nat} {ds : List Dat} {i : Int} (hk : μ[k]? = some (.lst ds)) (h0 : 0 ≤ i) (h1 : i < ds.length) : ∃ d, fIxL (.cell k) (.int i) μ = .ok d μ ∧ d ∈ ds := by
  obtain ⟨d, e, hm⟩ := atI_some h0 h1
  refine ⟨d, ?_, hm⟩
  simp only [fIxL, lstAt, hk, e]
/-! ### loops over a list that stands in the store -/
theorem forLoop_inv2 {s : Src} {g : MG} {b : MS} {P : Ps} {items : List Dat} (hn : s.n = items.length) (I : Nat → Env → Store → Prop) (hget : ∀ i δ μ, I i δ μ → s.get i μ = items[i]?) (hfin : ∀ i δ μ, I i δ μ → s.fin μ = true)
    (step : ∀ (i : Nat) (d : Dat) (δ : Env) (μ : Store), items[i]? = some d → I i δ μ → ∃ δ1, g d δ = some δ1 ∧ wps (b δ1 μ) { nx := I (i + 1), ct := I (i + 1), rt := P.rt, bk := P.nx, ra := P.ra }) (hd : ∀ δ μ, I items.length δ μ → P.nx δ μ) :
    ∀ (r i : Nat) (δ : Env) (μ : Store), i + r = items.length → I i δ μ → wps (forLoop s g b r i δ μ) P := by
  intro r
  induction r with
  | zero =>
    intro i δ μ hi h
    unfold forLoop
    rw [if_pos (hfin _ _ _ h)]
    have e : i = items.length := by omega
    subst e
    exact hd _ _ h
  | succ r ih =>
    intro i δ μ hi h
    have hlt : i < items.length := by omega
    obtain ⟨δ1, h1, h2⟩ := step i items[i] δ μ (List.getElem?_eq_getElem hlt) h
    unfold forLoop
    rw [hget _ _ _ h, List.getElem?_eq_getElem hlt, Option.bind_some, h1]
    dsimp only
    cases hb : b δ1 μ with
    | nx δ' μ' => rw [hb] at h2; exact ih (i + 1) δ' μ' (by omega) h2
    | ct δ' μ' => rw [hb] at h2; exact ih (i + 1) δ' μ' (by omega) h2
    | bk δ' μ' => rw [hb] at h2; exact h2
    | rt d μ' => rw [hb] at h2; exact h2
    | raise n δ' μ' => rw [hb] at h2; exact h2
    | stuck => rw [hb] at h2; exact h2
theorem wps_for2 {src : M Src} {s : Src} {g : MG} {b : MS} {P : Ps} {δ : Env} {μ μ1 : Store} (items : List Dat) (I : Nat → Env → Store → Prop) (hsrc : src δ μ = .ok s μ1) (hn : s.n = items.length) (hget : ∀ i δ μ, I i δ μ → s.get i μ = items[i]?) (hfin : ∀ i δ μ, I i δ μ → s.fin μ = true)
    (h0 : I 0 δ μ1) (step : ∀ (i : Nat) (d : Dat) (δ : Env) (μ : Store), items[i]? = some d → I i δ μ → ∃ δ1, g d δ = some δ1 ∧ wps (b δ1 μ) { nx := I (i + 1), ct := I (i + 1), rt := P.rt, bk := P.nx, ra := P.ra })
    (hd : ∀ δ μ, I items.length δ μ → P.nx δ μ) : wps (msFor src g b δ μ) P := by
  unfold msFor
  rw [hsrc]
  exact forLoop_inv2 hn I hget hfin step hd s.n 0 δ μ1 (by omega) h0

theorem wps_try {b : MS} {m i j : Nat} {δ : Env} {μ : Store} {P : Ps} (h : wps (b δ μ) { P with ra := fun n δ' μ' => tab.sub n m = some true ∧ i < δ'.length ∧ P.nx (((δ'.set i (some (.cell μ'.length))).set j (some (.cell μ'.length))).set i none) (μ' ++ [.exc n]) }) : wps (msTry tab m i j b δ μ) P := by
  unfold msTry
  cases hb : b δ μ with
  | raise n δ' μ' =>
    rw [hb] at h
    obtain ⟨h1, h2, h3⟩ := h
    dsimp only
    rw [h1]
    dsimp only
    rw [if_pos h2]
    exact h3
  | nx δ' μ' => rw [hb] at h; exact h
  | rt d μ' => rw [hb] at h; exact h
  | bk δ' μ' => rw [hb] at h; exact h
  | ct δ' μ' => rw [hb] at h; exact h
  | stuck => rw [hb] at h; exact h

theorem wh_inv {q : M Bool} {b : MS} {P : Ps} (I : Nat → Env → Store → Prop)
    (step : ∀ n δ μ, I n δ μ → wp (q δ μ) (fun k μ1 => if k = true then ∃ m, n = m + 1 ∧ wps (b δ μ1) { nx := I m, ct := I m, rt := P.rt, bk := P.nx, ra := P.ra } else P.nx δ μ1) fun n μ => P.ra n δ μ) :
    ∀ (N n : Nat) (δ : Env) (μ : Store), n ≤ N → I n δ μ → wps (whLoop q b (N + 1) δ μ) P := by
  intro N
  induction N with
  | zero =>
    intro n δ μ hn h
    have h1 := step n δ μ h
    unfold whLoop
    rw [wps_toS]
    refine wp_mono h1 (fun k μ1 z => ?_) fun _ _ z => z
    cases k with
    | false => exact z
    | true =>
      obtain ⟨m, rfl, _⟩ := z
      omega
  | succ N ih =>
    intro n δ μ hn h
    have h1 := step n δ μ h
    unfold whLoop
    rw [wps_toS]
    refine wp_mono h1 (fun k μ1 z => ?_) fun _ _ z => z
    cases k with
    | false => exact z
    | true =>
      obtain ⟨m, rfl, hb⟩ := z
      show wps (match b δ μ1 with | .nx δ' μ' => whLoop q b (N + 1) δ' μ' | .ct δ' μ' => whLoop q b (N + 1) δ' μ' | .bk δ' μ' => .nx δ' μ' | r => r) P
      cases hr : b δ μ1 with
      | nx δ' μ' => rw [hr] at hb; exact ih m δ' μ' (by omega) hb
      | ct δ' μ' => rw [hr] at hb; exact ih m δ' μ' (by omega) hb
      | bk δ' μ' => rw [hr] at hb; exact hb
      | rt d μ' => rw [hr] at hb; exact hb
      | raise n δ' μ' => rw [hr] at hb; exact hb
      | stuck => rw [hr] at hb; exact hb
theorem wps_while {q : M Bool} {b : MS} {P : Ps} {δ : Env} {μ : Store} {N n : Nat} (I : Nat → Env → Store → Prop) (hn : n ≤ N) (h0 : I n δ μ)
    (step : ∀ n δ μ, I n δ μ → wp (q δ μ) (fun k μ1 => if k = true then ∃ m, n = m + 1 ∧ wps (b δ μ1) { nx := I m, ct := I m, rt := P.rt, bk := P.nx, ra := P.ra } else P.nx δ μ1) fun n μ => P.ra n δ μ) :
    wps (msWhile (N + 1) q b δ μ) P := wh_inv I step N n δ μ hn h0
theorem atI_back {α : Type} (l : List α) (j : Nat) (h : j < l.length) : atI l (-((j : Int) + 1)) = l.reverse[j]? := by
  unfold atI ixN
  rw [if_neg (by omega), if_pos (by omega), List.getElem?_reverse h]
  show l[(-((j : Int) + 1) + (l.length : Int)).toNat]? = _
  congr 1
  omega
theorem fNe_str (a b : Str) (μ : Store) : fNe (.str a) (.str b) μ = .ok (.bl (!decide (a = b))) μ := by
  simp only [fNe, toV, scal, V.str.injEq, if_true]
/-! ### comprehensions over a list that stands in the store -/
theorem lcLoop_st {s : Src} {mg : MG} {mt : M Bool} {me : M Dat} {δ0 : Env} {μ : Store} {items : List Dat} {p : Dat → Bool} {f : Dat → Dat} (hn : s.n = items.length) (hget : ∀ i acc g, s.get i (μ ++ (.lst acc :: g)) = items[i]?) (hfin : ∀ acc g, s.fin (μ ++ (.lst acc :: g)) = true) (hlen : items.length < sizeLine)
    (step : ∀ (i : Nat) (d : Dat) (g : Store) (acc : List Dat), items[i]? = some d → ∃ δ1, mg d δ0 = some δ1 ∧ wp (mt δ1 (μ ++ (.lst acc :: g))) fun b μ3 => b = p d ∧ ∃ g1, μ3 = μ ++ (.lst acc :: g1) ∧
      (b = true → wp (me δ1 μ3) fun y μ4 => y = f d ∧ ∃ g2, μ4 = μ ++ (.lst acc :: g2))) :
    ∀ (r i : Nat) (acc : List Dat) (g : Store), i + r = items.length → acc.length ≤ i → ∃ g', lcLoop s mg mt me δ0 μ.length r i (μ ++ (.lst acc :: g)) = .ok () (μ ++ (.lst (acc ++ ((items.drop i).filter p).map f) :: g')) := by
  intro r
  induction r with
  | zero =>
    intro i acc g hi ha
    refine ⟨g, ?_⟩
    unfold lcLoop
    rw [if_pos (hfin _ _), List.drop_eq_nil_of_le (by omega), List.filter_nil, List.map_nil, List.append_nil]
  | succ r ih =>
    intro i acc g hi ha
    have hlt : i < items.length := by omega
    obtain ⟨δ1, h1, h2⟩ := step i items[i] g acc (List.getElem?_eq_getElem hlt)
    unfold lcLoop
    rw [hget, List.getElem?_eq_getElem hlt, Option.bind_some, h1]
    dsimp only
    have hd : items.drop i = items[i] :: items.drop (i + 1) := List.drop_eq_getElem_cons hlt
    cases hm : mt δ1 (μ ++ (.lst acc :: g)) with
    | ok b μ3 =>
      rw [hm] at h2
      obtain ⟨rfl, g1, rfl, h3⟩ := h2
      show ∃ g', (if p items[i] = true then _ else _) = _
      rw [hd, List.filter_cons]
      by_cases hp : p items[i] = true
      · rw [if_pos hp, if_pos hp]
        have h4 := h3 hp
        cases hme : me δ1 (μ ++ (.lst acc :: g1)) with
        | ok y μ4 =>
          rw [hme] at h4
          obtain ⟨rfl, g2, rfl⟩ := h4
          dsimp only [nrR, Res.bind]
          rw [getElem?_mid]
          dsimp only
          rw [if_pos (by omega), set_mid, List.map_cons]
          obtain ⟨g', e⟩ := ih (i + 1) (acc ++ [f items[i]]) g2 (by omega) (by simp; omega)
          exact ⟨g', by rw [e]; simp⟩
        | raise n μ4 => rw [hme] at h4; exact h4.elim
        | stuck => rw [hme] at h4; exact h4.elim
      · rw [if_neg hp, if_neg hp]
        exact ih (i + 1) acc g1 (by omega) (by omega)
    | raise n μ3 => rw [hm] at h2; exact h2.elim
    | stuck => rw [hm] at h2; exact h2.elim
/-- over the list at k -/
theorem wp_lc_cell {a : M Dat} {mg : MG} {mt : M Bool} {me : M Dat} {vs : List Nat} {δ : Env} {μ : Store} {Q : Dat → Store → Prop} {R : Nat → Store → Prop} {k : Nat} (items : List Dat) (p : Dat → Bool) (f : Dat → Dat) (ha : a δ μ = .ok (.cell k) μ) (hk : μ[k]? = some (.lst items)) (hlen : items.length < sizeLine)
    (step : ∀ (i : Nat) (d : Dat) (g : Store) (acc : List Dat), items[i]? = some d → ∃ δ1, mg d (wipeD δ vs) = some δ1 ∧ wp (mt δ1 (μ ++ (.lst acc :: g))) fun b μ3 => b = p d ∧ ∃ g1, μ3 = μ ++ (.lst acc :: g1) ∧
      (b = true → wp (me δ1 μ3) fun y μ4 => y = f d ∧ ∃ g2, μ4 = μ ++ (.lst acc :: g2)))
    (h : ∀ g, Q (.cell μ.length) (μ ++ (.lst ((items.filter p).map f) :: g))) : wp (mLc (miList a) mg mt me vs δ μ) Q R := by
  have hs : miList a δ μ = .ok (srcL k items.length) μ := by
    unfold miList
    rw [ha]
    show (match celL μ (.cell k) with | some ds => Res.ok (srcL k ds.length) μ | none => Res.stuck) = _
    simp only [celL, hk]
  unfold mLc
  rw [hs]
  obtain ⟨g', e⟩ := lcLoop_st (s := srcL k items.length) (items := items) (p := p) (f := f) rfl (fun i acc g => by
    show (celL (μ ++ (.lst acc :: g)) (.cell k)).bind (·[i]?) = _
    simp only [celL, get_app hk]
    rfl) (fun acc g => by
    show (match celL (μ ++ (.lst acc :: g)) (.cell k) with | some ds => decide (ds.length ≤ items.length) | none => false) = true
    simp only [celL, get_app hk]
    exact decide_eq_true (Nat.le_refl _)) hlen step items.length 0 [] [] (by omega) (Nat.zero_le _)
  show wp ((lcLoop (srcL k items.length) mg mt me (wipeD δ vs) μ.length items.length 0 (μ ++ [.lst []])).bind _) Q R
  rw [e]
  exact h g'
end Nh
namespace Nh
open PySem PySem.Spec PyProof.Rows L2
local macro_rules | `(tactic| walk_at "nwp") => `(tactic| try simp only [wp_bind, wp_ok, wp_nrR, wps_toS, wps_nx, wps_rt, wps_seq, wp_run, wps_if, wp_if, wp_tAnd, wp_tOr, wp_tNot, startD, List.map_cons, List.map_nil, List.length_cons, List.length_nil, Nat.reduceAdd, Nat.reduceSub, List.replicate_succ, List.replicate_zero, List.cons_append, List.nil_append, List.getElem?_cons_zero, List.getElem?_cons_succ, List.set_cons_zero, List.set_cons_succ,
  asB, mVar, mC, mOp, mCB, maCons, maNil, mCall, msRet, msAsg, mgName, msDrop, msNext, msRaise, mTup, mChain, mUn, if_true, if_false, Bool.not_true, Bool.not_false, Bool.false_eq_true, reduceIte, Nat.reduceEqDiff, Nat.reduceLeDiff,
  eq_self_iff_true, true_and, isA_str, inSign_star, inSign_one, notInSign_one, fEq_str, fEq_int, fLe_int, fLt_int, fGt_int, fAdd_int, fSub_int, fNeg_int])
/-! ### things on the road -/
inductive Thg where
  | tA (i : Int)
  | tB
  | tC
  | tD (i : Int)
def Thg.dat : Thg → Dat
  | .tA i => .tup [.str "letter", .int i]
  | .tB => .str "same"
  | .tC => .non
  | .tD i => .tup [.int i, .str "x"]
def Thg.p : Thg → PyData
  | .tA i => .tuple [.str "letter", .int i]
  | .tB => .str "same"
  | .tC => .none
  | .tD i => .tuple [.int i, .str "x"]
theorem thg_py (μ : Store) (n : Nat) (t : Thg) : py μ (n + 2) t.dat = some t.p := by
  cases t <;> rfl
theorem thg_pyAll (f : Dat → Option PyData) (hf : ∀ t : Thg, f t.dat = some t.p) : ∀ ts : List Thg, pyAll f (ts.map Thg.dat) = some (ts.map Thg.p)
  | [] => rfl
  | s :: r => by rw [List.map_cons, pyAll, hf, thg_pyAll f hf r]; rfl
theorem thg_lay (t : Thg) : t.p.canLay0 = true := by
  cases t with
  | tA c =>
    show (PyData.strOk "letter" && (true && true)) = true
    rw [show PyData.strOk "letter" = true by decide +kernel]
    rfl
  | tB =>
    show PyData.strOk "same" = true
    decide +kernel
  | tC => rfl
  | tD c =>
    show (true && (PyData.strOk "x" && true)) = true
    rw [show PyData.strOk "x" = true by decide +kernel]
    rfl
theorem thg_lays : ∀ ts : List Thg, PyData.canLayAll0 (ts.map Thg.p) = true
  | [] => rfl
  | s :: r => by
    rw [List.map_cons]
    show (s.p.canLay0 && PyData.canLayAll0 (r.map Thg.p)) = true
    rw [thg_lay, thg_lays r]
    rfl
theorem thg_dep (t : Thg) : t.p.depth ≤ 1 := by
  cases t <;> (first | exact Nat.le_refl _ | exact Nat.zero_le _)
theorem thg_deps : ∀ ts : List Thg, PyData.depthAll (ts.map Thg.p) ≤ 1
  | [] => Nat.zero_le _
  | s :: r => by
    rw [List.map_cons]
    show max s.p.depth (PyData.depthAll (r.map Thg.p)) ≤ 1
    have := thg_deps r
    have := thg_dep s
    omega
theorem thg_eqv (t : Thg) : PyData.eqv t.p t.p = true := by
  cases t <;> simp [Thg.p, PyData.eqv, PyData.eqvAll]
theorem thg_eqvs : ∀ ts : List Thg, PyData.eqvAll (ts.map Thg.p) (ts.map Thg.p) = true
  | [] => rfl
  | s :: r => by
    rw [List.map_cons]
    show (PyData.eqv s.p s.p && PyData.eqvAll (r.map Thg.p) (r.map Thg.p)) = true
    rw [thg_eqv, thg_eqvs r]
    rfl
theorem shaped_list {es : List PyData} (h1 : PyData.canLayAll0 es = true) (h2 : PyData.depthAll es ≤ 1) : SeqAt.shaped (.list es) = true := by
  unfold SeqAt.shaped
  rw [show (PyData.list es).canLay0 = true from h1, decide_eq_true (show (PyData.list es).depth ≤ 64 by
    show PyData.depthAll es + 1 ≤ 64
    omega)]
  rfl
theorem neD_things {μ : Store} {a b : Nat} {ts : List Thg} (ha : μ[a]? = some (.lst (ts.map Thg.dat))) (hb : μ[b]? = some (.lst (ts.map Thg.dat))) : fNeD (.cell a) (.cell b) μ = .ok (.bl false) μ := by
  have p : ∀ {a : Nat}, μ[a]? = some (.lst (ts.map Thg.dat)) → py μ 12 (.cell a) = some (.list (ts.map Thg.p)) := by
    intro a h
    show (match μ[a]? with | some (.lst ds) => (pyAll (py μ 11) ds).map PyData.list | _ => none) = _
    rw [h]
    dsimp only
    rw [thg_pyAll _ (thg_py μ 9)]
    rfl
  simp only [fNeD, p ha, p hb, shaped_list (thg_lays ts) (thg_deps ts), Bool.and_self, if_true]
  rw [show PyData.eqv (.list (ts.map Thg.p)) (.list (ts.map Thg.p)) = PyData.eqvAll (ts.map Thg.p) (ts.map Thg.p) from rfl, thg_eqvs]
  rfl
theorem pyAll_ints (f : Dat → Option PyData) (hf : ∀ s, f (.int s) = some (.int s)) : ∀ ss : List Int, pyAll f (ss.map .int) = some (ss.map .int)
  | [] => rfl
  | s :: r => by rw [List.map_cons, pyAll, hf, pyAll_ints f hf r]; rfl
theorem lay_ints : ∀ ss : List Int, PyData.canLayAll0 (ss.map .int) = true ∧ PyData.depthAll (ss.map .int) = 0
  | [] => ⟨rfl, rfl⟩
  | s :: r => by
    rw [List.map_cons]
    refine ⟨?_, ?_⟩
    · show (true && PyData.canLayAll0 (r.map .int)) = true
      rw [(lay_ints r).1]
      rfl
    · show max 0 (PyData.depthAll (r.map .int)) = 0
      rw [(lay_ints r).2]
      rfl
theorem neD_nil {μ : Store} {a b : Nat} {row : List Int} (ha : μ[a]? = some (.lst (row.map .int))) (hb : μ[b]? = some (.lst [])) : fNeD (.cell a) (.cell b) μ = .ok (.bl (!row.isEmpty)) μ := by
  have p : ∀ {a : Nat} {row : List Int}, μ[a]? = some (.lst (row.map .int)) → py μ 12 (.cell a) = some (.list (row.map .int)) := by
    intro a row h
    show (match μ[a]? with | some (.lst ds) => (pyAll (py μ 11) ds).map PyData.list | _ => none) = _
    rw [h]
    dsimp only
    rw [pyAll_ints _ (fun s => rfl)]
    rfl
  have q : ∀ row : List Int, SeqAt.shaped (.list (row.map .int)) = true := fun row => shaped_list (lay_ints row).1 (by rw [(lay_ints row).2]; omega)
  simp only [fNeD, p ha, p (row := []) hb, q row, q [], Bool.and_self, if_true]
  cases row <;> rfl
/-! ### the road -/
structure Rd (w a b : Nat) (row : List Int) (tk : Int) (ps : List Dat) (μ : Store) : Prop where
  hw : μ[w]? = some (.ins 9 [("_row", .cell a), ("_taken", .int tk), ("_under_way", .cell b)])
  ha : μ[a]? = some (.lst (row.map .int))
  hb : μ[b]? = some (.lst ps)
  ab : a ≠ b
section
variable {w a b : Nat} {row : List Int} {tk : Int} {ps : List Dat} {μ : Store}
theorem Rd.wa (h : Rd w a b row tk ps μ) : w ≠ a := fun e => by
  have := h.hw.symm.trans (e ▸ h.ha)
  cases this
theorem Rd.wb (h : Rd w a b row tk ps μ) : w ≠ b := fun e => by
  have := h.hw.symm.trans (e ▸ h.hb)
  cases this
theorem Rd.lw (h : Rd w a b row tk ps μ) : w < μ.length := (List.getElem?_eq_some_iff.mp h.hw).1
theorem Rd.lb (h : Rd w a b row tk ps μ) : b < μ.length := (List.getElem?_eq_some_iff.mp h.hb).1
theorem Rd.put (h : Rd w a b row tk ps μ) (ps' : List Dat) : Rd w a b row tk ps' (μ.set b (.lst ps')) := by
  refine ⟨?_, ?_, ?_, h.ab⟩
  · rw [List.getElem?_set_ne (fun e => h.wb e.symm)]
    exact h.hw
  · rw [List.getElem?_set_ne (fun e => h.ab e.symm)]
    exact h.ha
  · rw [List.getElem?_set_self h.lb]
theorem Rd.take (h : Rd w a b row tk ps μ) (k : Int) : Rd w a b row k ps (μ.set w (.ins 9 (putG "_taken" (.int k) [("_row", .cell a), ("_taken", .int tk), ("_under_way", .cell b)]))) := by
  refine ⟨?_, ?_, ?_, h.ab⟩
  · rw [List.getElem?_set_self h.lw]
    rfl
  · rw [List.getElem?_set_ne h.wa]
    exact h.ha
  · rw [List.getElem?_set_ne h.wb]
    exact h.hb
theorem Rd.app (h : Rd w a b row tk ps μ) (g : Store) : Rd w a b row tk ps (μ ++ g) := ⟨get_app h.hw, get_app h.ha, get_app h.hb, h.ab⟩
theorem Rd.meth (h : Rd w a b row tk ps μ) {δ : Env} {i k : Nat} {f : FA} {m : Str} {bs : M (List Dat)} (hδ : δ[i]? = some (some (.cell w))) (hm : ([("_row", Dat.cell a), ("_taken", .int tk), ("_under_way", .cell b)] : List (Str × Dat)).lookup m = none) :
    mMeth 9 m k f (mVar i) bs δ μ = (bs δ μ).bind fun ds μ2 => if ds.length + 1 = k then f (.cell w :: ds) μ2 else .stuck := by
  unfold mMeth mVar
  rw [hδ]
  simp only [Res.bind, insAt, h.hw]
  rw [if_pos (by simp [hm])]
theorem Rd.fRow (h : Rd w a b row tk ps μ) {δ : Env} {i : Nat} (hδ : δ[i]? = some (some (.cell w))) : mFld fldT "_row" (mVar i) δ μ = .ok (.cell a) μ := by
  unfold mFld mVar
  rw [hδ]
  simp only [Res.bind, insAt, h.hw]
  rfl
theorem Rd.fTk (h : Rd w a b row tk ps μ) {δ : Env} {i : Nat} (hδ : δ[i]? = some (some (.cell w))) : mFld fldT "_taken" (mVar i) δ μ = .ok (.int tk) μ := by
  unfold mFld mVar
  rw [hδ]
  simp only [Res.bind, insAt, h.hw]
  rfl
theorem Rd.fUw (h : Rd w a b row tk ps μ) {δ : Env} {i : Nat} (hδ : δ[i]? = some (some (.cell w))) : mFld fldT "_under_way" (mVar i) δ μ = .ok (.cell b) μ := by
  unfold mFld mVar
  rw [hδ]
  simp only [Res.bind, insAt, h.hw]
  rfl
theorem Rd.ins (h : Rd w a b row tk ps μ) : insAt μ (.cell w) = some (w, 9, ([("_row", Dat.cell a), ("_taken", .int tk), ("_under_way", .cell b)] : List (Str × Dat))) := by
  simp only [insAt, h.hw]
end
/-- the number that is taken for letter n -/
def numAt (row : List Int) (n : Nat) : Int := if row.isEmpty = true then 0 else row.getD (n % row.length) 0
def tkOf (row : List Int) (n : Nat) : Int := if row.isEmpty = true then 0 else ((n % row.length : Nat) : Int)
def dl (v : Int) : List Int := if v < 10 then [v] else if v = 10 then [] else [0, v - 10]
theorem atI_row {row : List Int} (n : Nat) (h : row.isEmpty = false) : atI (row.map Dat.int) (tkOf row n) = some (.int (numAt row n)) := by
  unfold tkOf numAt
  rw [h]
  simp only [Bool.false_eq_true, if_false]
  have hl : 0 < row.length := by
    cases row with
    | nil => cases h
    | cons x r => simp
  have hm := Nat.mod_lt n hl
  have e : (row.map Dat.int)[n % row.length]? = some (.int (row.getD (n % row.length) 0)) := by
    rw [List.getElem?_map, List.getD_eq_getElem?_getD, List.getElem?_eq_getElem hm]
    rfl
  exact atI_nat e
theorem fIxL_row {μ : Store} {c : Nat} {row : List Int} {n : Nat} (hc : μ[c]? = some (.lst (row.map .int))) (h : row.isEmpty = false) : fIxL (.cell c) (.int (tkOf row n)) μ = .ok (.int (numAt row n)) μ := by
  simp only [fIxL, lstAt, hc, atI_row n h]
theorem fLenQ_at {μ : Store} {c : Nat} {ds : List Dat} (hc : μ[c]? = some (.lst ds)) : fLenQ [.cell c] μ = .ok (.int (ds.length : Int)) μ := by
  simp only [fLenQ, seqD, lstAt, hc]
theorem tk_next {row : List Int} (n : Nat) (h : row.isEmpty = false) : (tkOf row n + 1) % (row.length : Int) = tkOf row (n + 1) := by
  unfold tkOf
  rw [h]
  simp only [Bool.false_eq_true, if_false]
  rw [show ((n % row.length : Nat) : Int) + 1 = ((n % row.length + 1 : Nat) : Int) by omega, ← Int.natCast_emod, Nat.mod_add_mod]
theorem tk_nil {row : List Int} (n : Nat) (h : row.isEmpty = true) : tkOf row n = 0 := by
  unfold tkOf
  rw [if_pos h]
end Nh
namespace Nh
open PySem PySem.Spec PyProof.Rows L2
local macro_rules | `(tactic| walk_at "nwp") => `(tactic| try simp only [wp_bind, wp_ok, wp_nrR, wps_toS, wps_nx, wps_rt, wps_seq, wp_run, wps_if, wp_if, wp_tAnd, wp_tOr, wp_tNot, startD, List.map_cons, List.map_nil, List.length_cons, List.length_nil, Nat.reduceAdd, Nat.reduceSub, List.replicate_succ, List.replicate_zero, List.cons_append, List.nil_append, List.getElem?_cons_zero, List.getElem?_cons_succ, List.set_cons_zero, List.set_cons_succ,
  asB, mVar, mC, mOp, mCB, maCons, maNil, mCall, msRet, msAsg, mgName, msDrop, msNext, msRaise, mTup, mChain, mUn, if_true, if_false, Bool.not_true, Bool.not_false, Bool.false_eq_true, reduceIte, Nat.reduceEqDiff, Nat.reduceLeDiff,
  eq_self_iff_true, true_and, isA_str, inSign_star, inSign_one, notInSign_one, fEq_str, fEq_int, fLe_int, fLt_int, fGt_int, fAdd_int, fSub_int, fNeg_int])
/-! ### the road's methods -/
theorem wps_forW {a : M Dat} {g : MG} {b : MS} {P : Ps} {δ : Env} {μ : Store}
    (h : wp (a δ μ) (fun d μ1 => ∃ (k : Nat) (items : List Dat) (I : Nat → Env → Store → Prop), d = .cell k ∧ (∀ i δ μ, I i δ μ → μ[k]? = some (.lst items)) ∧ I 0 δ μ1 ∧
      (∀ (i : Nat) (d : Dat) (δ : Env) (μ : Store), items[i]? = some d → I i δ μ → ∃ δ1, g d δ = some δ1 ∧ wps (b δ1 μ) { nx := I (i + 1), ct := I (i + 1), rt := P.rt, bk := P.nx, ra := P.ra }) ∧
      ∀ δ μ, I items.length δ μ → P.nx δ μ) fun n μ => P.ra n δ μ) : wps (msFor (miList a) g b δ μ) P := by
  cases ha : a δ μ with
  | ok d μ1 =>
    rw [ha] at h
    obtain ⟨k, items, I, rfl, h1, h2, step, hd⟩ := h
    have hk := h1 0 δ μ1 h2
    refine wps_for2 (s := srcL k items.length) items I (μ1 := μ1) ?_ rfl (fun i δ μ hI => ?_) (fun i δ μ hI => ?_) h2 step hd
    · unfold miList
      rw [ha]
      show (match celL μ1 (.cell k) with | some ds => Res.ok (srcL k ds.length) μ1 | none => Res.stuck) = _
      simp only [celL, hk]
    · show (celL μ (.cell k)).bind (·[i]?) = _
      simp only [celL, h1 i δ μ hI]
      rfl
    · show (match celL μ (.cell k) with | some ds => decide (ds.length ≤ items.length) | none => false) = true
      simp only [celL, h1 i δ μ hI]
      exact decide_eq_true (Nat.le_refl _)
  | raise n μ1 =>
    rw [ha] at h
    unfold msFor miList
    rw [ha]
    exact h
  | stuck => rw [ha] at h; exact h.elim
section
variable {w a b : Nat} {row : List Int} {tk : Int} {ps : List Dat} {μ : Store}
theorem next_number_spec {n : Nat} (h : Rd w a b row (tkOf row n) ps μ) (hr : row.length ≤ 1000) :
    wp (f_Road__next_number [.cell w] μ) fun d μ' => d = .int (numAt row n) ∧ Rd w a b row (tkOf row (n + 1)) ps μ' ∧ (∀ j, j ≠ w → μ'[j]? = μ[j]?) ∧ μ'.length = μ.length := by
  refine wp_nr ?_
  rw [wp_run]
  unfold b_Road__next_number mTru msFld
  walk_at "nwp"
  rw [h.fRow (i := 0) rfl]
  walk_at "nwp"
  rw [show truD μ (.cell a) = some (!(row.map Dat.int).isEmpty) from by simp only [truD, h.ha], List.isEmpty_map]
  dsimp only
  cases he : row.isEmpty with
  | true =>
    walk_at "nwp"
    refine ⟨?_, ?_, by simp⟩
    · unfold numAt
      rw [if_pos he]
    · rw [tk_nil _ he]
      rw [tk_nil _ he] at h
      exact h
  | false =>
    walk_at "nwp"
    rw [h.fRow (i := 0) rfl]
    walk_at "nwp"
    rw [h.fTk (i := 0) rfl]
    walk_at "nwp"
    rw [fIxL_row h.ha he]
    walk_at "nwp"
    rw [h.fTk (i := 0) rfl]
    walk_at "nwp"
    rw [h.fRow (i := 0) rfl]
    walk_at "nwp"
    rw [fLenQ_at h.ha]
    walk_at "nwp"
    have hl : 0 < row.length := by
      cases row with
      | nil => cases he
      | cons x r => simp
    rw [List.length_map, fMod_int (by omega), tk_next n he]
    walk_at "nwp"
    rw [h.ins]
    dsimp only
    rw [if_pos ⟨by decide +kernel, by simp⟩]
    walk_at "nwp"
    first | exact ⟨rfl, h.take _, fun j hj => List.getElem?_set_ne (fun e => hj e.symm), List.length_set⟩ | exact ⟨h.take _, fun j hj => List.getElem?_set_ne (fun e => hj e.symm), List.length_set⟩
theorem delays_spec (v : Int) (μ : Store) : wp (f__delays [.int v] μ) fun d μ' => ∃ (q : Nat) (g : Store), d = .cell q ∧ μ' = μ ++ g ∧ μ'[q]? = some (.lst ((dl v).map .int)) ∧ μ.length ≤ q := by
  refine wp_nr ?_
  rw [wp_run]
  unfold b__delays mLst dl
  walk_at "nwp"
  by_cases h1 : v < 10
  · rw [decide_eq_true h1, if_pos h1]
    walk_at "nwp"
    rw [if_pos (show 1 ≤ sizeLine by rw [sl16]; omega)]
    unfold allocR
    walk_at "nwp"
    exact ⟨_, _, rfl, rfl, getElem?_mid, Nat.le_refl _⟩
  · rw [decide_eq_false h1, if_neg h1]
    walk_at "nwp"
    by_cases h2 : v = 10
    · rw [decide_eq_true h2, if_pos h2]
      walk_at "nwp"
      rw [if_pos (Nat.zero_le _)]
      unfold allocR
      walk_at "nwp"
      exact ⟨_, _, rfl, rfl, getElem?_mid, Nat.le_refl _⟩
    · rw [decide_eq_false h2, if_neg h2]
      walk_at "nwp"
      rw [if_pos (show 2 ≤ sizeLine by rw [sl16]; omega)]
      unfold allocR
      walk_at "nwp"
      exact ⟨_, _, rfl, rfl, getElem?_mid, Nat.le_refl _⟩
def goes (row : List Int) (n : Nat) (t : Int) (x : Dat) : List Dat := (dl (numAt row n)).map fun y => .tup [.int (t + 1 + y), x]
theorem dl_len (v : Int) : (dl v).length ≤ 2 := by
  unfold dl
  split
  · simp
  · split
    · simp
    · simp
theorem send_spec {n : Nat} (h : Rd w a b row (tkOf row n) ps μ) (hr : row.length ≤ 1000) (hp : ps.length ≤ 1000) (x : Dat) (t : Int) :
    wp (f_Road_send [.cell w, x, .int t] μ) fun d μ' => d = .non ∧ Rd w a b row (tkOf row (n + 1)) (ps ++ goes row n t x) μ' ∧ (∀ j, j < μ.length → j ≠ w → j ≠ b → μ'[j]? = μ[j]?) ∧ μ.length ≤ μ'.length := by
  refine wp_nr ?_
  rw [wp_run]
  unfold b_Road_send
  walk_at "nwp"
  have hl2 := dl_len (numAt row n)
  refine wps_forW ?_
  walk_at "nwp"
  rw [h.meth (i := 0) rfl (by rfl)]
  walk_at "nwp"
  refine wp_imp (next_number_spec h hr) ?_
  rintro d μ1 ⟨rfl, h1, f1, l1⟩
  refine wp_imp (delays_spec _ _) ?_
  rintro d μ2 ⟨k, g, rfl, rfl, hk, hle⟩
  refine ⟨k, (dl (numAt row n)).map .int, fun i δ μ2 => ∃ (x3 : Option Dat), δ = [some (.cell w), some x, some (.int t), x3] ∧ μ2[k]? = some (.lst ((dl (numAt row n)).map .int)) ∧ Rd w a b row (tkOf row (n + 1)) (ps ++ ((dl (numAt row n)).take i).map fun y => .tup [.int (t + 1 + y), x]) μ2 ∧ (∀ j, j < μ.length → j ≠ w → j ≠ b → μ2[j]? = μ[j]?) ∧ μ.length ≤ μ2.length, rfl, fun i δ μ3 z => by obtain ⟨_, _, z, _⟩ := z; exact z, ?_, ?_, ?_⟩
  · refine ⟨none, rfl, hk, ?_, fun j hj hw hb => ?_, ?_⟩
    · rw [List.take_zero, List.map_nil, List.append_nil]
      exact h1.app g
    · rw [List.getElem?_append_left (by omega)]
      exact f1 j hw
    · rw [List.length_append]
      omega
  · rintro i d δ μ3 hd ⟨x3, rfl, hk3, h3, f3, l3⟩
    rw [List.getElem?_map] at hd
    cases hq : (dl (numAt row n))[i]? with
    | none => rw [hq] at hd; cases hd
    | some y =>
      rw [hq] at hd
      cases hd
      have hkb : k ≠ b := by
        have := h.lb
        omega
      refine ⟨_, rfl, ?_⟩
      unfold mBM
      walk_at "nwp"
      rw [h3.fUw (i := 0) rfl]
      walk_at "nwp"
      rw [show (lstAt μ3 (.cell b)).isSome = true from by simp only [lstAt, h3.hb, Option.isSome_some]]
      walk_at "nwp"
      rw [if_pos (show 2 ≤ sizeLine by rw [sl16]; omega)]
      walk_at "nwp"
      rw [show fAppend (.cell b) [.tup [.int (t + 1 + y), x]] μ3 = .ok .non (μ3.set b (.lst (ps ++ (((dl (numAt row n)).take i).map fun y => Dat.tup [.int (t + 1 + y), x]) ++ [.tup [.int (t + 1 + y), x]]))) from by
        simp only [fAppend, h3.hb]
        rw [if_pos (by
          rw [sl16, List.length_append, List.length_map, List.length_take]
          omega)]]
      walk_at "nwp"
      refine ⟨_, rfl, ?_, ?_, fun j hj hw hb => ?_, ?_⟩
      · rw [List.getElem?_set_ne (fun e => hkb e.symm)]
        exact hk3
      · have := h3.put (ps ++ (((dl (numAt row n)).take i).map fun y => Dat.tup [.int (t + 1 + y), x]) ++ [.tup [.int (t + 1 + y), x]])
        rw [List.take_add_one, hq, List.map_append, ← List.append_assoc]
        exact this
      · rw [List.getElem?_set_ne (fun e => hb e.symm)]
        exact f3 j hj hw hb
      · rw [List.length_set]
        exact l3
  · rintro δ μ3 ⟨x3, rfl, hk3, h3, f3, l3⟩
    rw [List.length_map, List.take_length] at h3
    first | exact ⟨rfl, h3, f3, l3⟩ | exact ⟨h3, f3, l3⟩
/-! ### what comes -/
structure Pr where
  t : Int
  x : Thg
def Pr.dat (p : Pr) : Dat := .tup [.int p.1, p.2.dat]
def atT (t : Int) (U : List Pr) : List Thg := (U.filter fun p => decide (p.1 = t)).map fun p => p.2
def offT (t : Int) (U : List Pr) : List Pr := U.filter fun p => !decide (p.1 = t)
def pAt (t : Int) : Dat → Bool
  | .tup [.int i, _] => decide (i = t)
  | _ => false
def sndD : Dat → Dat
  | .tup [_, x] => x
  | _ => .non
theorem pAt_filter (t : Int) : ∀ U : List Pr, ((U.map Pr.dat).filter (pAt t)).map sndD = (atT t U).map Thg.dat
  | [] => rfl
  | p :: r => by
    unfold atT
    rw [List.map_cons, List.filter_cons, List.filter_cons]
    show (if decide (p.1 = t) = true then _ else _ : List Dat).map sndD = _
    by_cases h : decide (p.1 = t) = true
    · rw [if_pos h, if_pos h, List.map_cons, List.map_cons, List.map_cons, pAt_filter t r]
      rfl
    · rw [if_neg h, if_neg h, pAt_filter t r]
      rfl
theorem pOff_filter (t : Int) : ∀ U : List Pr, ((U.map Pr.dat).filter fun d => !pAt t d).map id = (offT t U).map Pr.dat
  | [] => rfl
  | p :: r => by
    unfold offT
    rw [List.map_cons, List.filter_cons, List.filter_cons]
    show (if (!decide (p.1 = t)) = true then _ else _ : List Dat).map id = _
    by_cases h : (!decide (p.1 = t)) = true
    · rw [if_pos h, if_pos h, List.map_cons, List.map_cons, pOff_filter t r]
      rfl
    · rw [if_neg h, if_neg h, pOff_filter t r]
      rfl
theorem fNe_int (a b : Int) (μ : Store) : fNe (.int a) (.int b) μ = .ok (.bl (!decide (a = b))) μ := by
  simp only [fNe, toV, scal, V.int.injEq, if_true]
theorem due_spec {U : List Pr} (h : Rd w a b row tk (U.map Pr.dat) μ) (hU : U.length ≤ 100000) (t : Int) :
    wp (f_Road_due [.cell w, .int t] μ) fun d μ' => ∃ q b', d = .cell q ∧ μ'[q]? = some (.lst ((atT t U).map Thg.dat)) ∧ Rd w a b' row tk ((offT t U).map Pr.dat) μ' ∧ (∀ j, j < μ.length → j ≠ w → μ'[j]? = μ[j]?) ∧ μ.length ≤ q ∧ μ.length ≤ b' ∧ q ≠ b' ∧ q < μ'.length ∧ μ.length ≤ μ'.length := by
  refine wp_nr ?_
  rw [wp_run]
  unfold b_Road_due msFld
  walk_at "nwp"
  refine wp_lc_cell (k := b) (U.map Pr.dat) (pAt t) sndD (h.fUw (i := 0) rfl) h.hb (by rw [sl16, List.length_map]; omega) (fun i d g acc hd => ?_) fun g => ?_
  · rw [List.getElem?_map] at hd
    cases hq : U[i]? with
    | none => rw [hq] at hd; cases hd
    | some p =>
      rw [hq] at hd
      cases hd
      refine ⟨[some (.cell w), some (.int t), none, some (.int p.1), some p.2.dat, none], rfl, ?_⟩
      walk_at "nwp"
      exact ⟨rfl, g, rfl, fun _ => ⟨rfl, g, rfl⟩⟩
  rw [pAt_filter]
  have h1 := h.app (Cell.lst ((atT t U).map Thg.dat) :: g)
  have hq : (μ ++ Cell.lst ((atT t U).map Thg.dat) :: g)[μ.length]? = some (.lst ((atT t U).map Thg.dat)) := getElem?_mid
  have f1 : ∀ j, j < μ.length → (μ ++ Cell.lst ((atT t U).map Thg.dat) :: g)[j]? = μ[j]? := fun j hj => List.getElem?_append_left hj
  have l1 : μ.length < (μ ++ Cell.lst ((atT t U).map Thg.dat) :: g).length := by simp
  generalize μ ++ Cell.lst ((atT t U).map Thg.dat) :: g = μ1 at h1 hq f1 l1 ⊢
  walk_at "nwp"
  refine wp_lc_cell (k := b) (U.map Pr.dat) (fun d => !pAt t d) id (h1.fUw (i := 0) rfl) h1.hb (by rw [sl16, List.length_map]; omega) (fun i d g acc hd => ?_) fun g2 => ?_
  · rw [List.getElem?_map] at hd
    cases hq : U[i]? with
    | none => rw [hq] at hd; cases hd
    | some p =>
      rw [hq] at hd
      cases hd
      refine ⟨[some (.cell w), some (.int t), some (.cell μ.length), none, none, some p.dat], rfl, ?_⟩
      walk_at "nwp"
      rw [show ∀ μ, fIxT p.dat (.int 0) μ = .ok (.int p.1) μ from fun μ => rfl]
      walk_at "nwp"
      rw [fNe_int]
      walk_at "nwp"
      exact ⟨rfl, g, rfl, fun _ => ⟨rfl, g, rfl⟩⟩
  rw [pOff_filter]
  have h2 := h1.app (Cell.lst ((offT t U).map Pr.dat) :: g2)
  have hb2 : (μ1 ++ Cell.lst ((offT t U).map Pr.dat) :: g2)[μ1.length]? = some (.lst ((offT t U).map Pr.dat)) := getElem?_mid
  have hq2 := get_app (g := Cell.lst ((offT t U).map Pr.dat) :: g2) hq
  have f2 : ∀ j, j < μ.length → (μ1 ++ Cell.lst ((offT t U).map Pr.dat) :: g2)[j]? = μ[j]? := fun j hj => by
    rw [List.getElem?_append_left (by omega)]
    exact f1 j hj
  have l2 : μ1.length < (μ1 ++ Cell.lst ((offT t U).map Pr.dat) :: g2).length := by simp
  generalize μ1 ++ Cell.lst ((offT t U).map Pr.dat) :: g2 = μ2 at h2 hb2 hq2 f2 l2 ⊢
  walk_at "nwp"
  rw [h2.ins]
  dsimp only
  rw [if_pos ⟨by decide +kernel, by simp⟩]
  walk_at "nwp"
  have ha1 := (List.getElem?_eq_some_iff.mp h.ha).1
  have hw1 := h.lw
  refine ⟨_, _, rfl, ?_, ⟨?_, ?_, ?_, by omega⟩, fun j hj hw => ?_, Nat.le_refl _, Nat.le_of_lt l1, by omega, by rw [List.length_set]; omega, by rw [List.length_set]; omega⟩
  · rw [List.getElem?_set_ne (by omega)]
    exact hq2
  · rw [List.getElem?_set_self (by omega)]
    rfl
  · rw [List.getElem?_set_ne h.wa]
    exact h2.ha
  · rw [List.getElem?_set_ne (by omega)]
    exact hb2
  · rw [List.getElem?_set_ne (fun e => hw e.symm)]
    exact f2 j hj
theorem many_spec (h : Rd w a b row tk ps μ) : wp (f_Road_many [.cell w] μ) fun d μ' => d = .int ps.length ∧ μ' = μ := by
  refine wp_nr ?_
  rw [wp_run]
  unfold b_Road_many
  walk_at "nwp"
  rw [h.fUw (i := 0) rfl]
  walk_at "nwp"
  rw [fLenQ_at h.hb]
  first | exact ⟨rfl, rfl⟩ | trivial
end
end Nh
namespace Nh
open PySem PySem.Spec PyProof.Rows L2
local macro_rules | `(tactic| walk_at "nwp") => `(tactic| try simp only [wp_bind, wp_ok, wp_nrR, wps_toS, wps_nx, wps_rt, wps_seq, wp_run, wps_if, wp_if, wp_tAnd, wp_tOr, wp_tNot, startD, List.map_cons, List.map_nil, List.length_cons, List.length_nil, Nat.reduceAdd, Nat.reduceSub, List.replicate_succ, List.replicate_zero, List.cons_append, List.nil_append, List.getElem?_cons_zero, List.getElem?_cons_succ, List.set_cons_zero, List.set_cons_succ,
  asB, mVar, mC, mOp, mCB, maCons, maNil, mCall, msRet, msAsg, mgName, msDrop, msNext, msRaise, mTup, mChain, mUn, if_true, if_false, Bool.not_true, Bool.not_false, Bool.false_eq_true, reduceIte, Nat.reduceEqDiff, Nat.reduceLeDiff,
  eq_self_iff_true, true_and, isA_str, inSign_star, inSign_one, notInSign_one, fEq_str, fEq_int, fLe_int, fLt_int, fGt_int, fAdd_int, fSub_int, fNeg_int])
/-! ### the law's helpers -/
theorem lenQ_ro (ns : List Int) (μ : Store) : fLenQ [.ro ns] μ = .ok (.int (ns.length : Int)) μ := by
  show Res.ok (Dat.int ((ns.map Dat.int).length : Int)) μ = _
  rw [List.length_map]
theorem ixL_ro {ns : List Int} {k : Int} (h0 : 0 ≤ k) (h1 : k < ns.length) (μ : Store) : ∃ i : Int, fIxL (.ro ns) (.int k) μ = .ok (.int i) μ := by
  obtain ⟨d, e, hm⟩ := atI_some (l := ns.map Dat.int) h0 (by rw [List.length_map]; exact h1)
  obtain ⟨i, _, rfl⟩ := List.mem_map.mp hm
  exact ⟨i, by simp only [fIxL, lstAt, e]⟩
theorem draw_spec {ns : List Int} {k : Int} (h0 : 0 ≤ k) (μ : Store) : wp (f__law_draw [.ro ns, .int k] μ) fun d μ' => (∃ i : Int, d = .int i) ∧ μ' = μ := by
  refine wp_nr ?_
  rw [wp_run]
  unfold b__law_draw
  walk_at "nwp"
  rw [lenQ_ro]
  walk_at "nwp"
  by_cases h : k < (ns.length : Int)
  · rw [decide_eq_true h]
    walk_at "nwp"
    obtain ⟨i, e⟩ := ixL_ro h0 h μ
    rw [e]
    exact ⟨⟨i, rfl⟩, rfl⟩
  · rw [decide_eq_false h]
    walk_at "nwp"
    exact ⟨⟨0, rfl⟩, by first | rfl | trivial⟩
theorem spread_spec {i k : Int} (h : 0 ≤ k ∧ k ≤ 1000) (μ : Store) : wp (f__law_spread [.int i, .int k] μ) fun d μ' => (∃ j : Int, d = .int j ∧ 0 ≤ j ∧ j < 2147483647) ∧ μ' = μ := by
  refine wp_nr ?_
  rw [wp_run]
  unfold b__law_spread
  walk_at "nwp"
  rw [fMul_int (.inl (by omega))]
  walk_at "nwp"
  rw [fMul_int (.inr (by omega))]
  walk_at "nwp"
  have hb : 0 ≤ 2 * k * k ∧ 2 * k * k ≤ 2000000 := by
    constructor
    · exact Int.mul_nonneg (by omega) h.1
    · exact Int.le_trans (Int.mul_le_mul (show 2 * k ≤ 2000 by omega) h.2 h.1 (by omega)) (by omega)
  generalize 2 * k * k = e at hb
  rw [fMul_int (.inr (by omega))]
  walk_at "nwp"
  rw [fMod_int (by omega)]
  exact ⟨⟨_, rfl, Int.emod_nonneg _ (by omega), Int.emod_lt_of_pos _ (by omega)⟩, rfl⟩
theorem row_spec (ns : List Int) (μ : Store) : wp (f__law_row [.ro ns] μ) fun d μ' => ∃ (q : Nat) (row : List Int), d = .cell q ∧ μ'[q]? = some (.lst (row.map .int)) ∧ row.length ≤ 20 ∧ ∀ x ∈ row, 0 ≤ x ∧ x ≤ 19 := by
  refine wp_nr ?_
  rw [wp_run]
  unfold b__law_row
  walk_at "nwp"
  refine wp_imp (draw_spec (by omega) _) ?_
  rintro d μ1 ⟨⟨i, rfl⟩, rfl⟩
  walk_at "nwp"
  refine wp_imp (spread_spec (by omega) _) ?_
  rintro d μ1 ⟨⟨c, rfl, c0, c1⟩, rfl⟩
  walk_at "nwp"
  rw [fMod_int (by omega)]
  walk_at "nwp"
  have hw0 := Int.emod_nonneg c (show (5 : Int) ≠ 0 by omega)
  have hw1 := Int.emod_lt_of_pos c (show (0 : Int) < 5 by omega)
  generalize c % 5 = wy at hw0 hw1
  unfold mLst
  walk_at "nwp"
  rw [if_pos (Nat.zero_le _)]
  unfold allocR
  walk_at "nwp"
  have hm0 := Int.emod_nonneg (c / 5) (show (21 : Int) ≠ 0 by omega)
  have hm1 := Int.emod_lt_of_pos (c / 5) (show (0 : Int) < 21 by omega)
  generalize hmm : c / 5 % 21 = m at hm0 hm1
  rw [msFor_q (lo := 0) (n := m.toNat) (μ1 := μ1 ++ [.lst []]) (by
    have e := range_src (j := m) (by omega) [some (.ro ns), some (.int c), some (.int wy), some (.cell μ1.length), none, none] (μ1 ++ [.lst []])
    rw [← e]
    unfold miRange1
    walk_at "nwp"
    simp only [Res.bind]
    rw [fDiv_int (by omega)]
    simp only [Res.bind]
    rw [fMod_int (by omega), hmm])]
  refine wps_for (s := srcQ 0 m.toNat) (rangeD 0 m.toNat) (fun i δ μ2 => ∃ (x4 x5 : Option Dat) (row : List Int), δ = [some (.ro ns), some (.int c), some (.int wy), some (.cell μ1.length), x4, x5] ∧ μ2[μ1.length]? = some (.lst (row.map .int)) ∧ row.length = i ∧ ∀ x ∈ row, 0 ≤ x ∧ x ≤ 19) rfl (rangeD_len _ _).symm (fun _ _ => rfl) (fun _ => rfl) ⟨none, none, [], rfl, getElem?_mid, rfl, fun x hx => nomatch hx⟩ ?_ ?_
  · rintro i d δ μ2 hd ⟨x4, x5, row, rfl, hq, hl, hr⟩
    obtain ⟨hi, rfl⟩ := rangeD_get hd
    refine ⟨_, rfl, ?_⟩
    obtain ⟨z, hz⟩ : ∃ z : Int, z = 0 + (i : Int) := ⟨_, rfl⟩
    rw [← hz]
    walk_at "nwp"
    rw [fMod_int (by omega)]
    walk_at "nwp"
    refine wp_imp (draw_spec (by omega) _) ?_
    rintro d μ3 ⟨⟨v, rfl⟩, rfl⟩
    walk_at "nwp"
    refine wp_imp (spread_spec (by omega) _) ?_
    rintro d μ3 ⟨⟨y, rfl, y0, y1⟩, rfl⟩
    unfold mBM
    walk_at "nwp"
    rw [show (lstAt μ3 (.cell μ1.length)).isSome = true from by simp only [lstAt, hq, Option.isSome_some]]
    walk_at "nwp"
    rw [fMod_int (by omega)]
    walk_at "nwp"
    rw [fMod_int (by omega)]
    walk_at "nwp"
    rw [if_pos (show 2 ≤ sizeLine by rw [sl16]; omega)]
    walk_at "nwp"
    rw [fMod_int (by omega)]
    walk_at "nwp"
    obtain ⟨d3, e3, m3⟩ := fIxL_new (μ := μ3) (ds := [.int 0, .int 10]) (i := y % 2) (Int.emod_nonneg _ (by omega)) (Int.emod_lt_of_pos _ (by decide))
    rw [e3]
    walk_at "nwp"
    rw [fMod_int (by omega)]
    walk_at "nwp"
    rw [if_pos (show 6 ≤ sizeLine by rw [sl16]; omega)]
    walk_at "nwp"
    rw [fMod_int (by omega)]
    walk_at "nwp"
    obtain ⟨d5, e5, m5⟩ := fIxL_new (μ := μ3 ++ [.lst [.int 0, .int 10]]) (ds := [.int 0, .int 0, .int 0, .int 3, .int 11, .int 19]) (i := y % 6) (Int.emod_nonneg _ (by omega)) (Int.emod_lt_of_pos _ (by decide))
    rw [e5]
    walk_at "nwp"
    rw [if_pos (show 5 ≤ sizeLine by rw [sl16]; omega)]
    walk_at "nwp"
    obtain ⟨d6, e6, m6⟩ := fIxL_new (μ := μ3 ++ [.lst [.int 0, .int 10]] ++ [.lst [.int 0, .int 0, .int 0, .int 3, .int 11, .int 19]]) (ds := [.int (y % 20), .int (y % 10), d3, .int (10 + y % 10), d5]) (i := wy) hw0 hw1
    rw [e6]
    have k20 := Int.emod_nonneg y (show (20 : Int) ≠ 0 by omega)
    have k21 := Int.emod_lt_of_pos y (show (0 : Int) < 20 by omega)
    have k10 := Int.emod_nonneg y (show (10 : Int) ≠ 0 by omega)
    have k11 := Int.emod_lt_of_pos y (show (0 : Int) < 10 by omega)
    have h6 : ∃ v : Int, d6 = .int v ∧ 0 ≤ v ∧ v ≤ 19 := by
      simp only [List.mem_cons, List.not_mem_nil, or_false] at m3 m5 m6
      rcases m6 with rfl | rfl | rfl | rfl | rfl
      · exact ⟨_, rfl, by omega, by omega⟩
      · exact ⟨_, rfl, by omega, by omega⟩
      · rcases m3 with rfl | rfl
        · exact ⟨_, rfl, by omega, by omega⟩
        · exact ⟨_, rfl, by omega, by omega⟩
      · exact ⟨_, rfl, by omega, by omega⟩
      · rcases m5 with rfl | rfl | rfl | rfl | rfl | rfl
        · exact ⟨_, rfl, by omega, by omega⟩
        · exact ⟨_, rfl, by omega, by omega⟩
        · exact ⟨_, rfl, by omega, by omega⟩
        · exact ⟨_, rfl, by omega, by omega⟩
        · exact ⟨_, rfl, by omega, by omega⟩
        · exact ⟨_, rfl, by omega, by omega⟩
    obtain ⟨v6, rfl, v0, v1⟩ := h6
    walk_at "nwp"
    have hq' := get_app (g := [.lst [.int 0, .int 10]] ++ ([.lst [.int 0, .int 0, .int 0, .int 3, .int 11, .int 19]] ++ [.lst [.int (y % 20), .int (y % 10), d3, .int (10 + y % 10), d5]])) hq
    rw [← List.append_assoc, ← List.append_assoc] at hq'
    generalize μ3 ++ [Cell.lst [.int 0, .int 10]] ++ [Cell.lst [.int 0, .int 0, .int 0, .int 3, .int 11, .int 19]] ++ [Cell.lst [.int (y % 20), .int (y % 10), d3, .int (10 + y % 10), d5]] = μ4 at hq' ⊢
    rw [show fAppend (.cell μ1.length) [.int v6] μ4 = .ok .non (μ4.set μ1.length (.lst (row.map .int ++ [.int v6]))) from by
      simp only [fAppend, hq']
      rw [if_pos (by rw [sl16, List.length_map]; omega)]]
    walk_at "nwp"
    refine ⟨_, _, row ++ [v6], rfl, ?_, by rw [List.length_append, List.length_singleton, hl], fun x hx => ?_⟩
    · rw [List.getElem?_set_self (List.getElem?_eq_some_iff.mp hq').1, List.map_append]
      rfl
    · rcases List.mem_append.mp hx with hx | hx
      · exact hr x hx
      · rw [List.mem_singleton.mp hx]
        exact ⟨v0, v1⟩
  · rintro δ μ2 ⟨x4, x5, row, rfl, hq, hl, hr⟩
    rw [rangeD_len] at hl
    walk_at "nwp"
    exact ⟨_, row, rfl, hq, by omega, hr⟩
theorem dl_map (v t : Int) (x : Dat) : (dl v).map (fun y => Dat.tup [.int (t + 1 + y), x]) = if v = 10 then [] else if v < 10 then [.tup [.int (t + 1 + v), x]] else [.tup [.int (t + 1), x], .tup [.int (t + 1 + v - 10), x]] := by
  unfold dl
  by_cases h1 : v < 10
  · rw [if_pos h1, if_neg (by omega), if_pos h1]
    rfl
  · rw [if_neg h1]
    by_cases h2 : v = 10
    · rw [if_pos h2, if_pos h2]
      rfl
    · rw [if_neg h2, if_neg h2, if_neg h1, List.map_cons, List.map_cons, List.map_nil, Int.add_zero, show t + 1 + (v - 10) = t + 1 + v - 10 by omega]
def sentRest : MS := msSeq (msIf (asB (mOp fEq (mVar 5) (mC (.int 10)))) (msRet (mVar 0)) msNext)
  (msSeq (msIf (asB (mOp fLt (mVar 5) (mC (.int 10)))) (msRet (mOp fCat (mVar 0) (mLst (maCons (mTup (maCons (mOp fAdd (mOp fAdd (mVar 4) (mC (.int 1))) (mVar 5)) (maCons (mVar 3) maNil))) maNil)))) msNext)
  (msRet (mOp fCat (mVar 0) (mLst (maCons (mTup (maCons (mOp fAdd (mVar 4) (mC (.int 1))) (maCons (mVar 3) maNil))) (maCons (mTup (maCons (mOp fSub (mOp fAdd (mOp fAdd (mVar 4) (mC (.int 1))) (mVar 5)) (mC (.int 10))) (maCons (mVar 3) maNil))) maNil))))))
def sentHead : MS := msAsg (mIf (asB (mOp fNeD (mVar 1) (mLst maNil))) (mOp fIxL (mVar 1) (mOp fMod (mVar 2) (mCB fLenQ (maCons (mVar 1) maNil)))) (mC (.int 0))) (mgName 5)
theorem b_sent_is : b__law_sent = msSeq sentHead sentRest := rfl
theorem sent_spec {q c : Nat} {row : List Int} {ps : List Dat} {n : Nat} {z : Int} (hz : z = n) {μ : Store} (hq : μ[q]? = some (.lst ps)) (hc : μ[c]? = some (.lst (row.map .int))) (hp : ps.length ≤ 1000) (x : Dat) (t : Int) :
    wp (f__law_sent [.cell q, .cell c, .int z, x, .int t] μ) fun d μ' => ∃ (q' : Nat) (g : Store), d = .cell q' ∧ μ' = μ ++ g ∧ μ'[q']? = some (.lst (ps ++ goes row n t x)) ∧ (q' = q ∨ μ.length ≤ q') := by
  refine wp_nr ?_
  rw [wp_run]
  rw [b_sent_is, wps_seq]
  unfold sentHead mLst
  walk_at "nwp"
  rw [if_pos (Nat.zero_le _)]
  unfold allocR
  walk_at "nwp"
  rw [neD_nil (row := row) (get_app hc) getElem?_mid]
  walk_at "nwp"
  have fin : wps (sentRest [some (.cell q), some (.cell c), some (.int z), some x, some (.int t), some (.int (numAt row n))] (μ ++ [Cell.lst []]))
      { nx := fun _ μ' => ∃ (q' : Nat) (g : Store), Dat.non = .cell q' ∧ μ' = μ ++ g ∧ μ'[q']? = some (.lst (ps ++ goes row n t x)) ∧ (q' = q ∨ μ.length ≤ q'), rt := fun d μ' => ∃ (q' : Nat) (g : Store), d = .cell q' ∧ μ' = μ ++ g ∧ μ'[q']? = some (.lst (ps ++ goes row n t x)) ∧ (q' = q ∨ μ.length ≤ q') } := by
    unfold goes
    rw [dl_map]
    generalize numAt row n = v
    unfold sentRest mLst
    walk_at "nwp"
    by_cases h1 : v = 10
    · rw [decide_eq_true h1, if_pos h1]
      walk_at "nwp"
      exact ⟨q, _, rfl, rfl, by rw [List.append_nil]; exact get_app hq, .inl rfl⟩
    · rw [decide_eq_false h1, if_neg h1]
      walk_at "nwp"
      by_cases h2 : v < 10
      · rw [decide_eq_true h2, if_pos h2]
        walk_at "nwp"
        rw [if_pos (show 2 ≤ sizeLine by rw [sl16]; omega)]
        walk_at "nwp"
        rw [if_pos (show 1 ≤ sizeLine by rw [sl16]; omega)]
        unfold allocR
        walk_at "nwp"
        rw [show fCat (.cell q) (.cell (μ ++ [Cell.lst []]).length) (μ ++ [Cell.lst []] ++ [.lst [.tup [.int (t + 1 + v), x]]]) = .ok (.cell (μ ++ [Cell.lst []] ++ [Cell.lst [.tup [.int (t + 1 + v), x]]]).length) (μ ++ [Cell.lst []] ++ [.lst [.tup [.int (t + 1 + v), x]]] ++ [.lst (ps ++ [.tup [.int (t + 1 + v), x]])]) from by
          simp only [fCat, celL, getElem?_mid, get_app (get_app hq)]
          rw [if_pos (by rw [sl16]; simp; omega)]
          first | done | rfl]
        walk_at "nwp"
        exact ⟨_, [.lst []] ++ ([.lst [.tup [.int (t + 1 + v), x]]] ++ [.lst (ps ++ [.tup [.int (t + 1 + v), x]])]), rfl, by simp only [List.append_assoc], getElem?_mid, .inr (by rw [List.length_append, List.length_append]; omega)⟩
      · rw [decide_eq_false h2, if_neg h2]
        walk_at "nwp"
        rw [if_pos (show 2 ≤ sizeLine by rw [sl16]; omega)]
        walk_at "nwp"
        rw [if_pos (show 2 ≤ sizeLine by rw [sl16]; omega)]
        walk_at "nwp"
        rw [if_pos (show 2 ≤ sizeLine by rw [sl16]; omega)]
        unfold allocR
        walk_at "nwp"
        rw [show fCat (.cell q) (.cell (μ ++ [Cell.lst []]).length) (μ ++ [Cell.lst []] ++ [.lst [.tup [.int (t + 1), x], .tup [.int (t + 1 + v - 10), x]]]) = .ok (.cell (μ ++ [Cell.lst []] ++ [Cell.lst [.tup [.int (t + 1), x], .tup [.int (t + 1 + v - 10), x]]]).length) (μ ++ [Cell.lst []] ++ [.lst [.tup [.int (t + 1), x], .tup [.int (t + 1 + v - 10), x]]] ++ [.lst (ps ++ [.tup [.int (t + 1), x], .tup [.int (t + 1 + v - 10), x]])]) from by
          simp only [fCat, celL, getElem?_mid, get_app (get_app hq)]
          rw [if_pos (by rw [sl16]; simp; omega)]
          first | done | rfl]
        walk_at "nwp"
        exact ⟨_, [.lst []] ++ ([.lst [.tup [.int (t + 1), x], .tup [.int (t + 1 + v - 10), x]]] ++ [.lst (ps ++ [.tup [.int (t + 1), x], .tup [.int (t + 1 + v - 10), x]])]), rfl, by simp only [List.append_assoc], getElem?_mid, .inr (by rw [List.length_append, List.length_append]; omega)⟩
  cases he : row.isEmpty with
  | true =>
    walk_at "nwp"
    have e : numAt row n = 0 := by
      unfold numAt
      rw [if_pos he]
    rw [e] at fin
    exact fin
  | false =>
    walk_at "nwp"
    rw [fLenQ_at (get_app hc)]
    walk_at "nwp"
    have hl : 0 < row.length := by
      cases row with
      | nil => cases he
      | cons y r => simp
    rw [List.length_map, fMod_int (by omega), show z % (row.length : Int) = tkOf row n by
      rw [hz]
      unfold tkOf
      rw [if_neg (by rw [he]; decide)]
      exact (Int.natCast_emod _ _).symm]
    walk_at "nwp"
    rw [fIxL_row (get_app hc) he]
    walk_at "nwp"
    exact fin
end Nh
namespace Nh
open PySem PySem.Spec PyProof.Rows L2
local macro_rules | `(tactic| walk_at "nwp") => `(tactic| try simp only [wp_bind, wp_ok, wp_nrR, wps_toS, wps_nx, wps_rt, wps_seq, wp_run, wps_if, wp_if, wp_tAnd, wp_tOr, wp_tNot, startD, List.map_cons, List.map_nil, List.length_cons, List.length_nil, Nat.reduceAdd, Nat.reduceSub, List.replicate_succ, List.replicate_zero, List.cons_append, List.nil_append, List.getElem?_cons_zero, List.getElem?_cons_succ, List.set_cons_zero, List.set_cons_succ,
  asB, mVar, mC, mOp, mCB, maCons, maNil, mCall, msRet, msAsg, mgName, msDrop, msNext, msRaise, mTup, mChain, mUn, if_true, if_false, Bool.not_true, Bool.not_false, Bool.false_eq_true, reduceIte, Nat.reduceEqDiff, Nat.reduceLeDiff,
  eq_self_iff_true, true_and, isA_str, inSign_star, inSign_one, notInSign_one, fEq_str, fEq_int, fLe_int, fLt_int, fGt_int, fAdd_int, fSub_int, fNeg_int])
/-! ### what a road's row may be -/
def isN : Dat → Bool
  | .int i => decide (0 ≤ i) && decide (i ≤ 19)
  | _ => false
def Sc (d : Dat) : Prop := (∃ i, d = .int i) ∨ (∃ b, d = .bl b) ∨ ∃ s, d = .str s
theorem eq_of_wp {α : Type} {r : Res α} {a : α} {μ : Store} (h : wp r fun x μ' => x = a ∧ μ' = μ) : r = .ok a μ := by
  cases r with
  | ok x μ' => obtain ⟨rfl, rfl⟩ := h; rfl
  | raise n μ' => exact h.elim
  | stuck => exact h.elim
theorem within_is {d : Dat} (h : Sc d) (μ : Store) : f_within [d, .int 0, .int 19] μ = .ok (.bl (isN d)) μ := by
  refine eq_of_wp (wp_nr ?_)
  rw [wp_run]
  unfold b_within mAnd
  rcases h with ⟨i, rfl⟩ | ⟨b, rfl⟩ | ⟨s, rfl⟩
  · walk_at "nwp"
    rw [show f_is_whole [.int i] μ = .ok (.bl true) μ from rfl]
    walk_at "nwp"
    unfold isN
    by_cases h : 0 ≤ i
    · rw [decide_eq_true h]
      walk_at "nwp"
      rw [decide_eq_true h, Bool.true_and]
      first | trivial | exact ⟨rfl, rfl⟩ | exact ⟨rfl, trivial⟩
    · rw [decide_eq_false h]
      walk_at "nwp"
      rw [decide_eq_false h, Bool.false_and]
      first | trivial | exact ⟨rfl, rfl⟩ | exact ⟨rfl, trivial⟩
  · walk_at "nwp"
    rw [show f_is_whole [.bl b] μ = .ok (.bl false) μ from rfl]
    walk_at "nwp"
    exact ⟨rfl, by first | rfl | trivial⟩
  · walk_at "nwp"
    rw [show f_is_whole [.str s] μ = .ok (.bl false) μ from rfl]
    walk_at "nwp"
    exact ⟨rfl, by first | rfl | trivial⟩
theorem isA_list {μ : Store} {k : Nat} {ds : List Dat} (h : μ[k]? = some (.lst ds)) : fIsA tab [.cell k, .ty "list"] μ = .ok (.bl true) μ :=
  isA_k (k := "list") (by simp only [tyD, h, kindD]; rfl) (by decide +kernel)
theorem is_road_cell {μ : Store} {k : Nat} {ds : List Dat} (hk : μ[k]? = some (.lst ds)) (hl : ds.length ≤ 1000) (hs : ∀ d ∈ ds, Sc d) : wp (f__is_road [.cell k] μ) fun d μ' => d = .bl (decide (ds.length ≤ 200) && ds.all isN) ∧ ∃ g, μ' = μ ++ g := by
  refine wp_nr ?_
  rw [wp_run]
  unfold b__is_road
  walk_at "nwp"
  rw [isA_list hk]
  walk_at "nwp"
  rw [fLenQ_at hk]
  walk_at "nwp"
  by_cases h : (200 : Int) < (ds.length : Int)
  · rw [decide_eq_true h]
    walk_at "nwp"
    refine ⟨?_, [], by simp⟩
    rw [decide_eq_false (by omega)]
    rfl
  · rw [decide_eq_false h]
    walk_at "nwp"
    refine wp_lc_cell (k := k) ds (fun _ => true) (fun d => .bl (isN d)) rfl hk (by rw [sl16]; omega) (fun i d g acc hd => ?_) fun g => ?_
    · refine ⟨_, rfl, rfl, g, rfl, fun _ => ?_⟩
      walk_at "nwp"
      show wp (mCall 3 f_within (maCons (mVar 1) (maCons (mC (.int 0)) (maCons (mC (.int 19)) maNil))) [some (.cell k), some d] _) _ _
      walk_at "nwp"
      rw [within_is (hs d (List.mem_of_getElem? hd))]
      exact ⟨rfl, g, rfl⟩
    · rw [filter_yes, fAll_mid (bs := ds.map isN) (by rw [List.map_map]; rfl)]
      refine ⟨?_, _, rfl⟩
      rw [decide_eq_true (show ds.length ≤ 200 by omega), List.all_map]
      rfl
theorem is_road_no {d : Dat} (h : ∀ μ, fIsA tab [d, .ty "list"] μ = .ok (.bl false) μ) (μ : Store) : wp (f__is_road [d] μ) fun r μ' => r = .bl false ∧ ∃ g, μ' = μ ++ g := by
  refine wp_nr ?_
  rw [wp_run]
  unfold b__is_road
  walk_at "nwp"
  rw [h]
  walk_at "nwp"
  first | exact ⟨rfl, [], by simp⟩ | exact ⟨[], by simp⟩
theorem init_no {d : Dat} {k : Nat} {μ : Store} (h : wp (f__is_road [d] μ) fun r μ' => r = .bl false ∧ ∃ g, μ' = μ ++ g) : wp (f_Road___init__ [.cell k, d] μ) (fun _ _ => False) fun n μ' => n = 7 ∧ ∃ g, μ' = μ ++ g := by
  unfold f_Road___init__
  rw [wp_run]
  unfold b_Road___init__
  rw [wps_seq]
  walk_at "nwp"
  refine wp_imp h ?_
  rintro r μ1 ⟨rfl, g, rfl⟩
  walk_at "nwp"
  first | exact ⟨rfl, g, rfl⟩ | exact ⟨g, rfl⟩
theorem init_ok {k c : Nat} {row : List Int} {μ : Store} (hk : μ[k]? = some (.ins 9 [])) (hc : μ[c]? = some (.lst (row.map .int))) (hr : row.length ≤ 20) (hm : ∀ x ∈ row, 0 ≤ x ∧ x ≤ 19) :
    wp (f_Road___init__ [.cell k, .cell c] μ) fun d μ' => d = .non ∧ ∃ a b, Rd k a b row 0 [] μ' ∧ (∀ j, j < μ.length → j ≠ k → μ'[j]? = μ[j]?) ∧ μ.length ≤ a ∧ μ.length ≤ b ∧ μ.length ≤ μ'.length := by
  have hlt := (List.getElem?_eq_some_iff.mp hk).1
  unfold f_Road___init__
  rw [wp_run]
  unfold b_Road___init__
  rw [wps_seq]
  walk_at "nwp"
  refine wp_imp (is_road_cell hc (by rw [List.length_map]; omega) (fun d hd => by
    obtain ⟨i, _, rfl⟩ := List.mem_map.mp hd
    exact .inl ⟨i, rfl⟩)) ?_
  rintro r μ1 ⟨rfl, g, rfl⟩
  rw [show (decide ((row.map Dat.int).length ≤ 200) && (row.map Dat.int).all isN) = true from by
    rw [List.length_map, decide_eq_true (by omega), List.all_map, Bool.true_and, List.all_eq_true]
    intro x hx
    have := hm x hx
    show (decide (0 ≤ x) && decide (x ≤ 19)) = true
    rw [decide_eq_true this.1, decide_eq_true this.2]
    rfl]
  walk_at "nwp"
  unfold msFld mLst
  have hk1 := get_app (g := g) hk
  have hc1 := get_app (g := g) hc
  have f1 : ∀ j, j < μ.length → j ≠ k → (μ ++ g)[j]? = μ[j]? := fun j hj _ => List.getElem?_append_left hj
  have l1 : μ.length ≤ (μ ++ g).length := by simp
  generalize μ ++ g = μ1 at hk1 hc1 f1 l1 ⊢
  walk_at "nwp"
  rw [show fListOf [.cell c] μ1 = .ok (.cell μ1.length) (μ1 ++ [.lst (row.map .int)]) from by
    unfold fListOf seqD
    dsimp only
    rw [show lstAt μ1 (.cell c) = some (row.map .int) from by simp only [lstAt, hc1]]
    rfl]
  walk_at "nwp"
  rw [show insAt (μ1 ++ [Cell.lst (row.map .int)]) (.cell k) = some (k, 9, []) from by simp only [insAt, get_app hk1]]
  dsimp only
  rw [if_pos ⟨by decide +kernel, by simp⟩]
  walk_at "nwp"
  have h2 : ((μ1 ++ [Cell.lst (row.map .int)]).set k (.ins 9 (putG "_row" (.cell μ1.length) [])))[k]? = some (.ins 9 [("_row", .cell μ1.length)]) := by
    rw [List.getElem?_set_self (by simp; omega)]
    rfl
  have ha2 : ((μ1 ++ [Cell.lst (row.map .int)]).set k (.ins 9 (putG "_row" (.cell μ1.length) [])))[μ1.length]? = some (.lst (row.map .int)) := by
    rw [List.getElem?_set_ne (by omega)]
    exact getElem?_mid
  have f2 : ∀ j, j < μ.length → j ≠ k → ((μ1 ++ [Cell.lst (row.map .int)]).set k (.ins 9 (putG "_row" (.cell μ1.length) [])))[j]? = μ[j]? := fun j hj hjk => by
    rw [List.getElem?_set_ne (fun e => hjk e.symm), List.getElem?_append_left (by omega)]
    exact f1 j hj hjk
  have l2 : ((μ1 ++ [Cell.lst (row.map .int)]).set k (.ins 9 (putG "_row" (.cell μ1.length) []))).length = μ1.length + 1 := by
    rw [List.length_set, List.length_append, List.length_singleton]
  generalize (μ1 ++ [Cell.lst (row.map .int)]).set k (.ins 9 (putG "_row" (.cell μ1.length) [])) = μ2 at h2 ha2 f2 l2 ⊢
  rw [show insAt μ2 (.cell k) = some (k, 9, ([("_row", Dat.cell μ1.length)] : List (Str × Dat))) from by simp only [insAt, h2]]
  dsimp only
  rw [if_pos ⟨by decide +kernel, by simp⟩]
  walk_at "nwp"
  have h3 : (μ2.set k (.ins 9 (putG "_taken" (.int 0) [("_row", .cell μ1.length)])))[k]? = some (.ins 9 [("_row", .cell μ1.length), ("_taken", .int 0)]) := by
    rw [List.getElem?_set_self (by omega)]
    rfl
  have ha3 : (μ2.set k (.ins 9 (putG "_taken" (.int 0) [("_row", .cell μ1.length)])))[μ1.length]? = some (.lst (row.map .int)) := by
    rw [List.getElem?_set_ne (by omega)]
    exact ha2
  have f3 : ∀ j, j < μ.length → j ≠ k → (μ2.set k (.ins 9 (putG "_taken" (.int 0) [("_row", .cell μ1.length)])))[j]? = μ[j]? := fun j hj hjk => by
    rw [List.getElem?_set_ne (fun e => hjk e.symm)]
    exact f2 j hj hjk
  have l3 : (μ2.set k (.ins 9 (putG "_taken" (.int 0) [("_row", .cell μ1.length)]))).length = μ1.length + 1 := by
    rw [List.length_set, l2]
  generalize μ2.set k (.ins 9 (putG "_taken" (.int 0) [("_row", .cell μ1.length)])) = μ3 at h3 ha3 f3 l3 ⊢
  rw [if_pos (Nat.zero_le _)]
  unfold allocR
  walk_at "nwp"
  rw [show insAt (μ3 ++ [Cell.lst []]) (.cell k) = some (k, 9, ([("_row", Dat.cell μ1.length), ("_taken", .int 0)] : List (Str × Dat))) from by simp only [insAt, get_app h3]]
  dsimp only
  rw [if_pos ⟨by decide +kernel, by simp⟩]
  walk_at "nwp"
  refine ⟨μ1.length, μ3.length, ⟨?_, ?_, ?_, by omega⟩, fun j hj hjk => ?_, l1, by omega, by rw [List.length_set, List.length_append]; omega⟩
  · rw [List.getElem?_set_self (by rw [List.length_append]; omega)]
    rfl
  · rw [List.getElem?_set_ne (by omega)]
    exact get_app ha3
  · rw [List.getElem?_set_ne (by omega)]
    exact getElem?_mid
  · rw [List.getElem?_set_ne (fun e => hjk e.symm), List.getElem?_append_left (by omega)]
    exact f3 j hj hjk
/-! ### what is refused -/
theorem alone_spec {μ : Store} {k : Nat} (hk : μ[k]? = some (.exc 7)) : wp (f__law_alone [.cell k, .str "turn "] μ) fun d μ' => d = .bl true ∧ μ' = μ := by
  have ht : tyD μ (.cell k) = some (.inr 7) := by simp only [tyD, hk]
  refine wp_nr ?_
  rw [wp_run]
  unfold b__law_alone
  rw [wps_seq]
  walk_at "nwp"
  rw [show ∀ μ, fIsN (.cell k) .non μ = .ok (.bl false) μ from fun _ => rfl]
  walk_at "nwp"
  rw [show fIsA tab [.cell k, .ty "ValueError"] μ = .ok (.bl true) μ from by simp only [fIsA, ht]; rfl]
  walk_at "nwp"
  rw [show fIsA tab [.cell k, .cls 1] μ = .ok (.bl false) μ from by simp only [fIsA, ht]; rfl]
  walk_at "nwp"
  rw [show fInt1 [.bl false] μ = .ok (.int 0) μ from rfl]
  walk_at "nwp"
  rw [show fMulS (.str "name ") (.int 0) μ = .ok (.str "") μ from by rfl]
  walk_at "nwp"
  rw [show fIsA tab [.cell k, .cls 2] μ = .ok (.bl false) μ from by simp only [fIsA, ht]; rfl]
  walk_at "nwp"
  rw [show fInt1 [.bl false] μ = .ok (.int 0) μ from rfl]
  walk_at "nwp"
  rw [show fMulS (.str "record ") (.int 0) μ = .ok (.str "") μ from by rfl]
  walk_at "nwp"
  rw [show fAddS (.str "") (.str "") μ = .ok (.str "") μ from by rfl]
  walk_at "nwp"
  rw [show fIsA tab [.cell k, .cls 7] μ = .ok (.bl true) μ from by simp only [fIsA, ht]; rfl]
  walk_at "nwp"
  rw [show fInt1 [.bl true] μ = .ok (.int 1) μ from rfl]
  walk_at "nwp"
  rw [show fMulS (.str "turn ") (.int 1) μ = .ok (.str "turn ") μ from by rfl]
  walk_at "nwp"
  rw [show fAddS (.str "") (.str "turn ") μ = .ok (.str "turn ") μ from by rfl]
  walk_at "nwp"
  rw [show fIsA tab [.cell k, .cls 4] μ = .ok (.bl false) μ from by simp only [fIsA, ht]; rfl]
  walk_at "nwp"
  rw [show fInt1 [.bl false] μ = .ok (.int 0) μ from rfl]
  walk_at "nwp"
  rw [show fMulS (.str "zone ") (.int 0) μ = .ok (.str "") μ from by rfl]
  walk_at "nwp"
  rw [show fAddS (.str "turn ") (.str "") μ = .ok (.str "turn ") μ from by rfl]
  walk_at "nwp"
  rw [show fIsA tab [.cell k, .cls 6] μ = .ok (.bl false) μ from by simp only [fIsA, ht]; rfl]
  walk_at "nwp"
  rw [show fInt1 [.bl false] μ = .ok (.int 0) μ from rfl]
  walk_at "nwp"
  rw [show fMulS (.str "change ") (.int 0) μ = .ok (.str "") μ from by rfl]
  walk_at "nwp"
  rw [show fAddS (.str "turn ") (.str "") μ = .ok (.str "turn ") μ from by rfl]
  walk_at "nwp"
  rw [if_pos (show 3 ≤ sizeLine by rw [sl16]; omega)]
  walk_at "nwp"
  rw [show fIsA tab [.cell k, .tup [.cls 3, .cls 5, .cls 8]] μ = .ok (.bl false) μ from by simp only [fIsA, ht]; rfl]
  walk_at "nwp"
  rw [show fInt1 [.bl false] μ = .ok (.int 0) μ from rfl]
  walk_at "nwp"
  rw [show fMulS (.str "other ") (.int 0) μ = .ok (.str "") μ from by rfl]
  walk_at "nwp"
  rw [show fAddS (.str "turn ") (.str "") μ = .ok (.str "turn ") μ from by rfl]
  walk_at "nwp"
  exact ⟨by simp, trivial⟩
end Nh
namespace Nh
open PySem PySem.Spec PyProof.Rows L2
local macro_rules | `(tactic| walk_at "nwp") => `(tactic| try simp only [wp_bind, wp_ok, wp_nrR, wps_toS, wps_nx, wps_rt, wps_seq, wp_run, wps_if, wp_if, wp_tAnd, wp_tOr, wp_tNot, startD, List.map_cons, List.map_nil, List.length_cons, List.length_nil, Nat.reduceAdd, Nat.reduceSub, List.replicate_succ, List.replicate_zero, List.cons_append, List.nil_append, List.getElem?_cons_zero, List.getElem?_cons_succ, List.set_cons_zero, List.set_cons_succ,
  asB, mVar, mC, mOp, mCB, maCons, maNil, mCall, msRet, msAsg, mgName, msDrop, msNext, msRaise, mTup, mChain, mUn, if_true, if_false, Bool.not_true, Bool.not_false, Bool.false_eq_true, reduceIte, Nat.reduceEqDiff, Nat.reduceLeDiff,
  eq_self_iff_true, true_and, isA_str, inSign_star, inSign_one, notInSign_one, fEq_str, fEq_int, fLe_int, fLt_int, fGt_int, fAdd_int, fSub_int, fNeg_int])
def Z201 : List Dat := (List.replicate (201 : Int).toNat [Dat.int 0]).flatten
theorem Z201_len : Z201.length = 201 := by decide +kernel
theorem Z201_sc : ∀ d ∈ Z201, Sc d := by
  intro d hd
  obtain ⟨l, hl, hd⟩ := List.mem_flatten.mp hd
  rw [List.eq_of_mem_replicate hl, List.mem_singleton] at hd
  exact .inl ⟨0, hd⟩
def refTry : MS := msTry tab 0 2 1 (msDrop (mMake 9 2 f_Road___init__ (maCons (mOp fIxL (mLst (maCons (mC .non) (maCons (mTup (maCons (mC (.int 0)) (maCons (mC (.int 1)) maNil))) (maCons (mC (.str "01")) (maCons (mLst (maCons (mC (.int 20)) maNil)) (maCons (mLst (maCons (mUn fNeg (mC (.int 1))) maNil)) (maCons (mLst (maCons (mC (.bl true)) maNil)) (maCons (mOp fRepL (mLst (maCons (mC (.int 0)) maNil)) (mC (.int 201))) (maCons (mLst (maCons (mC (.str "0")) maNil)) (maCons (mC (.int 5)) maNil)))))))))) (mOp fMod (mVar 0) (mC (.int 9)))) maNil)))
def refRest : MS := msRet (mCall 2 f__law_alone (maCons (mVar 1) (maCons (mC (.str "turn ")) maNil)))
theorem b_refused_is : b__law_refused = msSeq (msAsg (mC .non) (mgName 1)) (msSeq refTry refRest) := rfl
theorem refused_spec (c : Int) (μ : Store) : wp (f__law_refused [.int c] μ) fun d μ' => d = .bl true ∧ ∃ g, μ' = μ ++ g := by
  unfold f__law_refused
  refine wp_nr ?_
  rw [wp_run]
  rw [b_refused_is, wps_seq]
  walk_at "nwp"
  have fin : ∀ (δ : Env) (μ' : Store) (k : Nat), μ'[k]? = some (.exc 7) → δ[1]? = some (some (.cell k)) → (∃ g, μ' = μ ++ g) → wps (refRest δ μ') { nx := fun _ μ' => Dat.non = .bl true ∧ ∃ g, μ' = μ ++ g, rt := fun d μ' => d = .bl true ∧ ∃ g, μ' = μ ++ g } := by
    rintro δ _ k hk hδ ⟨g, rfl⟩
    unfold refRest
    walk_at "nwp"
    rw [hδ]
    walk_at "nwp"
    refine wp_imp (alone_spec hk) ?_
    rintro d μ' ⟨rfl, rfl⟩
    exact ⟨rfl, g, rfl⟩
  unfold refTry
  refine wps_try ?_
  unfold mMake mLst
  walk_at "nwp"
  rw [if_pos (show 2 ≤ sizeLine by rw [sl16]; omega)]
  walk_at "nwp"
  rw [if_pos (show 1 ≤ sizeLine by rw [sl16]; omega)]
  unfold allocR
  walk_at "nwp"
  rw [if_pos (show 1 ≤ sizeLine by rw [sl16]; omega)]
  walk_at "nwp"
  rw [if_pos (show 1 ≤ sizeLine by rw [sl16]; omega)]
  walk_at "nwp"
  rw [if_pos (show 1 ≤ sizeLine by rw [sl16]; omega)]
  walk_at "nwp"
  have h0 := getElem?_mid (μ := μ) (x := .lst [.int 20]) (g := [])
  have e0 : ∃ g, μ ++ [Cell.lst [.int 20]] = μ ++ g := ⟨_, rfl⟩
  generalize μ ++ [Cell.lst [.int 20]] = μ1 at h0 e0 ⊢
  have h1 := getElem?_mid (μ := μ1) (x := .lst [.int (-1)]) (g := [])
  have h0 := get_app (g := [Cell.lst [.int (-1)]]) h0
  have e1 : ∃ g, μ1 ++ [Cell.lst [.int (-1)]] = μ ++ g := by
    obtain ⟨g, rfl⟩ := e0
    exact ⟨_, List.append_assoc _ _ _⟩
  generalize μ1 ++ [Cell.lst [.int (-1)]] = μ2 at h0 h1 e1 ⊢
  have h2 := getElem?_mid (μ := μ2) (x := .lst [.bl true]) (g := [])
  have h0 := get_app (g := [Cell.lst [.bl true]]) h0
  have h1 := get_app (g := [Cell.lst [.bl true]]) h1
  have e2 : ∃ g, μ2 ++ [Cell.lst [.bl true]] = μ ++ g := by
    obtain ⟨g, rfl⟩ := e1
    exact ⟨_, List.append_assoc _ _ _⟩
  generalize μ2 ++ [Cell.lst [.bl true]] = μ3 at h0 h1 h2 e2 ⊢
  rw [show fRepL (.cell μ3.length) (.int 201) (μ3 ++ [Cell.lst [.int 0]]) = .ok (.cell (μ3 ++ [Cell.lst [.int 0]]).length) (μ3 ++ [Cell.lst [.int 0]] ++ [.lst Z201]) from by
    simp only [fRepL, celL, getElem?_mid]
    rw [if_pos (by simp)]
    rfl]
  walk_at "nwp"
  have h0 := get_app (g := [Cell.lst [.int 0]]) h0
  have h1 := get_app (g := [Cell.lst [.int 0]]) h1
  have h2 := get_app (g := [Cell.lst [.int 0]]) h2
  have e3 : ∃ g, μ3 ++ [Cell.lst [.int 0]] = μ ++ g := by
    obtain ⟨g, rfl⟩ := e2
    exact ⟨_, List.append_assoc _ _ _⟩
  generalize μ3 ++ [Cell.lst [.int 0]] = μ4 at h0 h1 h2 e3 ⊢
  have h3 := getElem?_mid (μ := μ4) (x := .lst Z201) (g := [])
  have h0 := get_app (g := [Cell.lst Z201]) h0
  have h1 := get_app (g := [Cell.lst Z201]) h1
  have h2 := get_app (g := [Cell.lst Z201]) h2
  have e4 : ∃ g, μ4 ++ [Cell.lst Z201] = μ ++ g := by
    obtain ⟨g, rfl⟩ := e3
    exact ⟨_, List.append_assoc _ _ _⟩
  generalize μ4 ++ [Cell.lst Z201] = μ5 at h0 h1 h2 h3 e4 ⊢
  rw [if_pos (show 1 ≤ sizeLine by rw [sl16]; omega)]
  walk_at "nwp"
  have h4 := getElem?_mid (μ := μ5) (x := .lst [.str "0"]) (g := [])
  have h0 := get_app (g := [Cell.lst [.str "0"]]) h0
  have h1 := get_app (g := [Cell.lst [.str "0"]]) h1
  have h2 := get_app (g := [Cell.lst [.str "0"]]) h2
  have h3 := get_app (g := [Cell.lst [.str "0"]]) h3
  have e5 : ∃ g, μ5 ++ [Cell.lst [.str "0"]] = μ ++ g := by
    obtain ⟨g, rfl⟩ := e4
    exact ⟨_, List.append_assoc _ _ _⟩
  generalize μ5 ++ [Cell.lst [.str "0"]] = μ6 at h0 h1 h2 h3 h4 e5 ⊢
  rw [if_pos (show 9 ≤ sizeLine by rw [sl16]; omega)]
  walk_at "nwp"
  rw [fMod_int (by omega)]
  walk_at "nwp"
  obtain ⟨d, e, hd⟩ := fIxL_new (μ := μ6) (ds := [.non, .tup [.int 0, .int 1], .str "01", .cell μ.length, .cell μ1.length, .cell μ2.length, .cell μ4.length, .cell μ5.length, .int 5]) (i := c % 9) (Int.emod_nonneg _ (by omega)) (Int.emod_lt_of_pos _ (by decide))
  rw [e]
  clear e
  walk_at "nwp"
  have h0 := get_app (g := [Cell.lst [.non, .tup [.int 0, .int 1], .str "01", .cell μ.length, .cell μ1.length, .cell μ2.length, .cell μ4.length, .cell μ5.length, .int 5]]) h0
  have h1 := get_app (g := [Cell.lst [.non, .tup [.int 0, .int 1], .str "01", .cell μ.length, .cell μ1.length, .cell μ2.length, .cell μ4.length, .cell μ5.length, .int 5]]) h1
  have h2 := get_app (g := [Cell.lst [.non, .tup [.int 0, .int 1], .str "01", .cell μ.length, .cell μ1.length, .cell μ2.length, .cell μ4.length, .cell μ5.length, .int 5]]) h2
  have h3 := get_app (g := [Cell.lst [.non, .tup [.int 0, .int 1], .str "01", .cell μ.length, .cell μ1.length, .cell μ2.length, .cell μ4.length, .cell μ5.length, .int 5]]) h3
  have h4 := get_app (g := [Cell.lst [.non, .tup [.int 0, .int 1], .str "01", .cell μ.length, .cell μ1.length, .cell μ2.length, .cell μ4.length, .cell μ5.length, .int 5]]) h4
  have e6 : ∃ g, μ6 ++ [Cell.lst [.non, .tup [.int 0, .int 1], .str "01", .cell μ.length, .cell μ1.length, .cell μ2.length, .cell μ4.length, .cell μ5.length, .int 5]] = μ ++ g := by
    obtain ⟨g, rfl⟩ := e5
    exact ⟨_, List.append_assoc _ _ _⟩
  generalize μ6 ++ [Cell.lst [.non, .tup [.int 0, .int 1], .str "01", .cell μ.length, .cell μ1.length, .cell μ2.length, .cell μ4.length, .cell μ5.length, .int 5]] = μ7 at h0 h1 h2 h3 h4 e6 ⊢
  have h0 := get_app (g := [Cell.ins 9 []]) h0
  have h1 := get_app (g := [Cell.ins 9 []]) h1
  have h2 := get_app (g := [Cell.ins 9 []]) h2
  have h3 := get_app (g := [Cell.ins 9 []]) h3
  have h4 := get_app (g := [Cell.ins 9 []]) h4
  have e7 : ∃ g, μ7 ++ [Cell.ins 9 []] = μ ++ g := by
    obtain ⟨g, rfl⟩ := e6
    exact ⟨_, List.append_assoc _ _ _⟩
  have hno : wp (f__is_road [d] (μ7 ++ [Cell.ins 9 []])) fun r μ' => r = .bl false ∧ ∃ g, μ' = μ7 ++ [Cell.ins 9 []] ++ g := by
    have one : ∀ {k : Nat} {ds : List Dat}, (μ7 ++ [Cell.ins 9 []])[k]? = some (.lst ds) → ds.length ≤ 1000 → (∀ d ∈ ds, Sc d) → (decide (ds.length ≤ 200) && ds.all isN) = false → wp (f__is_road [.cell k] (μ7 ++ [Cell.ins 9 []])) fun r μ' => r = .bl false ∧ ∃ g, μ' = μ7 ++ [Cell.ins 9 []] ++ g := by
      intro k ds hk hl hs hf
      refine wp_imp (is_road_cell hk hl hs) ?_
      rintro r μ' ⟨rfl, z⟩
      rw [hf]
      exact ⟨rfl, z⟩
    simp only [List.mem_cons, List.not_mem_nil, or_false] at hd
    rcases hd with rfl | rfl | rfl | rfl | rfl | rfl | rfl | rfl | rfl
    · exact is_road_no (fun _ => by rfl) _
    · exact is_road_no (fun _ => by rfl) _
    · exact is_road_no (fun _ => by rfl) _
    · exact one h0 (by simp) (by simp [Sc]) (by decide)
    · exact one h1 (by simp) (by simp [Sc]) (by decide)
    · exact one h2 (by simp) (by simp [Sc]) (by decide)
    · exact one h3 (by rw [Z201_len]; omega) Z201_sc (by rw [Z201_len]; rfl)
    · exact one h4 (by simp) (by simp [Sc]) (by decide)
    · exact is_road_no (fun _ => by rfl) _
  refine wp_mono (init_no hno) (fun _ _ z => z.elim) ?_
  rintro n μ8 ⟨rfl, g8, rfl⟩
  refine ⟨rfl, by decide, ?_⟩
  obtain ⟨g7, e7⟩ := e7
  rw [e7]
  have k1 : (μ ++ g7 ++ g8 ++ [Cell.exc 7])[(μ ++ g7 ++ g8).length]? = some (.exc 7) := getElem?_mid
  have k2 : ∃ g, μ ++ g7 ++ g8 ++ [Cell.exc 7] = μ ++ g := ⟨g7 ++ (g8 ++ [.exc 7]), by rw [List.append_assoc, List.append_assoc]⟩
  have k3 := fin [some (.int c), some (.cell (μ ++ g7 ++ g8).length), none] _ _ k1 rfl k2
  exact k3
end Nh
namespace Nh
open PySem PySem.Spec PyProof.Rows L2
local macro_rules | `(tactic| walk_at "nwp") => `(tactic| try simp only [wp_bind, wp_ok, wp_nrR, wps_toS, wps_nx, wps_rt, wps_seq, wp_run, wps_if, wp_if, wp_tAnd, wp_tOr, wp_tNot, startD, List.map_cons, List.map_nil, List.length_cons, List.length_nil, Nat.reduceAdd, Nat.reduceSub, List.replicate_succ, List.replicate_zero, List.cons_append, List.nil_append, List.getElem?_cons_zero, List.getElem?_cons_succ, List.set_cons_zero, List.set_cons_succ,
  asB, mVar, mC, mOp, mCB, maCons, maNil, mCall, msRet, msAsg, mgName, msDrop, msNext, msRaise, mTup, mChain, mUn, if_true, if_false, Bool.not_true, Bool.not_false, Bool.false_eq_true, reduceIte, Nat.reduceEqDiff, Nat.reduceLeDiff,
  eq_self_iff_true, true_and, isA_str, inSign_star, inSign_one, notInSign_one, fEq_str, fEq_int, fLe_int, fLt_int, fGt_int, fAdd_int, fSub_int, fNeg_int])
def lsBody : MS := msSeq (msAsg (mOp fIxL (mLst (maCons (mTup (maCons (mC (.str "letter")) (maCons (mVar 5) maNil))) (maCons (mC (.str "same")) (maCons (mC .non) (maCons (mTup (maCons (mOp fDiv (mVar 5) (mC (.int 2))) (maCons (mC (.str "x")) maNil))) maNil))))) (mOp fMod (mOp fDiv (mVar 8) (mOp fAdd (mC (.int 5)) (mVar 9))) (mC (.int 4)))) (mgName 10)) (msSeq (msIf (asB (mOp fNotN (mMeth 9 "send" 3 f_Road_send (mVar 3) (maCons (mVar 10) (maCons (mVar 6) maNil))) (mC .non))) (msRet (mC (.bl false))) msNext) (msSeq (msAsg (mCall 5 f__law_sent (maCons (mVar 4) (maCons (mVar 1) (maCons (mVar 5) (maCons (mVar 10) (maCons (mVar 6) maNil)))))) (mgName 4)) (msAsg (mOp fAdd (mVar 5) (mC (.int 1))) (mgName 5))))
def laBody : MS := msSeq (msAsg (mMeth 9 "due" 2 f_Road_due (mVar 3) (maCons (mVar 6) maNil)) (mgName 12)) (msSeq (msAsg (mLc (miList (mVar 4)) (mgTup [15, 10]) (asB (mOp fEq (mVar 15) (mVar 6))) (mVar 10) [15, 10]) (mgName 13)) (msSeq (msAsg (mLc (miList (mVar 4)) (mgName 14) (asB (mOp fNe (mOp fIxT (mVar 14) (mC (.int 0))) (mVar 6))) (mVar 14) [14]) (mgName 4)) (msSeq (msIf (mtOr (mtNot (asB (mCB (fIsA tab) (maCons (mVar 12) (maCons (mC (.ty "list")) maNil))))) (mtOr (asB (mOp fNeD (mVar 12) (mVar 13))) (asB (mOp fNe (mMeth 9 "many" 1 f_Road_many (mVar 3) maNil) (mCB fLenQ (maCons (mVar 4) maNil)))))) (msRet (mC (.bl false))) msNext) (msDrop (mBM fAppend (mVar 12) (maCons (mC (.str "more")) maNil))))))
def ltBody : MS := msSeq (msAsg (mOp fAdd (mVar 6) (mC (.int 1))) (mgName 6)) (msSeq (msIf (asB (mOp fNeD (mMeth 9 "due" 2 f_Road_due (mVar 3) (maCons (mVar 6) maNil)) (mLc (miList (mVar 4)) (mgTup [15, 10]) (asB (mOp fEq (mVar 15) (mVar 6))) (mVar 10) [15, 10]))) (msRet (mC (.bl false))) msNext) (msAsg (mLc (miList (mVar 4)) (mgName 14) (asB (mOp fNe (mOp fIxT (mVar 14) (mC (.int 0))) (mVar 6))) (mVar 14) [14]) (mgName 4)))
def lf0 : MS := msAsg (mCall 2 f__law_spread (maCons (mOp fIxL (mVar 0) (mOp fAdd (mC (.int 3)) (mVar 7))) (maCons (mVar 7) maNil))) (mgName 8)
def lf1 : MS := msFor (miRange1 (maCons (mIf (asB (mOp fLt (mVar 5) (mC (.int 60)))) (mOp fIxL (mLst (maCons (mC (.int 0)) (maCons (mC (.int 1)) (maCons (mC (.int 1)) (maCons (mC (.int 2)) (maCons (mC (.int 6)) maNil)))))) (mOp fMod (mVar 8) (mC (.int 5)))) (mC (.int 0))) maNil)) (mgName 9) lsBody
def lf2 : MS := msIf (mtOr (mtNot (asB (mCall 1 f__law_refused (maCons (mOp fDiv (mVar 8) (mC (.int 21))) maNil)))) (asB (mOp fNe (mMeth 9 "many" 1 f_Road_many (mVar 3) maNil) (mCB fLenQ (maCons (mVar 4) maNil))))) (msRet (mC (.bl false))) msNext
def lf3 : MS := msAsg (mOp fAdd (mOp fAdd (mVar 6) (mC (.int 1))) (mOp fDiv (mOp fMod (mOp fDiv (mVar 8) (mC (.int 200))) (mC (.int 7))) (mC (.int 6)))) (mgName 6)
def lf4 : MS := msFor (miRange1 (maCons (mOp fAdd (mC (.int 1)) (mOp fMod (mOp fDiv (mVar 8) (mC (.int 100))) (mC (.int 2)))) maNil)) (mgName 11) laBody
def lfBody : MS := msSeq lf0 (msSeq lf1 (msSeq lf2 (msSeq lf3 (lf4))))
def lb0 : MS := msAsg (mCall 1 f__law_row (maCons (mVar 0) maNil)) (mgName 1)
def lb1 : MS := msAsg (mCB fListOf (maCons (mVar 1) maNil)) (mgName 2)
def lb2 : MS := msAsg (mMake 9 2 f_Road___init__ (maCons (mVar 2) maNil)) (mgName 3)
def lb3 : MS := msDrop (mBM fAppend (mVar 2) (maCons (mC (.int 5)) maNil))
def lb4 : MS := msAsg (mLst maNil) (mgName 4)
def lb5 : MS := msAsg (mC (.int 0)) (mgName 5)
def lb6 : MS := msAsg (mOp fMod (mCall 2 f__law_draw (maCons (mVar 0) (maCons (mC (.int 2)) maNil))) (mOp fPow (mC (.int 10)) (mC (.int 9)))) (mgName 6)
def lb7 : MS := msFor (miRange1 (maCons (mCB fMax2 (maCons (mC (.int 0)) (maCons (mOp fSub (mCB fLenQ (maCons (mVar 0) maNil)) (mC (.int 3))) maNil))) maNil)) (mgName 7) lfBody
def lb8 : MS := msFor (miRange1 (maCons (mC (.int 22)) maNil)) (mgName 9) ltBody
def lb9 : MS := msRet (mAnd (mOp fEq (mMeth 9 "many" 1 f_Road_many (mVar 3) maNil) (mCB fLenQ (maCons (mVar 4) maNil))) (mNot (mCB (fIsA tab) (maCons (mMeth 9 "many" 1 f_Road_many (mVar 3) maNil) (maCons (mC (.ty "bool")) maNil)))))
theorem b_law_is : b_law = msSeq lb0 (msSeq lb1 (msSeq lb2 (msSeq lb3 (msSeq lb4 (msSeq lb5 (msSeq lb6 (msSeq lb7 (msSeq lb8 (lb9))))))))) := rfl
/-! ### ranges -/
theorem wps_rangeW {e : M Dat} {g : MG} {b : MS} {P : Ps} {δ : Env} {μ : Store}
    (h : wp (e δ μ) (fun d μ1 => ∃ (j : Int) (I : Nat → Env → Store → Prop), d = .int j ∧ 0 ≤ j ∧ j < 2 ^ 62 ∧ I 0 δ μ1 ∧
      (∀ (i : Nat) (z : Int) (δ : Env) (μ : Store), z = i → i < j.toNat → I i δ μ → ∃ δ1, g (.int z) δ = some δ1 ∧ wps (b δ1 μ) { nx := I (i + 1), ct := I (i + 1), rt := P.rt, bk := P.nx, ra := P.ra }) ∧
      ∀ δ μ, I j.toNat δ μ → P.nx δ μ) fun n μ => P.ra n δ μ) : wps (msFor (miRange1 (maCons e maNil)) g b δ μ) P := by
  cases he : e δ μ with
  | ok d μ1 =>
    rw [he] at h
    obtain ⟨j, I, rfl, h0, h1, hI, step, hd⟩ := h
    rw [msFor_q (lo := 0) (n := j.toNat) (μ1 := μ1) (by
      unfold miRange1 maCons maNil
      rw [he]
      simp only [Res.bind]
      rw [if_pos ⟨by omega, h1⟩])]
    refine wps_for (s := srcQ 0 j.toNat) (rangeD 0 j.toNat) I rfl (rangeD_len _ _).symm (fun _ _ => rfl) (fun _ => rfl) hI ?_ (fun δ μ z => hd δ μ (by rw [rangeD_len] at z; exact z))
    intro i d δ μ hd hi
    obtain ⟨hlt, rfl⟩ := rangeD_get hd
    exact step i _ δ μ (Int.zero_add _) hlt hi
  | raise n μ1 =>
    rw [he] at h
    unfold msFor miRange1 maCons maNil
    rw [he]
    exact h
  | stuck => rw [he] at h; exact h.elim
/-! ### the law in step -/
def Jv (ns row : List Int) (n : Nat) (t : Int) (U : List Pr) (x7 x8 : Option Dat) (δ : Env) (μ : Store) : Prop :=
  ∃ (c1 c2 w a b q : Nat) (z : Int) (x9 x10 x11 x12 x13 x14 x15 : Option Dat),
    δ = [some (.ro ns), some (.cell c1), some (.cell c2), some (.cell w), some (.cell q), some (.int z), some (.int t), x7, x8, x9, x10, x11, x12, x13, x14, x15] ∧ z = n ∧
    Rd w a b row (tkOf row n) (U.map Pr.dat) μ ∧ μ[c1]? = some (.lst (row.map .int)) ∧ μ[q]? = some (.lst (U.map Pr.dat)) ∧ q ≠ b ∧ c1 ≠ b
theorem Rd.ne {w a b : Nat} {row : List Int} {tk : Int} {ps ds : List Dat} {μ : Store} {q : Nat} (h : Rd w a b row tk ps μ) (hq : μ[q]? = some (.lst ds)) : q ≠ w := fun e => by
  have := h.hw.symm.trans (e ▸ hq)
  cases this
theorem goes_is (row : List Int) (n : Nat) (t : Int) (x : Thg) : goes row n t x.dat = ((dl (numAt row n)).map fun y => (⟨t + 1 + y, x⟩ : Pr)).map Pr.dat := by
  unfold goes
  rw [List.map_map]
  rfl
theorem lsBody_ok {ns row : List Int} {n : Nat} {t : Int} {U : List Pr} {x7 : Option Dat} {c s : Int} {δ : Env} {μ : Store} (hr : row.length ≤ 20) (hn : n ≤ 100) (hU : U.length ≤ 2 * n) (hs : 0 ≤ s ∧ s ≤ 100) {P : Ps} (h : Jv ns row n t U x7 (some (.int c)) δ μ)
    (hP : ∀ δ' μ' U', Jv ns row (n + 1) t U' x7 (some (.int c)) δ' μ' → U'.length ≤ 2 * (n + 1) → P.nx δ' μ') : wps (lsBody (δ.set 9 (some (.int s))) μ) P := by
  obtain ⟨c1, c2, w, a, b, q, z, x9, x10, x11, x12, x13, x14, x15, rfl, hz, hR, hc1, hq, hqb, hcb⟩ := h
  unfold lsBody mLst
  try rw [wps_seq]
  walk_at "nwp"
  rw [if_pos (show 2 ≤ sizeLine by rw [sl16]; omega)]
  walk_at "nwp"
  rw [fDiv_int (by omega)]
  walk_at "nwp"
  rw [if_pos (show 2 ≤ sizeLine by rw [sl16]; omega)]
  walk_at "nwp"
  rw [if_pos (show 4 ≤ sizeLine by rw [sl16]; omega)]
  unfold allocR
  walk_at "nwp"
  rw [fDiv_int (by omega)]
  walk_at "nwp"
  rw [fMod_int (by omega)]
  walk_at "nwp"
  obtain ⟨d, e, hd⟩ := fIxL_new (μ := μ) (ds := [.tup [.str "letter", .int z], .str "same", .non, .tup [.int (z / 2), .str "x"]]) (i := c / (5 + s) % 4) (Int.emod_nonneg _ (by omega)) (Int.emod_lt_of_pos _ (by decide))
  rw [e]
  clear e
  walk_at "nwp"
  obtain ⟨x, rfl⟩ : ∃ x : Thg, d = x.dat := by
    simp only [List.mem_cons, List.not_mem_nil, or_false] at hd
    rcases hd with rfl | rfl | rfl | rfl
    · exact ⟨.tA z, rfl⟩
    · exact ⟨.tB, rfl⟩
    · exact ⟨.tC, rfl⟩
    · exact ⟨.tD (z / 2), rfl⟩
  clear hd
  have hR := hR.app [.lst [.tup [.str "letter", .int z], .str "same", .non, .tup [.int (z / 2), .str "x"]]]
  have hc1 := get_app (g := [.lst [.tup [.str "letter", .int z], .str "same", .non, .tup [.int (z / 2), .str "x"]]]) hc1
  have hq := get_app (g := [.lst [.tup [.str "letter", .int z], .str "same", .non, .tup [.int (z / 2), .str "x"]]]) hq
  generalize μ ++ [Cell.lst [.tup [.str "letter", .int z], .str "same", .non, .tup [.int (z / 2), .str "x"]]] = μ1 at hR hc1 hq ⊢
  try rw [wps_seq]
  walk_at "nwp"
  rw [hR.meth (i := 3) rfl (by rfl)]
  walk_at "nwp"
  have hlU : (U.map Pr.dat).length ≤ 1000 := by
    rw [List.length_map]
    omega
  refine wp_imp (send_spec hR (by omega) hlU x.dat t) ?_
  rintro d μ2 ⟨rfl, h2, f2, l2⟩
  rw [show ∀ μ, fNotN .non .non μ = .ok (.bl false) μ from fun _ => rfl]
  walk_at "nwp"
  have hc2 : μ2[c1]? = some (.lst (row.map .int)) := (f2 c1 (List.getElem?_eq_some_iff.mp hc1).1 (hR.ne hc1) hcb).trans hc1
  have hq2 : μ2[q]? = some (.lst (U.map Pr.dat)) := (f2 q (List.getElem?_eq_some_iff.mp hq).1 (hR.ne hq) hqb).trans hq
  have lb := h2.lb
  refine wp_imp (sent_spec hz hq2 hc2 hlU x.dat t) ?_
  rintro d μ3 ⟨q', g, rfl, rfl, hq', hne⟩
  walk_at "nwp"
  refine hP _ _ (U ++ (dl (numAt row n)).map fun y => (⟨t + 1 + y, x⟩ : Pr)) ⟨c1, c2, w, a, b, q', z + 1, _, _, _, _, _, _, _, rfl, by omega, ?_, get_app hc2, ?_, ?_, hcb⟩ ?_
  · rw [List.map_append, ← goes_is]
    exact h2.app g
  · rw [List.map_append, ← goes_is]
    exact hq'
  · rcases hne with rfl | hne
    · exact hqb
    · omega
  · rw [List.length_append, List.length_map]
    have := dl_len (numAt row n)
    omega
theorem law_comp1 {μ : Store} {q : Nat} {U : List Pr} {t : Int} {δ : Env} {Q : Dat → Store → Prop} {R : Nat → Store → Prop} (hq : μ[q]? = some (.lst (U.map Pr.dat))) (hU : U.length ≤ 1000) (h4 : δ[4]? = some (some (.cell q))) (h6 : δ[6]? = some (some (.int t))) (hl : δ.length = 16)
    (h : ∀ g, Q (.cell μ.length) (μ ++ (.lst ((atT t U).map Thg.dat) :: g))) : wp (mLc (miList (mVar 4)) (mgTup [15, 10]) (asB (mOp fEq (mVar 15) (mVar 6))) (mVar 10) [15, 10] δ μ) Q R := by
  refine wp_lc_cell (k := q) (U.map Pr.dat) (pAt t) sndD (by unfold mVar; rw [h4]) hq (by rw [sl16, List.length_map]; omega) (fun i d g acc hd => ?_) fun g => by rw [pAt_filter]; exact h g
  rw [List.getElem?_map] at hd
  cases hp : U[i]? with
  | none => rw [hp] at hd; cases hd
  | some p =>
    rw [hp] at hd
    cases hd
    refine ⟨((wipeD δ [15, 10]).set 15 (some (.int p.1))).set 10 (some p.2.dat), rfl, ?_⟩
    have w15 : (((wipeD δ [15, 10]).set 15 (some (.int p.1))).set 10 (some p.2.dat))[15]? = some (some (.int p.1)) := by
      rw [List.getElem?_set_ne (by omega), List.getElem?_set_self (by simp [wipeD, hl])]
    have w10 : (((wipeD δ [15, 10]).set 15 (some (.int p.1))).set 10 (some p.2.dat))[10]? = some (some p.2.dat) := by
      rw [List.getElem?_set_self (by simp [wipeD, hl])]
    have w6 : (((wipeD δ [15, 10]).set 15 (some (.int p.1))).set 10 (some p.2.dat))[6]? = some (some (.int t)) := by
      rw [List.getElem?_set_ne (by omega), List.getElem?_set_ne (by omega)]
      simp [wipeD, h6]
    unfold asB mOp mVar
    rw [w15]
    simp only [Res.bind]
    rw [w6]
    simp only [Res.bind, nrR]
    rw [fEq_int, w10]
    exact ⟨rfl, g, rfl, fun _ => ⟨rfl, g, rfl⟩⟩
theorem law_comp2 {μ : Store} {q : Nat} {U : List Pr} {t : Int} {δ : Env} {Q : Dat → Store → Prop} {R : Nat → Store → Prop} (hq : μ[q]? = some (.lst (U.map Pr.dat))) (hU : U.length ≤ 1000) (h4 : δ[4]? = some (some (.cell q))) (h6 : δ[6]? = some (some (.int t))) (hl : δ.length = 16)
    (h : ∀ g, Q (.cell μ.length) (μ ++ (.lst ((offT t U).map Pr.dat) :: g))) : wp (mLc (miList (mVar 4)) (mgName 14) (asB (mOp fNe (mOp fIxT (mVar 14) (mC (.int 0))) (mVar 6))) (mVar 14) [14] δ μ) Q R := by
  refine wp_lc_cell (k := q) (U.map Pr.dat) (fun d => !pAt t d) id (by unfold mVar; rw [h4]) hq (by rw [sl16, List.length_map]; omega) (fun i d g acc hd => ?_) fun g => by rw [pOff_filter]; exact h g
  rw [List.getElem?_map] at hd
  cases hp : U[i]? with
  | none => rw [hp] at hd; cases hd
  | some p =>
    rw [hp] at hd
    cases hd
    refine ⟨(wipeD δ [14]).set 14 (some p.dat), rfl, ?_⟩
    have w14 : ((wipeD δ [14]).set 14 (some p.dat))[14]? = some (some p.dat) := by
      rw [List.getElem?_set_self (by simp [wipeD, hl])]
    have w6 : ((wipeD δ [14]).set 14 (some p.dat))[6]? = some (some (.int t)) := by
      rw [List.getElem?_set_ne (by omega)]
      simp [wipeD, h6]
    unfold asB mOp mVar mC
    rw [w14]
    simp only [Res.bind]
    rw [w6]
    simp only [Res.bind]
    rw [show ∀ μ, fIxT p.dat (.int 0) μ = .ok (.int p.1) μ from fun μ => rfl]
    simp only [Res.bind, nrR]
    rw [fNe_int]
    exact ⟨rfl, g, rfl, fun _ => ⟨rfl, g, rfl⟩⟩
end Nh
namespace Nh
open PySem PySem.Spec PyProof.Rows L2
local macro_rules | `(tactic| walk_at "nwp") => `(tactic| try simp only [wp_bind, wp_ok, wp_nrR, wps_toS, wps_nx, wps_rt, wps_seq, wp_run, wps_if, wp_if, wp_tAnd, wp_tOr, wp_tNot, startD, List.map_cons, List.map_nil, List.length_cons, List.length_nil, Nat.reduceAdd, Nat.reduceSub, List.replicate_succ, List.replicate_zero, List.cons_append, List.nil_append, List.getElem?_cons_zero, List.getElem?_cons_succ, List.set_cons_zero, List.set_cons_succ,
  asB, mVar, mC, mOp, mCB, maCons, maNil, mCall, msRet, msAsg, mgName, msDrop, msNext, msRaise, mTup, mChain, mUn, if_true, if_false, Bool.not_true, Bool.not_false, Bool.false_eq_true, reduceIte, Nat.reduceEqDiff, Nat.reduceLeDiff,
  eq_self_iff_true, true_and, isA_str, inSign_star, inSign_one, notInSign_one, fEq_str, fEq_int, fLe_int, fLt_int, fGt_int, fAdd_int, fSub_int, fNeg_int])
theorem Rd.set {w a b : Nat} {row : List Int} {tk : Int} {ps : List Dat} {μ : Store} (h : Rd w a b row tk ps μ) {j : Nat} (x : Cell) (h1 : j ≠ w) (h2 : j ≠ a) (h3 : j ≠ b) : Rd w a b row tk ps (μ.set j x) :=
  ⟨by rw [List.getElem?_set_ne h1]; exact h.hw, by rw [List.getElem?_set_ne h2]; exact h.ha, by rw [List.getElem?_set_ne h3]; exact h.hb, h.ab⟩
theorem offT_len (t : Int) (U : List Pr) : (offT t U).length ≤ U.length := List.length_filter_le _ _
theorem laBody_ok {ns row : List Int} {n : Nat} {t : Int} {U : List Pr} {x7 x8 : Option Dat} {s : Int} {δ : Env} {μ : Store} (hU : U.length ≤ 1000) {P : Ps} (h : Jv ns row n t U x7 x8 δ μ)
    (hP : ∀ δ' μ', Jv ns row n t (offT t U) x7 x8 δ' μ' → P.nx δ' μ') : wps (laBody (δ.set 11 (some (.int s))) μ) P := by
  obtain ⟨c1, c2, w, a, b, q, z, x9, x10, x11, x12, x13, x14, x15, rfl, hz, hR, hc1, hq, hqb, hcb⟩ := h
  unfold laBody
  try rw [wps_seq]
  walk_at "nwp"
  rw [hR.meth (i := 3) rfl (by rfl)]
  walk_at "nwp"
  refine wp_imp (due_spec hR (by omega) t) ?_
  rintro d μ2 ⟨qf, b', rfl, hf, h2, f2, lqf, lb', nfb, lf2, l2⟩
  have lc1 := (List.getElem?_eq_some_iff.mp hc1).1
  have lq := (List.getElem?_eq_some_iff.mp hq).1
  have hc2 : μ2[c1]? = some (.lst (row.map .int)) := (f2 c1 lc1 (hR.ne hc1)).trans hc1
  have hq2 : μ2[q]? = some (.lst (U.map Pr.dat)) := (f2 q lq (hR.ne hq)).trans hq
  have ha2 := (List.getElem?_eq_some_iff.mp hR.ha).1
  have hw2 := hR.lw
  try rw [wps_seq]
  walk_at "nwp"
  refine law_comp1 (q := q) hq2 hU rfl rfl rfl fun g => ?_
  have h3 := h2.app (Cell.lst ((atT t U).map Thg.dat) :: g)
  have hc3 := get_app (g := Cell.lst ((atT t U).map Thg.dat) :: g) hc2
  have hq3 := get_app (g := Cell.lst ((atT t U).map Thg.dat) :: g) hq2
  have hf3 := get_app (g := Cell.lst ((atT t U).map Thg.dat) :: g) hf
  have hd3 : (μ2 ++ (Cell.lst ((atT t U).map Thg.dat) :: g))[μ2.length]? = some (.lst ((atT t U).map Thg.dat)) := getElem?_mid
  have l3 : μ2.length ≤ (μ2 ++ (Cell.lst ((atT t U).map Thg.dat) :: g)).length := by simp
  generalize μ2 ++ (Cell.lst ((atT t U).map Thg.dat) :: g) = μ3 at h3 hc3 hq3 hf3 hd3 l3 ⊢
  try rw [wps_seq]
  walk_at "nwp"
  refine law_comp2 (q := q) hq3 hU rfl rfl rfl fun g => ?_
  have h4 := h3.app (Cell.lst ((offT t U).map Pr.dat) :: g)
  have hc4 := get_app (g := Cell.lst ((offT t U).map Pr.dat) :: g) hc3
  have hf4 := get_app (g := Cell.lst ((offT t U).map Pr.dat) :: g) hf3
  have hd4 := get_app (g := Cell.lst ((offT t U).map Pr.dat) :: g) hd3
  have hq4 : (μ3 ++ (Cell.lst ((offT t U).map Pr.dat) :: g))[μ3.length]? = some (.lst ((offT t U).map Pr.dat)) := getElem?_mid
  have l4 : μ3.length ≤ (μ3 ++ (Cell.lst ((offT t U).map Pr.dat) :: g)).length := by simp
  generalize μ3 ++ (Cell.lst ((offT t U).map Pr.dat) :: g) = μ4 at h4 hc4 hf4 hd4 hq4 l4 ⊢
  try rw [wps_seq]
  walk_at "nwp"
  rw [isA_list hf4]
  walk_at "nwp"
  rw [neD_things hf4 hd4]
  walk_at "nwp"
  rw [h4.meth (i := 3) rfl (by rfl)]
  walk_at "nwp"
  refine wp_imp (many_spec h4) ?_
  rintro d μ5 ⟨rfl, rfl⟩
  walk_at "nwp"
  rw [fLenQ_at hq4]
  walk_at "nwp"
  rw [fNe_int, decide_eq_true rfl]
  walk_at "nwp"
  unfold mBM
  walk_at "nwp"
  rw [show (lstAt μ5 (.cell qf)).isSome = true from by simp only [lstAt, hf4, Option.isSome_some]]
  walk_at "nwp"
  rw [show fAppend (.cell qf) [.str "more"] μ5 = .ok .non (μ5.set qf (.lst ((atT t U).map Thg.dat ++ [.str "more"]))) from by
    simp only [fAppend, hf4]
    rw [if_pos (by
      rw [sl16, List.length_map]
      unfold atT
      rw [List.length_map]
      have := List.length_filter_le (fun p : Pr => decide (p.1 = t)) U
      omega)]]
  walk_at "nwp"
  refine hP _ _ ⟨c1, c2, w, a, b', μ3.length, z, _, _, _, _, _, _, _, rfl, hz, h4.set _ (by omega) (by omega) nfb, ?_, ?_, ?_, by omega⟩
  · rw [List.getElem?_set_ne (by omega)]
    exact hc4
  · rw [List.getElem?_set_ne (by omega)]
    exact hq4
  · have := h2.lb
    omega
theorem ltBody_ok {ns row : List Int} {n : Nat} {t : Int} {U : List Pr} {x7 x8 : Option Dat} {s : Int} {δ : Env} {μ : Store} (hU : U.length ≤ 1000) {P : Ps} (h : Jv ns row n t U x7 x8 δ μ)
    (hP : ∀ δ' μ', Jv ns row n (t + 1) (offT (t + 1) U) x7 x8 δ' μ' → P.nx δ' μ') : wps (ltBody (δ.set 9 (some (.int s))) μ) P := by
  obtain ⟨c1, c2, w, a, b, q, z, x9, x10, x11, x12, x13, x14, x15, rfl, hz, hR, hc1, hq, hqb, hcb⟩ := h
  unfold ltBody
  try rw [wps_seq]
  walk_at "nwp"
  try rw [wps_seq]
  walk_at "nwp"
  rw [hR.meth (i := 3) rfl (by rfl)]
  walk_at "nwp"
  generalize t + 1 = t at hP ⊢
  refine wp_imp (due_spec hR (by omega) t) ?_
  rintro d μ2 ⟨qf, b', rfl, hf, h2, f2, lqf, lb', nfb, lf2, l2⟩
  have lc1 := (List.getElem?_eq_some_iff.mp hc1).1
  have lq := (List.getElem?_eq_some_iff.mp hq).1
  have hc2 : μ2[c1]? = some (.lst (row.map .int)) := (f2 c1 lc1 (hR.ne hc1)).trans hc1
  have hq2 : μ2[q]? = some (.lst (U.map Pr.dat)) := (f2 q lq (hR.ne hq)).trans hq
  have ha2 := (List.getElem?_eq_some_iff.mp hR.ha).1
  have hw2 := hR.lw
  walk_at "nwp"
  refine law_comp1 (q := q) hq2 hU rfl rfl rfl fun g => ?_
  have h3 := h2.app (Cell.lst ((atT t U).map Thg.dat) :: g)
  have hc3 := get_app (g := Cell.lst ((atT t U).map Thg.dat) :: g) hc2
  have hq3 := get_app (g := Cell.lst ((atT t U).map Thg.dat) :: g) hq2
  have hf3 := get_app (g := Cell.lst ((atT t U).map Thg.dat) :: g) hf
  have hd3 : (μ2 ++ (Cell.lst ((atT t U).map Thg.dat) :: g))[μ2.length]? = some (.lst ((atT t U).map Thg.dat)) := getElem?_mid
  have l3 : μ2.length ≤ (μ2 ++ (Cell.lst ((atT t U).map Thg.dat) :: g)).length := by simp
  generalize μ2 ++ (Cell.lst ((atT t U).map Thg.dat) :: g) = μ3 at h3 hc3 hq3 hf3 hd3 l3 ⊢
  rw [neD_things hf3 hd3]
  walk_at "nwp"
  refine law_comp2 (q := q) hq3 hU rfl rfl rfl fun g => ?_
  have h4 := h3.app (Cell.lst ((offT t U).map Pr.dat) :: g)
  have hc4 := get_app (g := Cell.lst ((offT t U).map Pr.dat) :: g) hc3
  have hq4 : (μ3 ++ (Cell.lst ((offT t U).map Pr.dat) :: g))[μ3.length]? = some (.lst ((offT t U).map Pr.dat)) := getElem?_mid
  walk_at "nwp"
  refine hP _ _ ⟨c1, c2, w, a, b', μ3.length, z, _, _, _, _, _, _, _, rfl, hz, h4, hc4, hq4, ?_, by omega⟩
  have := h2.lb
  omega
theorem lfBody_ok {ns row : List Int} {n : Nat} {t : Int} {U : List Pr} {x7 x8 : Option Dat} {k : Int} {δ : Env} {μ : Store} (hr : row.length ≤ 20) (hk : 0 ≤ k ∧ k < ns.length - 3 ∧ k ≤ 100) (hn : n ≤ 65) (hU : U.length ≤ 2 * n) {P : Ps} (h : Jv ns row n t U x7 x8 δ μ)
    (hP : ∀ δ' μ' n' t' U' x7' x8', Jv ns row n' t' U' x7' x8' δ' μ' → n' ≤ 65 → U'.length ≤ 2 * n' → P.nx δ' μ') : wps (lfBody (δ.set 7 (some (.int k))) μ) P := by
  obtain ⟨c1, c2, w, a, b, q, z, x9, x10, x11, x12, x13, x14, x15, rfl, hz, hR, hc1, hq, hqb, hcb⟩ := h
  unfold lfBody
  try rw [wps_seq]
  unfold lf0
  walk_at "nwp"
  obtain ⟨i, e⟩ := ixL_ro (ns := ns) (k := 3 + k) (by omega) (by omega) μ
  rw [e]
  walk_at "nwp"
  refine wp_imp (spread_spec (by omega) _) ?_
  rintro d μ1 ⟨⟨c, rfl, c0, c9⟩, rfl⟩
  clear e
  have hJ : Jv ns row n t U (some (.int k)) (some (.int c)) [some (.ro ns), some (.cell c1), some (.cell c2), some (.cell w), some (.cell q), some (.int z), some (.int t), some (.int k), some (.int c), x9, x10, x11, x12, x13, x14, x15] μ1 :=
    ⟨c1, c2, w, a, b, q, z, x9, x10, x11, x12, x13, x14, x15, rfl, hz, hR, hc1, hq, hqb, hcb⟩
  try rw [wps_seq]
  unfold lf1 mLst
  -- what is done behind the steps
  have rest : ∀ δ' μ' n' U', Jv ns row n' t U' (some (.int k)) (some (.int c)) δ' μ' → n' ≤ 65 → U'.length ≤ 2 * n' → wps (msSeq lf2 (msSeq lf3 lf4) δ' μ') P := by
    clear hJ
    rintro δ' μ' n' U' ⟨c1, c2, w, a, b, q, z, x9, x10, x11, x12, x13, x14, x15, rfl, hz, hR, hc1, hq, hqb, hcb⟩ hn' hU'
    try rw [wps_seq]
    unfold lf2
    walk_at "nwp"
    rw [fDiv_int (by omega)]
    walk_at "nwp"
    refine wp_imp (refused_spec _ _) ?_
    rintro d μ2 ⟨rfl, g, rfl⟩
    walk_at "nwp"
    have hR := hR.app g
    have hc1 := get_app (g := g) hc1
    have hq := get_app (g := g) hq
    generalize μ' ++ g = μ2 at hR hc1 hq ⊢
    rw [hR.meth (i := 3) rfl (by rfl)]
    walk_at "nwp"
    refine wp_imp (many_spec hR) ?_
    rintro d μ3 ⟨rfl, rfl⟩
    walk_at "nwp"
    rw [fLenQ_at hq]
    walk_at "nwp"
    rw [fNe_int, decide_eq_true rfl]
    walk_at "nwp"
    try rw [wps_seq]
    unfold lf3
    walk_at "nwp"
    rw [fDiv_int (by omega)]
    walk_at "nwp"
    rw [fMod_int (by omega)]
    walk_at "nwp"
    rw [fDiv_int (by omega)]
    walk_at "nwp"
    generalize t + 1 + c / 200 % 7 / 6 = t2
    unfold lf4
    refine wps_rangeW ?_
    walk_at "nwp"
    rw [fDiv_int (by omega)]
    walk_at "nwp"
    rw [fMod_int (by omega)]
    walk_at "nwp"
    have hm0 := Int.emod_nonneg (c / 100) (show (2 : Int) ≠ 0 by omega)
    have hm1 := Int.emod_lt_of_pos (c / 100) (show (0 : Int) < 2 by omega)
    generalize c / 100 % 2 = m at hm0 hm1
    refine ⟨1 + m, fun _ δ μ => ∃ U2, Jv ns row n' t2 U2 (some (.int k)) (some (.int c)) δ μ ∧ U2.length ≤ 2 * n', rfl, by omega, by omega, ⟨U', ⟨c1, c2, w, a, b, q, z, x9, x10, x11, x12, x13, x14, x15, rfl, hz, hR, hc1, hq, hqb, hcb⟩, hU'⟩, ?_, ?_⟩
    · rintro i z δ μ rfl hi ⟨U2, hJ, hl⟩
      refine ⟨_, rfl, laBody_ok (by omega) hJ fun δ' μ' h' => ⟨_, h', ?_⟩⟩
      have := offT_len t2 U2
      omega
    · rintro δ μ ⟨U2, hJ, hl⟩
      exact hP _ _ _ _ _ _ _ hJ hn' hl
  refine wps_rangeW ?_
  walk_at "nwp"
  by_cases h60 : z < 60
  · rw [decide_eq_true h60]
    walk_at "nwp"
    rw [if_pos (show 5 ≤ sizeLine by rw [sl16]; omega)]
    unfold allocR
    walk_at "nwp"
    rw [fMod_int (by omega)]
    walk_at "nwp"
    obtain ⟨d, e, hd⟩ := fIxL_new (μ := μ1) (ds := [.int 0, .int 1, .int 1, .int 2, .int 6]) (i := c % 5) (Int.emod_nonneg _ (by omega)) (Int.emod_lt_of_pos _ (by decide))
    rw [e]
    obtain ⟨m, rfl, m0, m6⟩ : ∃ m : Int, d = .int m ∧ 0 ≤ m ∧ m ≤ 6 := by
      simp only [List.mem_cons, List.not_mem_nil, or_false] at hd
      rcases hd with rfl | rfl | rfl | rfl | rfl <;> exact ⟨_, rfl, by omega, by omega⟩
    walk_at "nwp"
    refine ⟨m, fun i δ μ => ∃ U2, Jv ns row (n + i) t U2 (some (.int k)) (some (.int c)) δ μ ∧ U2.length ≤ 2 * (n + i), rfl, by omega, by omega, ⟨U, ⟨c1, c2, w, a, b, q, z, x9, x10, x11, x12, x13, x14, x15, rfl, hz, hR.app _, get_app hc1, get_app hq, hqb, hcb⟩, hU⟩, ?_, ?_⟩
    · rintro i z δ μ rfl hi ⟨U2, hJ, hl⟩
      exact ⟨_, rfl, lsBody_ok hr (by omega) hl (by omega) hJ fun δ' μ' U' h' hl' => ⟨U', h', hl'⟩⟩
    · rintro δ μ ⟨U2, hJ, hl⟩
      have h := rest _ _ _ _ hJ (by omega) hl
      simp only [wps_seq] at h
      exact h
  · rw [decide_eq_false h60]
    walk_at "nwp"
    refine ⟨0, fun i δ μ => Jv ns row n t U (some (.int k)) (some (.int c)) δ μ, rfl, by omega, by omega, hJ, ?_, ?_⟩
    · intro i z δ μ _ hi _
      exact absurd hi (by simp)
    · intro δ μ z
      have h := rest _ _ _ _ z hn hU
      simp only [wps_seq] at h
      exact h
theorem law_wp (ns : List Int) (hns : ns.length ≤ 63) : wp (f_law [.ro ns] []) fun d _ => d = .bl true := by
  unfold f_law
  rw [wp_run, b_law_is]
  try rw [wps_seq]
  unfold lb0
  walk_at "nwp"
  refine wp_imp (row_spec ns _) ?_
  rintro d μ1 ⟨c1, row, rfl, hc1, hr, hm⟩
  try rw [wps_seq]
  unfold lb1
  walk_at "nwp"
  rw [show fListOf [.cell c1] μ1 = .ok (.cell μ1.length) (μ1 ++ [.lst (row.map .int)]) from by
    unfold fListOf seqD
    dsimp only
    rw [show lstAt μ1 (.cell c1) = some (row.map .int) from by simp only [lstAt, hc1]]
    rfl]
  walk_at "nwp"
  have l1 := (List.getElem?_eq_some_iff.mp hc1).1
  have hc1 := get_app (g := [Cell.lst (row.map .int)]) hc1
  have hc2 : (μ1 ++ [Cell.lst (row.map .int)])[μ1.length]? = some (.lst (row.map .int)) := getElem?_mid
  have l2 : (μ1 ++ [Cell.lst (row.map .int)]).length = μ1.length + 1 := by simp
  generalize μ1 ++ [Cell.lst (row.map .int)] = μ2 at hc1 hc2 l2 ⊢
  try rw [wps_seq]
  unfold lb2 mMake
  walk_at "nwp"
  refine wp_mono (init_ok (k := μ2.length) (c := μ1.length) (row := row) getElem?_mid (get_app hc2) hr hm) ?_ (fun _ _ z => z.elim)
  rintro d μ3 ⟨rfl, a, b, hR, f3, la, lb, l3⟩
  rw [show mkEnd μ2.length Dat.non μ3 = .ok (.cell μ2.length) μ3 from rfl]
  have l2' : (μ2 ++ [Cell.ins 9 []]).length = μ2.length + 1 := by simp
  rw [l2'] at f3 la lb l3
  have hc13 : μ3[c1]? = some (.lst (row.map .int)) := by
    rw [f3 c1 (by omega) (by omega)]
    exact get_app hc1
  have hc23 : μ3[μ1.length]? = some (.lst (row.map .int)) := by
    rw [f3 μ1.length (by omega) (by omega)]
    exact get_app hc2
  walk_at "nwp"
  try rw [wps_seq]
  unfold lb3 mBM
  walk_at "nwp"
  rw [show (lstAt μ3 (.cell μ1.length)).isSome = true from by simp only [lstAt, hc23, Option.isSome_some]]
  walk_at "nwp"
  rw [show fAppend (.cell μ1.length) [.int 5] μ3 = .ok .non (μ3.set μ1.length (.lst (row.map .int ++ [.int 5]))) from by
    simp only [fAppend, hc23]
    rw [if_pos (by rw [sl16, List.length_map]; omega)]]
  walk_at "nwp"
  have hR := hR.set (j := μ1.length) (.lst (row.map .int ++ [.int 5])) (by omega) (by omega) (by omega)
  have hc14 : (μ3.set μ1.length (.lst (row.map .int ++ [.int 5])))[c1]? = some (.lst (row.map .int)) := by
    rw [List.getElem?_set_ne (by omega)]
    exact hc13
  generalize μ3.set μ1.length (.lst (row.map .int ++ [.int 5])) = μ4 at hR hc14 ⊢
  try rw [wps_seq]
  unfold lb4 mLst
  walk_at "nwp"
  rw [if_pos (Nat.zero_le _)]
  unfold allocR
  walk_at "nwp"
  try rw [wps_seq]
  unfold lb5
  walk_at "nwp"
  try rw [wps_seq]
  unfold lb6
  walk_at "nwp"
  refine wp_imp (draw_spec (by omega) _) ?_
  rintro d μ5 ⟨⟨t0, rfl⟩, rfl⟩
  rw [show ∀ μ, fPow (.int 10) (.int 9) μ = .ok (.int 1000000000) μ from fun μ => by rfl]
  walk_at "nwp"
  rw [fMod_int (by omega)]
  walk_at "nwp"
  generalize t0 % 1000000000 = t1
  have hlb := hR.lb
  try rw [wps_seq]
  unfold lb7
  refine wps_rangeW ?_
  walk_at "nwp"
  rw [lenQ_ro]
  walk_at "nwp"
  rw [show ∀ (i : Int) μ, fMax2 [.int 0, .int i] μ = .ok (.int (if i > 0 then i else 0)) μ from fun _ _ => rfl]
  walk_at "nwp"
  obtain ⟨j, hj⟩ : ∃ j : Int, j = if (ns.length : Int) - 3 > 0 then (ns.length : Int) - 3 else 0 := ⟨_, rfl⟩
  rw [← hj]
  have hj1 : 0 ≤ j ∧ j ≤ 60 ∧ (0 < j → j = (ns.length : Int) - 3) := by
    split at hj <;> omega
  refine ⟨j, fun _ δ μ => ∃ n t U x7 x8, Jv ns row n t U x7 x8 δ μ ∧ n ≤ 65 ∧ U.length ≤ 2 * n, rfl, hj1.1, by omega, ⟨0, t1, [], none, none, ⟨c1, μ1.length, μ2.length, a, b, μ4.length, 0, none, none, none, none, none, none, none, rfl, rfl, ?_, get_app hc14, getElem?_mid, by omega, by omega⟩, by omega, by simp⟩, ?_, ?_⟩
  · have e : tkOf row 0 = 0 := by
      unfold tkOf
      split
      · rfl
      · rw [Nat.zero_mod]
        rfl
    rw [e]
    exact hR.app _
  · rintro i z δ μ rfl hi ⟨n, t, U, x7, x8, hJ, hn, hU⟩
    refine ⟨_, rfl, lfBody_ok hr (by omega) hn hU hJ fun δ' μ' n' t' U' x7' x8' h' hn' hU' => ⟨n', t', U', x7', x8', h', hn', hU'⟩⟩
  · rintro δ μ ⟨n, t, U, x7, x8, hJ, hn, hU⟩
    try rw [wps_seq]
    unfold lb8
    refine wps_rangeW ?_
    walk_at "nwp"
    refine ⟨22, fun _ δ μ => ∃ t U, Jv ns row n t U x7 x8 δ μ ∧ U.length ≤ 2 * n, rfl, by omega, by omega, ⟨t, U, hJ, hU⟩, ?_, ?_⟩
    · rintro i z δ μ rfl hi ⟨t, U, hJ, hU⟩
      refine ⟨_, rfl, ltBody_ok (by omega) hJ fun δ' μ' h' => ⟨_, _, h', ?_⟩⟩
      have := offT_len (t + 1) U
      omega
    · rintro δ μ ⟨t, U, ⟨c1, c2, w, a, b, q, z, x9, x10, x11, x12, x13, x14, x15, rfl, hz, hR, hc1, hq, hqb, hcb⟩, hU⟩
      unfold lb9 mAnd mNot
      walk_at "nwp"
      rw [hR.meth (i := 3) rfl (by rfl)]
      walk_at "nwp"
      refine wp_imp (many_spec hR) ?_
      rintro d μ3 ⟨rfl, rfl⟩
      walk_at "nwp"
      rw [fLenQ_at hq]
      walk_at "nwp"
      simp only [decide_true]
      walk_at "nwp"
      rw [hR.meth (i := 3) rfl (by rfl)]
      walk_at "nwp"
      refine wp_imp (many_spec hR) ?_
      rintro d μ3 ⟨rfl, rfl⟩
      walk_at "nwp"
      rw [show ∀ (i : Int) μ, fIsA tab [.int i, .ty "bool"] μ = .ok (.bl false) μ from fun _ _ => rfl]
      walk_at "nwp"
theorem law_true : ∀ ns : List Int, ns.length ≤ 63 → ∃ μ, f_law [.ro ns] [] = .ok (.bl true) μ := by
  intro ns hns
  have h := law_wp ns hns
  cases e : f_law [.ro ns] [] with
  | ok d μ =>
    rw [e] at h
    have h' : d = .bl true := h
    rw [h']
    exact ⟨μ, rfl⟩
  | raise n μ => rw [e] at h; exact h.elim
  | stuck => rw [e] at h; exact h.elim
end Nh

namespace Nh
open PySem PySem.Spec PyProof.Rows L2
def topS (i : Nat) : Stmt := PySem.Challenge.pw_namehouse_k21_the_road.main.body.getD i (.Pass ⟨0, 0, 0, 0⟩)
abbrev s_is_whole : Stmt := topS 1
theorem sc_is_whole : FnScope ["thing"] ["thing"] (defScope s_is_whole) := ⟨rfl, rfl, rfl, by decide +kernel, rfl, by decide +kernel, by decide +kernel⟩
abbrev s_within : Stmt := topS 2
theorem sc_within : FnScope ["thing", "low", "high"] ["thing", "low", "high"] (defScope s_within) := ⟨rfl, rfl, rfl, by decide +kernel, rfl, by decide +kernel, by decide +kernel⟩
abbrev s__is_road : Stmt := topS 18
theorem sc__is_road : FnScope ["thing", "number"] ["thing"] (defScope s__is_road) := ⟨rfl, rfl, rfl, by decide +kernel, rfl, by decide +kernel, by decide +kernel⟩
abbrev s_Road___init__ : Stmt := inClass (topS 17) 0
theorem sc_Road___init__ : FnScope ["self", "row"] ["self", "row"] (defScope s_Road___init__) := ⟨rfl, rfl, rfl, by decide +kernel, rfl, by decide +kernel, by decide +kernel⟩
abbrev s_Road__next_number : Stmt := inClass (topS 17) 4
theorem sc_Road__next_number : FnScope ["self", "number"] ["self"] (defScope s_Road__next_number) := ⟨rfl, rfl, rfl, by decide +kernel, rfl, by decide +kernel, by decide +kernel⟩
abbrev s__delays : Stmt := topS 19
theorem sc__delays : FnScope ["number"] ["number"] (defScope s__delays) := ⟨rfl, rfl, rfl, by decide +kernel, rfl, by decide +kernel, by decide +kernel⟩
abbrev s_Road_send : Stmt := inClass (topS 17) 1
theorem sc_Road_send : FnScope ["self", "letter", "turn", "late"] ["self", "letter", "turn"] (defScope s_Road_send) := ⟨rfl, rfl, rfl, by decide +kernel, rfl, by decide +kernel, by decide +kernel⟩
abbrev s_Road_due : Stmt := inClass (topS 17) 2
theorem sc_Road_due : FnScope ["self", "turn", "come", "at", "letter", "pair"] ["self", "turn"] (defScope s_Road_due) := ⟨rfl, rfl, rfl, by decide +kernel, rfl, by decide +kernel, by decide +kernel⟩
abbrev s_Road_many : Stmt := inClass (topS 17) 3
theorem sc_Road_many : FnScope ["self"] ["self"] (defScope s_Road_many) := ⟨rfl, rfl, rfl, by decide +kernel, rfl, by decide +kernel, by decide +kernel⟩
abbrev s__law_draw : Stmt := topS 21
theorem sc__law_draw : FnScope ["_law_script", "_law_k"] ["_law_script", "_law_k"] (defScope s__law_draw) := ⟨rfl, rfl, rfl, by decide +kernel, rfl, by decide +kernel, by decide +kernel⟩
abbrev s__law_spread : Stmt := topS 22
theorem sc__law_spread : FnScope ["_law_cell", "_law_k"] ["_law_cell", "_law_k"] (defScope s__law_spread) := ⟨rfl, rfl, rfl, by decide +kernel, rfl, by decide +kernel, by decide +kernel⟩
abbrev s__law_alone : Stmt := topS 24
theorem sc__law_alone : FnScope ["_law_caught", "_law_words", "_law_found"] ["_law_caught", "_law_words"] (defScope s__law_alone) := ⟨rfl, rfl, rfl, by decide +kernel, rfl, by decide +kernel, by decide +kernel⟩
abbrev s__law_row : Stmt := topS 25
theorem sc__law_row : FnScope ["_law_script", "_law_cell", "_law_way", "_law_row_here", "_law_k", "_law_draw_here"] ["_law_script"] (defScope s__law_row) := ⟨rfl, rfl, rfl, by decide +kernel, rfl, by decide +kernel, by decide +kernel⟩
abbrev s__law_sent : Stmt := topS 26
theorem sc__law_sent : FnScope ["_law_waiting", "_law_row_here", "_law_count", "_law_thing", "_law_turn", "_law_way"] ["_law_waiting", "_law_row_here", "_law_count", "_law_thing", "_law_turn"] (defScope s__law_sent) := ⟨rfl, rfl, rfl, by decide +kernel, rfl, by decide +kernel, by decide +kernel⟩
abbrev s__law_refused : Stmt := topS 27
theorem sc__law_refused : FnScope ["_law_cell", "_law_caught", "e"] ["_law_cell"] (defScope s__law_refused) := ⟨rfl, rfl, rfl, by decide +kernel, rfl, by decide +kernel, by decide +kernel⟩
abbrev s_law : Stmt := topS 28
theorem sc_law : FnScope ["_law_script", "_law_row_here", "_law_handed", "_law_road", "_law_waiting", "_law_count", "_law_turn", "_law_k", "_law_cell", "_law_step", "_law_thing", "_law_again", "_law_found", "_law_due", "_law_pair", "_law_when"] ["_law_script"] (defScope s_law) := ⟨rfl, rfl, rfl, by decide +kernel, rfl, by decide +kernel, by decide +kernel⟩
structure Txt (w : World) (K : PySem.W.Frag) (mg : Str → Option Value) where
  n_ValueError : mg "ValueError" = none
  n_all : mg "all" = none
  n_bool : mg "bool" = none
  n_int : mg "int" = none
  n_isinstance : mg "isinstance" = none
  n_len : mg "len" = none
  n_list : mg "list" = none
  n_max : mg "max" = none
  n_range : mg "range" = none
  t_LONGEST_ROAD : Tok
  c_LONGEST_ROAD : mg "LONGEST_ROAD" = some (.int 200 t_LONGEST_ROAD)
  t_MOST : Tok
  c_MOST : mg "MOST" = some (.int 19 t_MOST)
  t_NEVER : Tok
  c_NEVER : mg "NEVER" = some (.int 10 t_NEVER)
  C_HouseError : Addr
  C_BadName : Addr
  C_BadRecord : Addr
  C_BadLetter : Addr
  C_BadZone : Addr
  C_BadRow : Addr
  C_BadChange : Addr
  C_BadTurn : Addr
  C_BadLine : Addr
  C_Road : Addr
  g_HouseError : mg "HouseError" = some (.ref C_HouseError)
  g_BadName : mg "BadName" = some (.ref C_BadName)
  g_BadRecord : mg "BadRecord" = some (.ref C_BadRecord)
  g_BadLetter : mg "BadLetter" = some (.ref C_BadLetter)
  g_BadZone : mg "BadZone" = some (.ref C_BadZone)
  g_BadRow : mg "BadRow" = some (.ref C_BadRow)
  g_BadChange : mg "BadChange" = some (.ref C_BadChange)
  g_BadTurn : mg "BadTurn" = some (.ref C_BadTurn)
  g_BadLine : mg "BadLine" = some (.ref C_BadLine)
  g_Road : mg "Road" = some (.ref C_Road)
  x_BadTurn : PySem.W.excIn K C_BadTurn [.type "ValueError", .type "Exception", .type "BaseException", .type "object"] "ValueError.__new__" = true
  k_BadTurn : PySem.W.keepIn K (.ref C_BadTurn) = true
  s_BadTurn : PySem.W.subIn K (.ref C_BadTurn) (.type "BaseException") = some true
  t_BadTurn : PySem.W.typeIn K (.ref C_BadTurn) = some (.type "type")
  f_is_whole : Addr
  fd_is_whole : FuncData
  F_is_whole : Fun K "is_whole" "is_whole" s_is_whole f_is_whole fd_is_whole
  b_is_whole : Binds K fd_is_whole ["thing"] []
  g_is_whole : mg "is_whole" = some (.ref f_is_whole)
  f_within : Addr
  fd_within : FuncData
  F_within : Fun K "within" "within" s_within f_within fd_within
  b_within : Binds K fd_within ["thing", "low", "high"] []
  g_within : mg "within" = some (.ref f_within)
  f__is_road : Addr
  fd__is_road : FuncData
  F__is_road : Fun K "_is_road" "_is_road" s__is_road f__is_road fd__is_road
  b__is_road : Binds K fd__is_road ["thing"] []
  g__is_road : mg "_is_road" = some (.ref f__is_road)
  f_Road___init__ : Addr
  fd_Road___init__ : FuncData
  F_Road___init__ : Fun K "__init__" "Road.__init__" s_Road___init__ f_Road___init__ fd_Road___init__
  b_Road___init__ : Binds K fd_Road___init__ ["self", "row"] []
  mk_Road : Mk K C_Road f_Road___init__
  f_Road__next_number : Addr
  fd_Road__next_number : FuncData
  F_Road__next_number : Fun K "_next_number" "Road._next_number" s_Road__next_number f_Road__next_number fd_Road__next_number
  b_Road__next_number : Binds K fd_Road__next_number ["self"] []
  me_Road__next_number : Meth K C_Road "_next_number" f_Road__next_number
  f__delays : Addr
  fd__delays : FuncData
  F__delays : Fun K "_delays" "_delays" s__delays f__delays fd__delays
  b__delays : Binds K fd__delays ["number"] []
  g__delays : mg "_delays" = some (.ref f__delays)
  f_Road_send : Addr
  fd_Road_send : FuncData
  F_Road_send : Fun K "send" "Road.send" s_Road_send f_Road_send fd_Road_send
  b_Road_send : Binds K fd_Road_send ["self", "letter", "turn"] []
  me_Road_send : Meth K C_Road "send" f_Road_send
  f_Road_due : Addr
  fd_Road_due : FuncData
  F_Road_due : Fun K "due" "Road.due" s_Road_due f_Road_due fd_Road_due
  b_Road_due : Binds K fd_Road_due ["self", "turn"] []
  me_Road_due : Meth K C_Road "due" f_Road_due
  f_Road_many : Addr
  fd_Road_many : FuncData
  F_Road_many : Fun K "many" "Road.many" s_Road_many f_Road_many fd_Road_many
  b_Road_many : Binds K fd_Road_many ["self"] []
  me_Road_many : Meth K C_Road "many" f_Road_many
  f__law_draw : Addr
  fd__law_draw : FuncData
  F__law_draw : Fun K "_law_draw" "_law_draw" s__law_draw f__law_draw fd__law_draw
  b__law_draw : Binds K fd__law_draw ["_law_script", "_law_k"] []
  g__law_draw : mg "_law_draw" = some (.ref f__law_draw)
  f__law_spread : Addr
  fd__law_spread : FuncData
  F__law_spread : Fun K "_law_spread" "_law_spread" s__law_spread f__law_spread fd__law_spread
  b__law_spread : Binds K fd__law_spread ["_law_cell", "_law_k"] []
  g__law_spread : mg "_law_spread" = some (.ref f__law_spread)
  f__law_alone : Addr
  fd__law_alone : FuncData
  F__law_alone : Fun K "_law_alone" "_law_alone" s__law_alone f__law_alone fd__law_alone
  b__law_alone : Binds K fd__law_alone ["_law_caught", "_law_words"] []
  g__law_alone : mg "_law_alone" = some (.ref f__law_alone)
  f__law_row : Addr
  fd__law_row : FuncData
  F__law_row : Fun K "_law_row" "_law_row" s__law_row f__law_row fd__law_row
  b__law_row : Binds K fd__law_row ["_law_script"] []
  g__law_row : mg "_law_row" = some (.ref f__law_row)
  f__law_sent : Addr
  fd__law_sent : FuncData
  F__law_sent : Fun K "_law_sent" "_law_sent" s__law_sent f__law_sent fd__law_sent
  b__law_sent : Binds K fd__law_sent ["_law_waiting", "_law_row_here", "_law_count", "_law_thing", "_law_turn"] []
  g__law_sent : mg "_law_sent" = some (.ref f__law_sent)
  f__law_refused : Addr
  fd__law_refused : FuncData
  F__law_refused : Fun K "_law_refused" "_law_refused" s__law_refused f__law_refused fd__law_refused
  b__law_refused : Binds K fd__law_refused ["_law_cell"] []
  g__law_refused : mg "_law_refused" = some (.ref f__law_refused)
  f_law : Addr
  fd_law : FuncData
  F_law : Fun K "law" "law" s_law f_law fd_law
  b_law : Binds K fd_law ["_law_script"] []
  g_law : mg "law" = some (.ref f_law)
  cl_Road : Cls K C_Road
  no_Road__row : NoAttr K C_Road "_row"
  no_Road__taken : NoAttr K C_Road "_taken"
  no_Road__under_way : NoAttr K C_Road "_under_way"
  ki_BadTurn_BadChange : PySem.W.kitOne K (.ref C_BadTurn) (.ref C_BadChange) = some false
  ke_BadTurn_BadChange : PySem.W.exmOne K (.ref C_BadTurn) (.ref C_BadChange) = some false
  ki_BadTurn_BadLetter : PySem.W.kitOne K (.ref C_BadTurn) (.ref C_BadLetter) = some false
  ke_BadTurn_BadLetter : PySem.W.exmOne K (.ref C_BadTurn) (.ref C_BadLetter) = some false
  ki_BadTurn_BadLine : PySem.W.kitOne K (.ref C_BadTurn) (.ref C_BadLine) = some false
  ke_BadTurn_BadLine : PySem.W.exmOne K (.ref C_BadTurn) (.ref C_BadLine) = some false
  ki_BadTurn_BadName : PySem.W.kitOne K (.ref C_BadTurn) (.ref C_BadName) = some false
  ke_BadTurn_BadName : PySem.W.exmOne K (.ref C_BadTurn) (.ref C_BadName) = some false
  ki_BadTurn_BadRecord : PySem.W.kitOne K (.ref C_BadTurn) (.ref C_BadRecord) = some false
  ke_BadTurn_BadRecord : PySem.W.exmOne K (.ref C_BadTurn) (.ref C_BadRecord) = some false
  ki_BadTurn_BadRow : PySem.W.kitOne K (.ref C_BadTurn) (.ref C_BadRow) = some false
  ke_BadTurn_BadRow : PySem.W.exmOne K (.ref C_BadTurn) (.ref C_BadRow) = some false
  ki_BadTurn_BadTurn : PySem.W.kitOne K (.ref C_BadTurn) (.ref C_BadTurn) = some true
  ke_BadTurn_BadTurn : PySem.W.exmOne K (.ref C_BadTurn) (.ref C_BadTurn) = some true
  ki_BadTurn_BadZone : PySem.W.kitOne K (.ref C_BadTurn) (.ref C_BadZone) = some false
  ke_BadTurn_BadZone : PySem.W.exmOne K (.ref C_BadTurn) (.ref C_BadZone) = some false
  ki_BadTurn_HouseError : PySem.W.kitOne K (.ref C_BadTurn) (.ref C_HouseError) = some true
  ke_BadTurn_HouseError : PySem.W.exmOne K (.ref C_BadTurn) (.ref C_HouseError) = some true
  kv_BadTurn : PySem.W.kitOne K (.ref C_BadTurn) (.type "ValueError") = some true
  ec_BadTurn : ExcC K C_BadTurn
section
variable {w : World} {K : PySem.W.Frag} {mg : Str → Option Value}
def Txt.cfg (T : Txt w K mg) : Cfg := ⟨K, fun n => match n with
  | 0 => T.C_HouseError
  | 1 => T.C_BadName
  | 2 => T.C_BadRecord
  | 3 => T.C_BadLetter
  | 4 => T.C_BadZone
  | 5 => T.C_BadRow
  | 6 => T.C_BadChange
  | 7 => T.C_BadTurn
  | 8 => T.C_BadLine
  | 9 => T.C_Road
  | _ => T.C_HouseError⟩
theorem Txt.fldOk (T : Txt w K mg) : FldOk T.cfg fldT := by
  refine ⟨fun n f h => ?_, fun n f h => ?_⟩
  · unfold fldT at h
    split at h
    · exact T.cl_Road
    · cases h
  · unfold fldT at h
    split at h
    · simp only [Bool.or_eq_true, decide_eq_true_eq] at h
      rcases h with (rfl | rfl) | rfl
      · exact T.no_Road__row
      · exact T.no_Road__taken
      · exact T.no_Road__under_way
    · cases h
theorem Txt.tabOk (T : Txt w K mg) : TabOk T.cfg tab := by
  refine ⟨fun n m b h => ?_, fun n m b h => ?_, (fun n m b h => nomatch h), fun n h => ?_⟩
  · unfold tab at h
    dsimp only at h
    split at h <;> first | (cases h; first | exact T.ki_BadTurn_BadChange | exact T.ki_BadTurn_BadLetter | exact T.ki_BadTurn_BadLine | exact T.ki_BadTurn_BadName | exact T.ki_BadTurn_BadRecord | exact T.ki_BadTurn_BadRow | exact T.ki_BadTurn_BadTurn | exact T.ki_BadTurn_BadZone | exact T.ki_BadTurn_HouseError) | cases h
  · unfold tab at h
    dsimp only at h
    split at h
    all_goals first | (split at h <;> first | (cases h; rename_i e; subst e; first | exact T.kv_BadTurn) | cases h) | cases h
  · by_cases h_BadTurn : n = 7
    · subst h_BadTurn
      exact T.ec_BadTurn
    exfalso
    unfold tab at h
    dsimp only at h
    split at h <;> simp_all
theorem Txt.exm_BadChange (T : Txt w K mg) : ∀ n k, tab.sub n 6 = some k → PySem.W.exmOne T.cfg.K (.ref (T.cfg.cl n)) (.ref (T.cfg.cl 6)) = some k := by
  intro n k h
  unfold tab at h
  dsimp only at h
  split at h <;> first | (cases h; first | exact T.ke_BadTurn_BadChange) | (rename_i e; cases e) | (rename_i e _; cases e) | (rename_i _ e; cases e) | cases h
theorem Txt.exm_BadLetter (T : Txt w K mg) : ∀ n k, tab.sub n 3 = some k → PySem.W.exmOne T.cfg.K (.ref (T.cfg.cl n)) (.ref (T.cfg.cl 3)) = some k := by
  intro n k h
  unfold tab at h
  dsimp only at h
  split at h <;> first | (cases h; first | exact T.ke_BadTurn_BadLetter) | (rename_i e; cases e) | (rename_i e _; cases e) | (rename_i _ e; cases e) | cases h
theorem Txt.exm_BadLine (T : Txt w K mg) : ∀ n k, tab.sub n 8 = some k → PySem.W.exmOne T.cfg.K (.ref (T.cfg.cl n)) (.ref (T.cfg.cl 8)) = some k := by
  intro n k h
  unfold tab at h
  dsimp only at h
  split at h <;> first | (cases h; first | exact T.ke_BadTurn_BadLine) | (rename_i e; cases e) | (rename_i e _; cases e) | (rename_i _ e; cases e) | cases h
theorem Txt.exm_BadName (T : Txt w K mg) : ∀ n k, tab.sub n 1 = some k → PySem.W.exmOne T.cfg.K (.ref (T.cfg.cl n)) (.ref (T.cfg.cl 1)) = some k := by
  intro n k h
  unfold tab at h
  dsimp only at h
  split at h <;> first | (cases h; first | exact T.ke_BadTurn_BadName) | (rename_i e; cases e) | (rename_i e _; cases e) | (rename_i _ e; cases e) | cases h
theorem Txt.exm_BadRecord (T : Txt w K mg) : ∀ n k, tab.sub n 2 = some k → PySem.W.exmOne T.cfg.K (.ref (T.cfg.cl n)) (.ref (T.cfg.cl 2)) = some k := by
  intro n k h
  unfold tab at h
  dsimp only at h
  split at h <;> first | (cases h; first | exact T.ke_BadTurn_BadRecord) | (rename_i e; cases e) | (rename_i e _; cases e) | (rename_i _ e; cases e) | cases h
theorem Txt.exm_BadRow (T : Txt w K mg) : ∀ n k, tab.sub n 5 = some k → PySem.W.exmOne T.cfg.K (.ref (T.cfg.cl n)) (.ref (T.cfg.cl 5)) = some k := by
  intro n k h
  unfold tab at h
  dsimp only at h
  split at h <;> first | (cases h; first | exact T.ke_BadTurn_BadRow) | (rename_i e; cases e) | (rename_i e _; cases e) | (rename_i _ e; cases e) | cases h
theorem Txt.exm_BadTurn (T : Txt w K mg) : ∀ n k, tab.sub n 7 = some k → PySem.W.exmOne T.cfg.K (.ref (T.cfg.cl n)) (.ref (T.cfg.cl 7)) = some k := by
  intro n k h
  unfold tab at h
  dsimp only at h
  split at h <;> first | (cases h; first | exact T.ke_BadTurn_BadTurn) | (rename_i e; cases e) | (rename_i e _; cases e) | (rename_i _ e; cases e) | cases h
theorem Txt.exm_BadZone (T : Txt w K mg) : ∀ n k, tab.sub n 4 = some k → PySem.W.exmOne T.cfg.K (.ref (T.cfg.cl n)) (.ref (T.cfg.cl 4)) = some k := by
  intro n k h
  unfold tab at h
  dsimp only at h
  split at h <;> first | (cases h; first | exact T.ke_BadTurn_BadZone) | (rename_i e; cases e) | (rename_i e _; cases e) | (rename_i _ e; cases e) | cases h
theorem Txt.exm_HouseError (T : Txt w K mg) : ∀ n k, tab.sub n 0 = some k → PySem.W.exmOne T.cfg.K (.ref (T.cfg.cl n)) (.ref (T.cfg.cl 0)) = some k := by
  intro n k h
  unfold tab at h
  dsimp only at h
  split at h <;> first | (cases h; first | exact T.ke_BadTurn_HouseError) | (rename_i e; cases e) | (rename_i e _; cases e) | (rename_i _ e; cases e) | cases h
end
section
variable {P : Program} {w : World} {K : PySem.W.Frag} {mg : Str → Option Value} {base : Heap}
theorem ok_is_whole (T : Txt w K mg) : FnOk P w K mg base CX0 1 T.f_is_whole T.fd_is_whole ["thing"] (spM T.cfg 1 f_is_whole) :=
  fn_sim0 T.F_is_whole sc_is_whole rfl (fun cdv A outer s H E hr => ⟨_, (pss_one (ps_ret (pe_and (pe_callB call_isA (by rfl) T.n_isinstance (by decide +kernel) (pa_cons (pv 0) (pa_cons (pe_bltn (v := .ty "int") rfl T.n_int (by decide +kernel) rfl (by decide)) pa_nil))) (pe_one (pe_not (pe_callB call_isA (by rfl) T.n_isinstance (by decide +kernel) (pa_cons (pv 0) (pa_cons (pe_bltn (v := .ty "bool") rfl T.n_bool (by decide +kernel) rfl (by decide)) pa_nil)))))))),
  (sims_ret (sim_and (sim_cb (simc_isA T.tabOk) (sim_cons (sim_var 0) (sim_cons (sim_ty _) sim_nil))) (sim_not (sim_cb (simc_isA T.tabOk) (sim_cons (sim_var 0) (sim_cons (sim_ty _) sim_nil))))))⟩)
theorem ok_within (T : Txt w K mg) : FnOk P w K mg base CX0 2 T.f_within T.fd_within ["thing", "low", "high"] (spM T.cfg 3 f_within) :=
  fn_sim0 T.F_within sc_within rfl (fun cdv A outer s H E hr => ⟨_, (pss_one (ps_ret (pe_and (pe_call (ok_is_whole T) (hr.mono (by decide)) (by rfl) T.g_is_whole T.F_is_whole.kp T.b_is_whole .nil pass0 (pa_cons (pv 0) pa_nil)) (pe_one (pe_chain op_le op_le (pv 1) (pv 0) (pv 2)))))),
  (sims_ret (sim_and (sim_call0 (sim_cons (sim_var 0) sim_nil)) (sim_chain simr_le simr_le (sim_var 1) (sim_var 0) (sim_var 2))))⟩)
theorem ok__is_road (T : Txt w K mg) : FnOk P w K mg base CX0 3 T.f__is_road T.fd__is_road ["thing"] (spM T.cfg 1 f__is_road) :=
  fn_sim0 T.F__is_road sc__is_road rfl (fun cdv A outer s H E hr => ⟨_, (pss_cons (ps_if (PW.pt (pw_or (pt_not (pt_val (pe_callB call_isA (by rfl) T.n_isinstance (by decide +kernel) (pa_cons (pv 0) (pa_cons (pe_bltn (v := .ty "list") rfl T.n_list (by decide +kernel) rfl (by decide)) pa_nil))))) (pw_or1 (pt_cmpR op_gt (pe_callB call_len_seq (by rfl) T.n_len (by decide +kernel) (pa_cons (pv 0) pa_nil)) (pe_glob (v := .int 200) rfl T.c_LONGEST_ROAD ⟨_, rfl⟩) (nomark _))))) (pss_one (ps_ret pe_bl)) pss_nil)
  (pss_one (ps_ret (pe_callB (cr_all rfl) (by rfl) T.n_all (by decide +kernel) (pa_cons (pe_lc (own := [("number", 1)]) (g := gName 1) rfl sc__is_road.nd (pi_list (pv 0)) (blkOk_by (N := ["thing", "number"]) (sc := defScope s__is_road) (by decide +kernel)) (fun _ _ _ _ _ => pg_name (i := 1) sc__is_road.nd rfl (Or.inl rfl)) (fun _ _ _ _ _ => pts_nil) (fun _ _ _ _ _ => pe_call (ok_within T) (hr.mono (by decide)) (by rfl) T.g_within T.F_within.kp T.b_within .nil pass0 (pa_cons (pv 1) (pa_cons pe_int (pa_cons (pe_glob (v := .int 19) rfl T.c_MOST ⟨_, rfl⟩) pa_nil))))) pa_nil))))),
  (sims_seq (sims_if (sim_tOr (sim_tNot (sim_tB (sim_cb (simc_isA T.tabOk) (sim_cons (sim_var 0) (sim_cons (sim_ty _) sim_nil))))) (sim_tTest (sim_op simr_gt (sim_cb simc_lenQ (sim_cons (sim_var 0) sim_nil)) (sim_int _)))) (sims_ret (sim_bl _)) sims_next)
  (sims_ret (sim_cb simc_all (sim_cons (sim_lc (simi_list (sim_var 0)) (simg_name 1) (gw_name (by simp)) sim_yes (sim_call0 (sim_cons (sim_var 1) (sim_cons (sim_int _) (sim_cons (sim_int _) sim_nil))))) sim_nil))))⟩)
theorem ok_Road___init__ (T : Txt w K mg) : FnOk P w K mg base (L2.CX P w) 4 T.f_Road___init__ T.fd_Road___init__ ["self", "row"] (spM T.cfg 2 f_Road___init__) :=
  fn_simX T.F_Road___init__ sc_Road___init__ rfl (fun cdv A outer s H E hr => ⟨_, (pss_cons (ps_if (pt_not (pt_val (pe_call (ok__is_road T) (hr.mono (by decide)) (by rfl) T.g__is_road T.F__is_road.kp T.b__is_road .nil pass0 (pa_cons (pv 1) pa_nil)))) (pss_one (ps_raise rfl (takes_of rfl rfl rfl rfl) (pmk_own PySem.F.excBase_ValueError T.x_BadTurn T.g_BadTurn T.k_BadTurn (raises_own T.s_BadTurn T.t_BadTurn) rfl))) pss_nil)
  (pss_cons (ps_fld (pv 0) (pe_callTy call_list_of (by rfl) T.n_list (by decide +kernel) (pa_cons (pv 1) pa_nil)) rfl)
  (pss_cons (ps_fld (pv 0) pe_int rfl)
  (pss_one (ps_fld (pv 0) (pe_lst pa_nil) rfl))))),
  (sims_seq (sims_if (sim_tNot (sim_tB (sim_call0 (sim_cons (sim_var 1) sim_nil)))) (sims_raise 7) sims_next)
  (sims_seq (sims_fld T.fldOk (sim_var 0) (sim_cb simc_listOf (sim_cons (sim_var 1) sim_nil)))
  (sims_seq (sims_fld T.fldOk (sim_var 0) (sim_int _))
  (sims_fld T.fldOk (sim_var 0) (sim_lst sim_nil)))))⟩)
theorem ok_Road__next_number (T : Txt w K mg) : FnOk P w K mg base CX0 1 T.f_Road__next_number T.fd_Road__next_number ["self"] (spM T.cfg 1 f_Road__next_number) :=
  fn_sim0 T.F_Road__next_number sc_Road__next_number rfl (fun cdv A outer s H E hr => ⟨_, (pss_cons (ps_if (pt_not (pt_truth (pe_fld (pv 0) rfl) (by intro _; rfl))) (pss_one (ps_ret pe_int)) pss_nil)
  (pss_cons (ps_set (i := 1) sc_Road__next_number.nd rfl (Or.inl rfl) (pe_ix ix_list (pe_fld (pv 0) rfl) (pe_fld (pv 0) rfl) (fun _ _ => rfl)))
  (pss_cons (ps_fld (pv 0) (pe_op op_mod (pe_op op_add (pe_fld (pv 0) rfl) pe_int) (pe_callB call_len_seq (by rfl) T.n_len (by decide +kernel) (pa_cons (pe_fld (pv 0) rfl) pa_nil))) rfl)
  (pss_one (ps_ret (pv 1)))))),
  (sims_seq (sims_if (sim_tNot (sim_truth (sim_fld T.fldOk (sim_var 0)))) (sims_ret (sim_int _)) sims_next)
  (sims_seq (sims_asg (sim_op simr_ixL (sim_fld T.fldOk (sim_var 0)) (sim_fld T.fldOk (sim_var 0))) (simg_name 1))
  (sims_seq (sims_fld T.fldOk (sim_var 0) (sim_op simr_mod (sim_op simr_add (sim_fld T.fldOk (sim_var 0)) (sim_int _)) (sim_cb simc_lenQ (sim_cons (sim_fld T.fldOk (sim_var 0)) sim_nil))))
  (sims_ret (sim_var 1)))))⟩)
theorem ok__delays (T : Txt w K mg) : FnOk P w K mg base CX0 1 T.f__delays T.fd__delays ["number"] (spM T.cfg 1 f__delays) :=
  fn_sim0 T.F__delays sc__delays rfl (fun cdv A outer s H E hr => ⟨_, (pss_cons (ps_if (pt_cmpR op_lt (pv 0) (pe_glob (v := .int 10) rfl T.c_NEVER ⟨_, rfl⟩) (nomark _)) (pss_one (ps_ret (pe_lst (pa_cons (pv 0) pa_nil)))) pss_nil)
  (pss_cons (ps_if (pt_cmpR op_eq (pv 0) (pe_glob (v := .int 10) rfl T.c_NEVER ⟨_, rfl⟩) (nomark _)) (pss_one (ps_ret (pe_lst pa_nil))) pss_nil)
  (pss_one (ps_ret (pe_lst (pa_cons pe_int (pa_cons (pe_op op_sub (pv 0) (pe_glob (v := .int 10) rfl T.c_NEVER ⟨_, rfl⟩)) pa_nil))))))),
  (sims_seq (sims_if (sim_tTest (sim_op simr_lt (sim_var 0) (sim_int _))) (sims_ret (sim_lst (sim_cons (sim_var 0) sim_nil))) sims_next)
  (sims_seq (sims_if (sim_tTest (sim_op simr_eq (sim_var 0) (sim_int _))) (sims_ret (sim_lst sim_nil)) sims_next)
  (sims_ret (sim_lst (sim_cons (sim_int _) (sim_cons (sim_op simr_sub (sim_var 0) (sim_int _)) sim_nil))))))⟩)
theorem ok_Road_send (T : Txt w K mg) : FnOk P w K mg base CX0 2 T.f_Road_send T.fd_Road_send ["self", "letter", "turn"] (spM T.cfg 3 f_Road_send) :=
  fn_sim0 T.F_Road_send sc_Road_send rfl (fun cdv A outer s H E hr => ⟨_, (pss_one (ps_for PassesOwn.never rfl (pi_list (pe_call (ok__delays T) (hr.mono (by decide)) (by rfl) T.g__delays T.F__delays.kp T.b__delays .nil pass0 (pa_cons (pe_meth0 (pv 0) T.cl_Road T.me_Road__next_number (ok_Road__next_number T) (hr.mono (by decide)) T.b_Road__next_number .nil pass0) pa_nil))) (pg_name (i := 3) sc_Road_send.nd rfl (Or.inl rfl)) (pss_one (ps_expr (pe_bm PySem.F.plainAttrs_list PySem.F.slot_list_append PySem.F.type_list_append mt_append (pe_fld (pv 0) rfl) (pa_cons (pe_tup (pa_cons (pe_op op_add (pe_op op_add (pv 2) pe_int) (pv 3)) (pa_cons (pv 1) pa_nil))) pa_nil)))))),
  (sims_for (simi_list (sim_call0 (sim_cons (sim_meth0 (sim_var 0) sim_nil) sim_nil))) (simg_name 3) (sims_drop (sim_bm simb_append (sim_fld T.fldOk (sim_var 0)) (sim_cons (sim_tup (sim_cons (sim_op simr_add (sim_op simr_add (sim_var 2) (sim_int _)) (sim_var 3)) (sim_cons (sim_var 1) sim_nil))) sim_nil))))⟩)
theorem ok_Road_due (T : Txt w K mg) : FnOk P w K mg base CX0 1 T.f_Road_due T.fd_Road_due ["self", "turn"] (spM T.cfg 2 f_Road_due) :=
  fn_sim0 T.F_Road_due sc_Road_due rfl (fun cdv A outer s H E hr => ⟨_, (pss_cons (ps_setLc (i := 2) (own := [("at", 3), ("letter", 4)]) (g := gTup T.cfg.K 2 (gNames [3, 4])) rfl sc_Road_due.nd rfl rfl (sw_true rfl rfl rfl (by decide +kernel)) (pi_list (pe_fld (pv 0) rfl)) (blkOk_by (N := ["self", "turn", "come", "at", "letter", "pair"]) (sc := defScope s_Road_due) (by decide +kernel)) (fun _ _ _ _ _ => pg_tup rfl (pgs_cons (pg_name (i := 3) sc_Road_due.nd rfl (Or.inl rfl)) (pgs_cons (pg_name (i := 4) sc_Road_due.nd rfl (Or.inl rfl)) pgs_nil))) (fun _ _ _ _ _ => pts_one (pt_cmpR op_eq (pv 3) (pv 1) (nomark _))) (fun _ _ _ _ _ => pv 4))
  (pss_cons (ps_fld (pv 0) (pe_lc (own := [("pair", 5)]) (g := gName 5) rfl sc_Road_due.nd (pi_list (pe_fld (pv 0) rfl)) (blkOk_by (N := ["self", "turn", "come", "at", "letter", "pair"]) (sc := defScope s_Road_due) (by decide +kernel)) (fun _ _ _ _ _ => pg_name (i := 5) sc_Road_due.nd rfl (Or.inl rfl)) (fun _ _ _ _ _ => pts_one (pt_cmpR op_ne (pe_ix ix_tup (pv 5) pe_int (fun _ _ => rfl)) (pv 1) (nomark _))) (fun _ _ _ _ _ => pv 5)) rfl)
  (pss_one (ps_ret (pv 2))))),
  (sims_seq (sims_asg (sim_lc (simi_list (sim_fld T.fldOk (sim_var 0))) (simg_tup [3, 4]) (gw_tup [3, 4] (by simp)) (sim_tTest (sim_op simr_eq (sim_var 3) (sim_var 1))) (sim_var 4)) (simg_name 2))
  (sims_seq (sims_fld T.fldOk (sim_var 0) (sim_lc (simi_list (sim_fld T.fldOk (sim_var 0))) (simg_name 5) (gw_name (by simp)) (sim_tTest (sim_op simr_ne (sim_op simr_ixT (sim_var 5) (sim_int _)) (sim_var 1))) (sim_var 5)))
  (sims_ret (sim_var 2))))⟩)
theorem ok_Road_many (T : Txt w K mg) : FnOk P w K mg base CX0 1 T.f_Road_many T.fd_Road_many ["self"] (spM T.cfg 1 f_Road_many) :=
  fn_sim0 T.F_Road_many sc_Road_many rfl (fun cdv A outer s H E hr => ⟨_, (pss_one (ps_ret (pe_callB call_len_seq (by rfl) T.n_len (by decide +kernel) (pa_cons (pe_fld (pv 0) rfl) pa_nil)))),
  (sims_ret (sim_cb simc_lenQ (sim_cons (sim_fld T.fldOk (sim_var 0)) sim_nil)))⟩)
theorem ok__law_draw (T : Txt w K mg) : FnOk P w K mg base CX0 1 T.f__law_draw T.fd__law_draw ["_law_script", "_law_k"] (spM T.cfg 2 f__law_draw) :=
  fn_sim0 T.F__law_draw sc__law_draw rfl (fun cdv A outer s H E hr => ⟨_, (pss_one (ps_ret (pe_ifExp (pt_cmpR op_gt (pe_callB call_len_seq (by rfl) T.n_len (by decide +kernel) (pa_cons (pv 0) pa_nil)) (pv 1) (nomark _)) (pe_ix ix_list (pv 0) (pv 1) (fun _ _ => rfl)) pe_int))),
  (sims_ret (sim_if (sim_tTest (sim_op simr_gt (sim_cb simc_lenQ (sim_cons (sim_var 0) sim_nil)) (sim_var 1))) (sim_op simr_ixL (sim_var 0) (sim_var 1)) (sim_int _)))⟩)
theorem ok__law_spread (T : Txt w K mg) : FnOk P w K mg base CX0 1 T.f__law_spread T.fd__law_spread ["_law_cell", "_law_k"] (spM T.cfg 2 f__law_spread) :=
  fn_sim0 T.F__law_spread sc__law_spread rfl (fun cdv A outer s H E hr => ⟨_, (pss_one (ps_ret (pe_op op_mod (pe_op op_mul (pe_op op_add (pv 0) pe_int) (pe_op op_add (pe_op op_add pe_int (pe_op op_mul (pe_op op_mul pe_int (pv 1)) (pv 1))) (pv 1))) pe_int))),
  (sims_ret (sim_op simr_mod (sim_op simr_mul (sim_op simr_add (sim_var 0) (sim_int _)) (sim_op simr_add (sim_op simr_add (sim_int _) (sim_op simr_mul (sim_op simr_mul (sim_int _) (sim_var 1)) (sim_var 1))) (sim_var 1))) (sim_int _)))⟩)
theorem ok__law_alone (T : Txt w K mg) : FnOk P w K mg base CX0 1 T.f__law_alone T.fd__law_alone ["_law_caught", "_law_words"] (spM T.cfg 2 f__law_alone) :=
  fn_sim0 T.F__law_alone sc__law_alone rfl (fun cdv A outer s H E hr => ⟨_, (pss_cons (ps_if (PW.pt (pw_or (pt_cmpR op_isN (pv 0) pe_non (nomark _)) (pw_or1 (pt_not (pt_val (pe_callB call_isA (by rfl) T.n_isinstance (by decide +kernel) (pa_cons (pv 0) (pa_cons (pe_bltn (v := .ty "ValueError") rfl T.n_ValueError (by decide +kernel) rfl (by decide)) pa_nil)))))))) (pss_one (ps_ret (pe_and (pe_cmpR op_eq (pv 1) pe_str (nomark _)) (pe_one (pe_cmpR op_isN (pv 0) pe_non (nomark _)))))) pss_nil)
  (pss_cons (ps_set (i := 2) sc__law_alone.nd rfl (Or.inl rfl) (pe_op op_add_str (pe_op op_mulS pe_str (pe_callTy call_int1 (by rfl) T.n_int (by decide +kernel) (pa_cons (pe_callB call_isA (by rfl) T.n_isinstance (by decide +kernel) (pa_cons (pv 0) (pa_cons (pe_glob (v := .ref (T.cfg.cl 1)) rfl T.g_BadName rfl) pa_nil))) pa_nil))) (pe_op op_mulS pe_str (pe_callTy call_int1 (by rfl) T.n_int (by decide +kernel) (pa_cons (pe_callB call_isA (by rfl) T.n_isinstance (by decide +kernel) (pa_cons (pv 0) (pa_cons (pe_glob (v := .ref (T.cfg.cl 2)) rfl T.g_BadRecord rfl) pa_nil))) pa_nil)))))
  (pss_cons (ps_set (i := 2) sc__law_alone.nd rfl (Or.inl rfl) (pe_op op_add_str (pe_op op_add_str (pv 2) (pe_op op_mulS pe_str (pe_callTy call_int1 (by rfl) T.n_int (by decide +kernel) (pa_cons (pe_callB call_isA (by rfl) T.n_isinstance (by decide +kernel) (pa_cons (pv 0) (pa_cons (pe_glob (v := .ref (T.cfg.cl 7)) rfl T.g_BadTurn rfl) pa_nil))) pa_nil)))) (pe_op op_mulS pe_str (pe_callTy call_int1 (by rfl) T.n_int (by decide +kernel) (pa_cons (pe_callB call_isA (by rfl) T.n_isinstance (by decide +kernel) (pa_cons (pv 0) (pa_cons (pe_glob (v := .ref (T.cfg.cl 4)) rfl T.g_BadZone rfl) pa_nil))) pa_nil)))))
  (pss_cons (ps_set (i := 2) sc__law_alone.nd rfl (Or.inl rfl) (pe_op op_add_str (pv 2) (pe_op op_mulS pe_str (pe_callTy call_int1 (by rfl) T.n_int (by decide +kernel) (pa_cons (pe_callB call_isA (by rfl) T.n_isinstance (by decide +kernel) (pa_cons (pv 0) (pa_cons (pe_glob (v := .ref (T.cfg.cl 6)) rfl T.g_BadChange rfl) pa_nil))) pa_nil)))))
  (pss_one (ps_ret (pe_cmpR op_eq (pe_op op_add_str (pv 2) (pe_op op_mulS pe_str (pe_callTy call_int1 (by rfl) T.n_int (by decide +kernel) (pa_cons (pe_callB call_isA (by rfl) T.n_isinstance (by decide +kernel) (pa_cons (pv 0) (pa_cons (pe_tup (pa_cons (pe_glob (v := .ref (T.cfg.cl 3)) rfl T.g_BadLetter rfl) (pa_cons (pe_glob (v := .ref (T.cfg.cl 5)) rfl T.g_BadRow rfl) (pa_cons (pe_glob (v := .ref (T.cfg.cl 8)) rfl T.g_BadLine rfl) pa_nil)))) pa_nil))) pa_nil)))) (pv 1) (nomark _)))))))),
  (sims_seq (sims_if (sim_tOr (sim_tTest (sim_op simr_isN (sim_var 0) sim_non)) (sim_tNot (sim_tB (sim_cb (simc_isA T.tabOk) (sim_cons (sim_var 0) (sim_cons (sim_ty _) sim_nil)))))) (sims_ret (sim_and (sim_op simr_eq (sim_var 1) (sim_str _)) (sim_op simr_isN (sim_var 0) sim_non))) sims_next)
  (sims_seq (sims_asg (sim_op simr_addS (sim_op simr_mulS (sim_str _) (sim_cb simc_int1 (sim_cons (sim_cb (simc_isA T.tabOk) (sim_cons (sim_var 0) (sim_cons (sim_cls 1) sim_nil))) sim_nil))) (sim_op simr_mulS (sim_str _) (sim_cb simc_int1 (sim_cons (sim_cb (simc_isA T.tabOk) (sim_cons (sim_var 0) (sim_cons (sim_cls 2) sim_nil))) sim_nil)))) (simg_name 2))
  (sims_seq (sims_asg (sim_op simr_addS (sim_op simr_addS (sim_var 2) (sim_op simr_mulS (sim_str _) (sim_cb simc_int1 (sim_cons (sim_cb (simc_isA T.tabOk) (sim_cons (sim_var 0) (sim_cons (sim_cls 7) sim_nil))) sim_nil)))) (sim_op simr_mulS (sim_str _) (sim_cb simc_int1 (sim_cons (sim_cb (simc_isA T.tabOk) (sim_cons (sim_var 0) (sim_cons (sim_cls 4) sim_nil))) sim_nil)))) (simg_name 2))
  (sims_seq (sims_asg (sim_op simr_addS (sim_var 2) (sim_op simr_mulS (sim_str _) (sim_cb simc_int1 (sim_cons (sim_cb (simc_isA T.tabOk) (sim_cons (sim_var 0) (sim_cons (sim_cls 6) sim_nil))) sim_nil)))) (simg_name 2))
  (sims_ret (sim_op simr_eq (sim_op simr_addS (sim_var 2) (sim_op simr_mulS (sim_str _) (sim_cb simc_int1 (sim_cons (sim_cb (simc_isA T.tabOk) (sim_cons (sim_var 0) (sim_cons (sim_tup (sim_cons (sim_cls 3) (sim_cons (sim_cls 5) (sim_cons (sim_cls 8) sim_nil)))) sim_nil))) sim_nil)))) (sim_var 1)))))))⟩)
theorem ok__law_row (T : Txt w K mg) : FnOk P w K mg base CX0 2 T.f__law_row T.fd__law_row ["_law_script"] (spM T.cfg 1 f__law_row) :=
  fn_sim0 T.F__law_row sc__law_row rfl (fun cdv A outer s H E hr => ⟨_, (pss_cons (ps_set (i := 1) sc__law_row.nd rfl (Or.inl rfl) (pe_call (ok__law_spread T) (hr.mono (by decide)) (by rfl) T.g__law_spread T.F__law_spread.kp T.b__law_spread .nil pass0 (pa_cons (pe_call (ok__law_draw T) (hr.mono (by decide)) (by rfl) T.g__law_draw T.F__law_draw.kp T.b__law_draw .nil pass0 (pa_cons (pv 0) (pa_cons pe_int pa_nil))) (pa_cons pe_int pa_nil))))
  (pss_cons (ps_set (i := 2) sc__law_row.nd rfl (Or.inl rfl) (pe_op op_mod (pv 1) pe_int))
  (pss_cons (ps_set (i := 3) sc__law_row.nd rfl (Or.inl rfl) (pe_lst pa_nil))
  (pss_cons (ps_for PassesOwn.never rfl (pi_range1 rfl T.n_range (pa_cons (pe_op op_mod (pe_op op_fdiv (pv 1) pe_int) pe_int) pa_nil)) (pg_name (i := 4) sc__law_row.nd rfl (Or.inl rfl)) (pss_cons (ps_set (i := 5) sc__law_row.nd rfl (Or.inl rfl) (pe_call (ok__law_spread T) (hr.mono (by decide)) (by rfl) T.g__law_spread T.F__law_spread.kp T.b__law_spread .nil pass0 (pa_cons (pe_call (ok__law_draw T) (hr.mono (by decide)) (by rfl) T.g__law_draw T.F__law_draw.kp T.b__law_draw .nil pass0 (pa_cons (pv 0) (pa_cons (pe_op op_add pe_int (pe_op op_mod (pv 4) pe_int)) pa_nil))) (pa_cons (pv 4) pa_nil))))
  (pss_one (ps_expr (pe_bm PySem.F.plainAttrs_list PySem.F.slot_list_append PySem.F.type_list_append mt_append (pv 3) (pa_cons (pe_ix ix_list (pe_lst (pa_cons (pe_op op_mod (pv 5) pe_int) (pa_cons (pe_op op_mod (pv 5) pe_int) (pa_cons (pe_ix ix_list (pe_lst (pa_cons pe_int (pa_cons pe_int pa_nil))) (pe_op op_mod (pv 5) pe_int) (fun _ _ => rfl)) (pa_cons (pe_op op_add pe_int (pe_op op_mod (pv 5) pe_int)) (pa_cons (pe_ix ix_list (pe_lst (pa_cons pe_int (pa_cons pe_int (pa_cons pe_int (pa_cons pe_int (pa_cons pe_int (pa_cons pe_int pa_nil))))))) (pe_op op_mod (pv 5) pe_int) (fun _ _ => rfl)) pa_nil)))))) (pv 2) (fun _ _ => rfl)) pa_nil))))))
  (pss_one (ps_ret (pv 3))))))),
  (sims_seq (sims_asg (sim_call0 (sim_cons (sim_call0 (sim_cons (sim_var 0) (sim_cons (sim_int _) sim_nil))) (sim_cons (sim_int _) sim_nil))) (simg_name 1))
  (sims_seq (sims_asg (sim_op simr_mod (sim_var 1) (sim_int _)) (simg_name 2))
  (sims_seq (sims_asg (sim_lst sim_nil) (simg_name 3))
  (sims_seq (sims_for (simi_range1 (sim_cons (sim_op simr_mod (sim_op simr_fdiv (sim_var 1) (sim_int _)) (sim_int _)) sim_nil)) (simg_name 4) (sims_seq (sims_asg (sim_call0 (sim_cons (sim_call0 (sim_cons (sim_var 0) (sim_cons (sim_op simr_add (sim_int _) (sim_op simr_mod (sim_var 4) (sim_int _))) sim_nil))) (sim_cons (sim_var 4) sim_nil))) (simg_name 5))
  (sims_drop (sim_bm simb_append (sim_var 3) (sim_cons (sim_op simr_ixL (sim_lst (sim_cons (sim_op simr_mod (sim_var 5) (sim_int _)) (sim_cons (sim_op simr_mod (sim_var 5) (sim_int _)) (sim_cons (sim_op simr_ixL (sim_lst (sim_cons (sim_int _) (sim_cons (sim_int _) sim_nil))) (sim_op simr_mod (sim_var 5) (sim_int _))) (sim_cons (sim_op simr_add (sim_int _) (sim_op simr_mod (sim_var 5) (sim_int _))) (sim_cons (sim_op simr_ixL (sim_lst (sim_cons (sim_int _) (sim_cons (sim_int _) (sim_cons (sim_int _) (sim_cons (sim_int _) (sim_cons (sim_int _) (sim_cons (sim_int _) sim_nil))))))) (sim_op simr_mod (sim_var 5) (sim_int _))) sim_nil)))))) (sim_var 2)) sim_nil)))))
  (sims_ret (sim_var 3))))))⟩)
theorem ok__law_sent (T : Txt w K mg) : FnOk P w K mg base CX0 1 T.f__law_sent T.fd__law_sent ["_law_waiting", "_law_row_here", "_law_count", "_law_thing", "_law_turn"] (spM T.cfg 5 f__law_sent) :=
  fn_sim0 T.F__law_sent sc__law_sent rfl (fun cdv A outer s H E hr => ⟨_, (pss_cons (ps_set (i := 5) sc__law_sent.nd rfl (Or.inl rfl) (pe_ifExp (pt_cmpR (op_neD hr.units) (pv 1) (pe_lst pa_nil) (nomark _)) (pe_ix ix_list (pv 1) (pe_op op_mod (pv 2) (pe_callB call_len_seq (by rfl) T.n_len (by decide +kernel) (pa_cons (pv 1) pa_nil))) (fun _ _ => rfl)) pe_int))
  (pss_cons (ps_if (pt_cmpR op_eq (pv 5) pe_int (nomark _)) (pss_one (ps_ret (pv 0))) pss_nil)
  (pss_cons (ps_if (pt_cmpR op_lt (pv 5) pe_int (nomark _)) (pss_one (ps_ret (pe_op op_cat (pv 0) (pe_lst (pa_cons (pe_tup (pa_cons (pe_op op_add (pe_op op_add (pv 4) pe_int) (pv 5)) (pa_cons (pv 3) pa_nil))) pa_nil))))) pss_nil)
  (pss_one (ps_ret (pe_op op_cat (pv 0) (pe_lst (pa_cons (pe_tup (pa_cons (pe_op op_add (pv 4) pe_int) (pa_cons (pv 3) pa_nil))) (pa_cons (pe_tup (pa_cons (pe_op op_sub (pe_op op_add (pe_op op_add (pv 4) pe_int) (pv 5)) pe_int) (pa_cons (pv 3) pa_nil))) pa_nil))))))))),
  (sims_seq (sims_asg (sim_if (sim_tTest (sim_op simr_neD (sim_var 1) (sim_lst sim_nil))) (sim_op simr_ixL (sim_var 1) (sim_op simr_mod (sim_var 2) (sim_cb simc_lenQ (sim_cons (sim_var 1) sim_nil)))) (sim_int _)) (simg_name 5))
  (sims_seq (sims_if (sim_tTest (sim_op simr_eq (sim_var 5) (sim_int _))) (sims_ret (sim_var 0)) sims_next)
  (sims_seq (sims_if (sim_tTest (sim_op simr_lt (sim_var 5) (sim_int _))) (sims_ret (sim_op simr_cat (sim_var 0) (sim_lst (sim_cons (sim_tup (sim_cons (sim_op simr_add (sim_op simr_add (sim_var 4) (sim_int _)) (sim_var 5)) (sim_cons (sim_var 3) sim_nil))) sim_nil)))) sims_next)
  (sims_ret (sim_op simr_cat (sim_var 0) (sim_lst (sim_cons (sim_tup (sim_cons (sim_op simr_add (sim_var 4) (sim_int _)) (sim_cons (sim_var 3) sim_nil))) (sim_cons (sim_tup (sim_cons (sim_op simr_sub (sim_op simr_add (sim_op simr_add (sim_var 4) (sim_int _)) (sim_var 5)) (sim_int _)) (sim_cons (sim_var 3) sim_nil))) sim_nil))))))))⟩)
theorem ok__law_refused (T : Txt w K mg) : FnOk P w K mg base CX0 6 T.f__law_refused T.fd__law_refused ["_law_cell"] (spM T.cfg 1 f__law_refused) :=
  fn_sim0 T.F__law_refused sc__law_refused rfl (fun cdv A outer s H E hr => ⟨_, (pss_cons (ps_set (i := 1) sc__law_refused.nd rfl (Or.inl rfl) pe_non)
  (pss_cons (ps_try_keep (i := 2) (Wout := fun _ _ _ _ => False) rfl rfl rfl sc__law_refused.nd rfl rfl ⟨rfl, by decide, Or.inl T.g_HouseError⟩ takes0 (fun W pn xe tk _ => pss_one (ps_expr (by exact (pe_makeS T.mk_Road (ok_Road___init__ T) (hr.mono (by decide)) rfl T.g_Road T.b_Road___init__ (fun σ => passAt tk σ) (pa_cons (pe_ix (show IxR _ (rIxL K) from ix_list) (pe_lst (pa_cons pe_non (pa_cons (pe_tup (pa_cons pe_int (pa_cons pe_int pa_nil))) (pa_cons pe_str (pa_cons (pe_lst (pa_cons pe_int pa_nil)) (pa_cons (pe_lst (pa_cons (pe_un un_neg pe_int) pa_nil)) (pa_cons (pe_lst (pa_cons pe_bl pa_nil)) (pa_cons (pe_op op_rep (pe_lst (pa_cons pe_int pa_nil)) pe_int) (pa_cons (pe_lst (pa_cons pe_str pa_nil)) (pa_cons pe_int pa_nil)))))))))) (pe_op op_mod (pv 0) pe_int) (fun _ _ => rfl)) pa_nil))))) (fun a oe cls d pn hz hf => pss_one (ps_set (i := 1) sc__law_refused.nd rfl (Or.inl rfl) (pv 2))))
  (pss_one (ps_ret (pe_call (ok__law_alone T) (hr.mono (by decide)) (by rfl) T.g__law_alone T.F__law_alone.kp T.b__law_alone .nil pass0 (pa_cons (pv 1) (pa_cons pe_str pa_nil))))))),
  (sims_seq (sims_asg sim_non (simg_name 1))
  (sims_seq (have h_ := sims_try (tb := tab) (c := T.cfg) (W := fun _ _ _ _ => False) (m := 0) (i := 2) (j := 1) (b := (msDrop (mMake 9 2 f_Road___init__ (maCons (mOp fIxL (mLst (maCons (mC .non) (maCons (mTup (maCons (mC (.int 0)) (maCons (mC (.int 1)) maNil))) (maCons (mC (.str "01")) (maCons (mLst (maCons (mC (.int 20)) maNil)) (maCons (mLst (maCons (mUn fNeg (mC (.int 1))) maNil)) (maCons (mLst (maCons (mC (.bl true)) maNil)) (maCons (mOp fRepL (mLst (maCons (mC (.int 0)) maNil)) (mC (.int 201))) (maCons (mLst (maCons (mC (.str "0")) maNil)) (maCons (mC (.int 5)) maNil)))))))))) (mOp fMod (mVar 0) (mC (.int 9)))) maNil)))) T.exm_HouseError (fun W => (sims_drop (sim_makeS (sim_cons (sim_op simr_ixL (sim_lst (sim_cons sim_non (sim_cons (sim_tup (sim_cons (sim_int _) (sim_cons (sim_int _) sim_nil))) (sim_cons (sim_str _) (sim_cons (sim_lst (sim_cons (sim_int _) sim_nil)) (sim_cons (sim_lst (sim_cons (sim_neg (sim_int _)) sim_nil)) (sim_cons (sim_lst (sim_cons (sim_bl _) sim_nil)) (sim_cons (sim_op simr_repL (sim_lst (sim_cons (sim_int _) sim_nil)) (sim_int _)) (sim_cons (sim_lst (sim_cons (sim_str _) sim_nil)) (sim_cons (sim_int _) sim_nil)))))))))) (sim_op simr_mod (sim_var 0) (sim_int _))) sim_nil)))); h_)
  (sims_ret (sim_call0 (sim_cons (sim_var 1) (sim_cons (sim_str _) sim_nil))))))⟩)
theorem ok_law (T : Txt w K mg) : FnOk P w K mg base (L2.CX P w) 7 T.f_law T.fd_law ["_law_script"] (spM T.cfg 1 f_law) :=
  fn_simX T.F_law sc_law rfl (fun cdv A outer s H E hr => ⟨_, (pss_cons (ps_set (i := 1) sc_law.nd rfl (Or.inl rfl) (pe_call (ok__law_row T) (hr.mono (by decide)) (by rfl) T.g__law_row T.F__law_row.kp T.b__law_row .nil pass0 (pa_cons (pv 0) pa_nil)))
  (pss_cons (ps_set (i := 2) sc_law.nd rfl (Or.inl rfl) (pe_callTy call_list_of (by rfl) T.n_list (by decide +kernel) (pa_cons (pv 1) pa_nil)))
  (pss_cons (ps_set (i := 3) sc_law.nd rfl (Or.inl rfl) (pe_make T.mk_Road (ok_Road___init__ T) (hr.mono (by decide)) (by rfl) T.g_Road T.b_Road___init__ .nil (passes_call (takes_of rfl rfl rfl rfl) (fun _ _ _ _ h => h)) (pa_cons (pv 2) pa_nil)))
  (pss_cons (ps_expr (pe_bm PySem.F.plainAttrs_list PySem.F.slot_list_append PySem.F.type_list_append mt_append (pv 2) (pa_cons pe_int pa_nil)))
  (pss_cons (ps_set (i := 4) sc_law.nd rfl (Or.inl rfl) (pe_lst pa_nil))
  (pss_cons (ps_set (i := 5) sc_law.nd rfl (Or.inl rfl) pe_int)
  (pss_cons (ps_set (i := 6) sc_law.nd rfl (Or.inr rfl) (pe_op op_mod (pe_call (ok__law_draw T) (hr.mono (by decide)) (by rfl) T.g__law_draw T.F__law_draw.kp T.b__law_draw .nil pass0 (pa_cons (pv 0) (pa_cons pe_int pa_nil))) (pe_op op_pow pe_int pe_int)))
  (pss_cons (ps_for (passes_of rfl) rfl (pi_range1 rfl T.n_range (pa_cons (pe_callB (call_max2 rfl) (by rfl) T.n_max (by decide +kernel) (pa_cons pe_int (pa_cons (pe_op op_sub (pe_callB call_len_seq (by rfl) T.n_len (by decide +kernel) (pa_cons (pv 0) pa_nil)) pe_int) pa_nil))) pa_nil)) (pg_name (i := 7) sc_law.nd rfl (Or.inl rfl)) (pss_cons (ps_set (i := 8) sc_law.nd rfl (Or.inl rfl) (pe_call (ok__law_spread T) (hr.mono (by decide)) (by rfl) T.g__law_spread T.F__law_spread.kp T.b__law_spread .nil pass0 (pa_cons (pe_ix ix_list (pv 0) (pe_op op_add pe_int (pv 7)) (fun _ _ => rfl)) (pa_cons (pv 7) pa_nil))))
  (pss_cons (ps_for (passes_of rfl) rfl (pi_range1 rfl T.n_range (pa_cons (pe_ifExp (pt_cmpR op_lt (pv 5) pe_int (nomark _)) (pe_ix ix_list (pe_lst (pa_cons pe_int (pa_cons pe_int (pa_cons pe_int (pa_cons pe_int (pa_cons pe_int pa_nil)))))) (pe_op op_mod (pv 8) pe_int) (fun _ _ => rfl)) pe_int) pa_nil)) (pg_name (i := 9) sc_law.nd rfl (Or.inl rfl)) (pss_cons (ps_set (i := 10) sc_law.nd rfl (Or.inl rfl) (pe_ix ix_list (pe_lst (pa_cons (pe_tup (pa_cons pe_str (pa_cons (pv 5) pa_nil))) (pa_cons pe_str (pa_cons pe_non (pa_cons (pe_tup (pa_cons (pe_op op_fdiv (pv 5) pe_int) (pa_cons pe_str pa_nil))) pa_nil))))) (pe_op op_mod (pe_op op_fdiv (pv 8) (pe_op op_add pe_int (pv 9))) pe_int) (fun _ _ => rfl)))
  (pss_cons (ps_if (pt_cmpR op_notN (pe_meth (pv 3) T.cl_Road T.me_Road_send (ok_Road_send T) (hr.mono (by decide)) T.b_Road_send .nil pass0 (pa_cons (pv 10) (pa_cons (pv 6) pa_nil))) pe_non (nomark _)) (pss_one (ps_ret pe_bl)) pss_nil)
  (pss_cons (ps_set (i := 4) sc_law.nd rfl (Or.inl rfl) (pe_call (ok__law_sent T) (hr.mono (by decide)) (by rfl) T.g__law_sent T.F__law_sent.kp T.b__law_sent .nil pass0 (pa_cons (pv 4) (pa_cons (pv 1) (pa_cons (pv 5) (pa_cons (pv 10) (pa_cons (pv 6) pa_nil)))))))
  (pss_one (ps_set (i := 5) sc_law.nd rfl (Or.inl rfl) (pe_op op_add (pv 5) pe_int)))))))
  (pss_cons (ps_if (PW.pt (pw_or (pt_not (pt_val (pe_call (ok__law_refused T) (hr.mono (by decide)) (by rfl) T.g__law_refused T.F__law_refused.kp T.b__law_refused .nil pass0 (pa_cons (pe_op op_fdiv (pv 8) pe_int) pa_nil)))) (pw_or1 (pt_cmpR op_ne (pe_meth0 (pv 3) T.cl_Road T.me_Road_many (ok_Road_many T) (hr.mono (by decide)) T.b_Road_many .nil pass0) (pe_callB call_len_seq (by rfl) T.n_len (by decide +kernel) (pa_cons (pv 4) pa_nil)) (nomark _))))) (pss_one (ps_ret pe_bl)) pss_nil)
  (pss_cons (ps_set (i := 6) sc_law.nd rfl (Or.inr rfl) (pe_op op_add (pe_op op_add (pv 6) pe_int) (pe_op op_fdiv (pe_op op_mod (pe_op op_fdiv (pv 8) pe_int) pe_int) pe_int)))
  (pss_one (ps_for (passes_of rfl) rfl (pi_range1 rfl T.n_range (pa_cons (pe_op op_add pe_int (pe_op op_mod (pe_op op_fdiv (pv 8) pe_int) pe_int)) pa_nil)) (pg_name (i := 11) sc_law.nd rfl (Or.inl rfl)) (pss_cons (ps_set (i := 12) sc_law.nd rfl (Or.inl rfl) (pe_meth (pv 3) T.cl_Road T.me_Road_due (ok_Road_due T) (hr.mono (by decide)) T.b_Road_due .nil pass0 (pa_cons (pv 6) pa_nil)))
  (pss_cons (ps_setLc (i := 13) (own := [("_law_when", 15), ("_law_thing", 10)]) (g := gTup T.cfg.K 2 (gNames [15, 10])) rfl sc_law.nd rfl rfl (sw_true rfl rfl rfl (by decide +kernel)) (pi_list (pv 4)) (blkOk_by (N := ["_law_script", "_law_row_here", "_law_handed", "_law_road", "_law_waiting", "_law_count", "_law_turn", "_law_k", "_law_cell", "_law_step", "_law_thing", "_law_again", "_law_found", "_law_due", "_law_pair", "_law_when"]) (sc := defScope s_law) (by decide +kernel)) (fun _ _ _ _ _ => pg_tup rfl (pgs_cons (pg_name (i := 15) sc_law.nd rfl (Or.inl rfl)) (pgs_cons (pg_name (i := 10) sc_law.nd rfl (Or.inl rfl)) pgs_nil))) (fun _ _ _ _ _ => pts_one (pt_cmpR op_eq (pv 15) (pv 6) (nomark _))) (fun _ _ _ _ _ => pv 10))
  (pss_cons (ps_setLc (i := 4) (own := [("_law_pair", 14)]) (g := gName 14) rfl sc_law.nd rfl rfl (sw_true rfl rfl rfl (by decide +kernel)) (pi_list (pv 4)) (blkOk_by (N := ["_law_script", "_law_row_here", "_law_handed", "_law_road", "_law_waiting", "_law_count", "_law_turn", "_law_k", "_law_cell", "_law_step", "_law_thing", "_law_again", "_law_found", "_law_due", "_law_pair", "_law_when"]) (sc := defScope s_law) (by decide +kernel)) (fun _ _ _ _ _ => pg_name (i := 14) sc_law.nd rfl (Or.inl rfl)) (fun _ _ _ _ _ => pts_one (pt_cmpR op_ne (pe_ix ix_tup (pv 14) pe_int (fun _ _ => rfl)) (pv 6) (nomark _))) (fun _ _ _ _ _ => pv 14))
  (pss_cons (ps_if (PW.pt (pw_or (pt_not (pt_val (pe_callB call_isA (by rfl) T.n_isinstance (by decide +kernel) (pa_cons (pv 12) (pa_cons (pe_bltn (v := .ty "list") rfl T.n_list (by decide +kernel) rfl (by decide)) pa_nil))))) (pw_or (pt_cmpR (op_neD hr.units) (pv 12) (pv 13) (nomark _)) (pw_or1 (pt_cmpR op_ne (pe_meth0 (pv 3) T.cl_Road T.me_Road_many (ok_Road_many T) (hr.mono (by decide)) T.b_Road_many .nil pass0) (pe_callB call_len_seq (by rfl) T.n_len (by decide +kernel) (pa_cons (pv 4) pa_nil)) (nomark _)))))) (pss_one (ps_ret pe_bl)) pss_nil)
  (pss_one (ps_expr (pe_bm PySem.F.plainAttrs_list PySem.F.slot_list_append PySem.F.type_list_append mt_append (pv 12) (pa_cons pe_str pa_nil)))))))))))))))
  (pss_cons (ps_for (passes_of rfl) rfl (pi_range1 rfl T.n_range (pa_cons pe_int pa_nil)) (pg_name (i := 9) sc_law.nd rfl (Or.inl rfl)) (pss_cons (ps_set (i := 6) sc_law.nd rfl (Or.inr rfl) (pe_op op_add (pv 6) pe_int))
  (pss_cons (ps_if (pt_cmpR (op_neD hr.units) (pe_meth (pv 3) T.cl_Road T.me_Road_due (ok_Road_due T) (hr.mono (by decide)) T.b_Road_due .nil pass0 (pa_cons (pv 6) pa_nil)) (pe_lc (own := [("_law_when", 15), ("_law_thing", 10)]) (g := gTup T.cfg.K 2 (gNames [15, 10])) rfl sc_law.nd (pi_list (pv 4)) (blkOk_by (N := ["_law_script", "_law_row_here", "_law_handed", "_law_road", "_law_waiting", "_law_count", "_law_turn", "_law_k", "_law_cell", "_law_step", "_law_thing", "_law_again", "_law_found", "_law_due", "_law_pair", "_law_when"]) (sc := defScope s_law) (by decide +kernel)) (fun _ _ _ _ _ => pg_tup rfl (pgs_cons (pg_name (i := 15) sc_law.nd rfl (Or.inl rfl)) (pgs_cons (pg_name (i := 10) sc_law.nd rfl (Or.inl rfl)) pgs_nil))) (fun _ _ _ _ _ => pts_one (pt_cmpR op_eq (pv 15) (pv 6) (nomark _))) (fun _ _ _ _ _ => pv 10)) (nomark _)) (pss_one (ps_ret pe_bl)) pss_nil)
  (pss_one (ps_setLc (i := 4) (own := [("_law_pair", 14)]) (g := gName 14) rfl sc_law.nd rfl rfl (sw_true rfl rfl rfl (by decide +kernel)) (pi_list (pv 4)) (blkOk_by (N := ["_law_script", "_law_row_here", "_law_handed", "_law_road", "_law_waiting", "_law_count", "_law_turn", "_law_k", "_law_cell", "_law_step", "_law_thing", "_law_again", "_law_found", "_law_due", "_law_pair", "_law_when"]) (sc := defScope s_law) (by decide +kernel)) (fun _ _ _ _ _ => pg_name (i := 14) sc_law.nd rfl (Or.inl rfl)) (fun _ _ _ _ _ => pts_one (pt_cmpR op_ne (pe_ix ix_tup (pv 14) pe_int (fun _ _ => rfl)) (pv 6) (nomark _))) (fun _ _ _ _ _ => pv 14))))))
  (pss_one (ps_ret (pe_and (pe_cmpR op_eq (pe_meth0 (pv 3) T.cl_Road T.me_Road_many (ok_Road_many T) (hr.mono (by decide)) T.b_Road_many .nil pass0) (pe_callB call_len_seq (by rfl) T.n_len (by decide +kernel) (pa_cons (pv 4) pa_nil)) (nomark _)) (pe_one (pe_not (pe_callB call_isA (by rfl) T.n_isinstance (by decide +kernel) (pa_cons (pe_meth0 (pv 3) T.cl_Road T.me_Road_many (ok_Road_many T) (hr.mono (by decide)) T.b_Road_many .nil pass0) (pa_cons (pe_bltn (v := .ty "bool") rfl T.n_bool (by decide +kernel) rfl (by decide)) pa_nil))))))))))))))))),
  (sims_seq (sims_asg (sim_call0 (sim_cons (sim_var 0) sim_nil)) (simg_name 1))
  (sims_seq (sims_asg (sim_cb simc_listOf (sim_cons (sim_var 1) sim_nil)) (simg_name 2))
  (sims_seq (sims_asg (sim_makeE (sim_cons (sim_var 2) sim_nil)) (simg_name 3))
  (sims_seq (sims_drop (sim_bm simb_append (sim_var 2) (sim_cons (sim_int _) sim_nil)))
  (sims_seq (sims_asg (sim_lst sim_nil) (simg_name 4))
  (sims_seq (sims_asg (sim_int _) (simg_name 5))
  (sims_seq (sims_asg (sim_op simr_mod (sim_call0 (sim_cons (sim_var 0) (sim_cons (sim_int _) sim_nil))) (sim_op simr_pow (sim_int _) (sim_int _))) (simg_name 6))
  (sims_seq (sims_for (simi_range1 (sim_cons (sim_cb simc_max2 (sim_cons (sim_int _) (sim_cons (sim_op simr_sub (sim_cb simc_lenQ (sim_cons (sim_var 0) sim_nil)) (sim_int _)) sim_nil))) sim_nil)) (simg_name 7) (sims_seq (sims_asg (sim_call0 (sim_cons (sim_op simr_ixL (sim_var 0) (sim_op simr_add (sim_int _) (sim_var 7))) (sim_cons (sim_var 7) sim_nil))) (simg_name 8))
  (sims_seq (sims_for (simi_range1 (sim_cons (sim_if (sim_tTest (sim_op simr_lt (sim_var 5) (sim_int _))) (sim_op simr_ixL (sim_lst (sim_cons (sim_int _) (sim_cons (sim_int _) (sim_cons (sim_int _) (sim_cons (sim_int _) (sim_cons (sim_int _) sim_nil)))))) (sim_op simr_mod (sim_var 8) (sim_int _))) (sim_int _)) sim_nil)) (simg_name 9) (sims_seq (sims_asg (sim_op simr_ixL (sim_lst (sim_cons (sim_tup (sim_cons (sim_str _) (sim_cons (sim_var 5) sim_nil))) (sim_cons (sim_str _) (sim_cons sim_non (sim_cons (sim_tup (sim_cons (sim_op simr_fdiv (sim_var 5) (sim_int _)) (sim_cons (sim_str _) sim_nil))) sim_nil))))) (sim_op simr_mod (sim_op simr_fdiv (sim_var 8) (sim_op simr_add (sim_int _) (sim_var 9))) (sim_int _))) (simg_name 10))
  (sims_seq (sims_if (sim_tTest (sim_op simr_notN (sim_meth0 (sim_var 3) (sim_cons (sim_var 10) (sim_cons (sim_var 6) sim_nil))) sim_non)) (sims_ret (sim_bl _)) sims_next)
  (sims_seq (sims_asg (sim_call0 (sim_cons (sim_var 4) (sim_cons (sim_var 1) (sim_cons (sim_var 5) (sim_cons (sim_var 10) (sim_cons (sim_var 6) sim_nil)))))) (simg_name 4))
  (sims_asg (sim_op simr_add (sim_var 5) (sim_int _)) (simg_name 5))))))
  (sims_seq (sims_if (sim_tOr (sim_tNot (sim_tB (sim_call0 (sim_cons (sim_op simr_fdiv (sim_var 8) (sim_int _)) sim_nil)))) (sim_tTest (sim_op simr_ne (sim_meth0 (sim_var 3) sim_nil) (sim_cb simc_lenQ (sim_cons (sim_var 4) sim_nil))))) (sims_ret (sim_bl _)) sims_next)
  (sims_seq (sims_asg (sim_op simr_add (sim_op simr_add (sim_var 6) (sim_int _)) (sim_op simr_fdiv (sim_op simr_mod (sim_op simr_fdiv (sim_var 8) (sim_int _)) (sim_int _)) (sim_int _))) (simg_name 6))
  (sims_for (simi_range1 (sim_cons (sim_op simr_add (sim_int _) (sim_op simr_mod (sim_op simr_fdiv (sim_var 8) (sim_int _)) (sim_int _))) sim_nil)) (simg_name 11) (sims_seq (sims_asg (sim_meth0 (sim_var 3) (sim_cons (sim_var 6) sim_nil)) (simg_name 12))
  (sims_seq (sims_asg (sim_lc (simi_list (sim_var 4)) (simg_tup [15, 10]) (gw_tup [15, 10] (by simp)) (sim_tTest (sim_op simr_eq (sim_var 15) (sim_var 6))) (sim_var 10)) (simg_name 13))
  (sims_seq (sims_asg (sim_lc (simi_list (sim_var 4)) (simg_name 14) (gw_name (by simp)) (sim_tTest (sim_op simr_ne (sim_op simr_ixT (sim_var 14) (sim_int _)) (sim_var 6))) (sim_var 14)) (simg_name 4))
  (sims_seq (sims_if (sim_tOr (sim_tNot (sim_tB (sim_cb (simc_isA T.tabOk) (sim_cons (sim_var 12) (sim_cons (sim_ty _) sim_nil))))) (sim_tOr (sim_tTest (sim_op simr_neD (sim_var 12) (sim_var 13))) (sim_tTest (sim_op simr_ne (sim_meth0 (sim_var 3) sim_nil) (sim_cb simc_lenQ (sim_cons (sim_var 4) sim_nil)))))) (sims_ret (sim_bl _)) sims_next)
  (sims_drop (sim_bm simb_append (sim_var 12) (sim_cons (sim_str _) sim_nil)))))))))))))
  (sims_seq (sims_for (simi_range1 (sim_cons (sim_int _) sim_nil)) (simg_name 9) (sims_seq (sims_asg (sim_op simr_add (sim_var 6) (sim_int _)) (simg_name 6))
  (sims_seq (sims_if (sim_tTest (sim_op simr_neD (sim_meth0 (sim_var 3) (sim_cons (sim_var 6) sim_nil)) (sim_lc (simi_list (sim_var 4)) (simg_tup [15, 10]) (gw_tup [15, 10] (by simp)) (sim_tTest (sim_op simr_eq (sim_var 15) (sim_var 6))) (sim_var 10)))) (sims_ret (sim_bl _)) sims_next)
  (sims_asg (sim_lc (simi_list (sim_var 4)) (simg_name 14) (gw_name (by simp)) (sim_tTest (sim_op simr_ne (sim_op simr_ixT (sim_var 14) (sim_int _)) (sim_var 6))) (sim_var 14)) (simg_name 4)))))
  (sims_ret (sim_and (sim_op simr_eq (sim_meth0 (sim_var 3) sim_nil) (sim_cb simc_lenQ (sim_cons (sim_var 4) sim_nil))) (sim_not (sim_cb (simc_isA T.tabOk) (sim_cons (sim_meth0 (sim_var 3) sim_nil) (sim_cons (sim_ty _) sim_nil)))))))))))))))⟩)
end
theorem all_mk {l : PySem.W.OpenLaw} {w : World} {K : PySem.W.Frag} {h : Heap} {mg : Str → Option Value} {fa : Addr} (X : K.In h) (G : h.Ns mainGlobals mg) (hfa : mg "law" = some (.ref fa))
    {C_HouseError : Addr}
    {C_BadName : Addr}
    {C_BadRecord : Addr}
    {C_BadLetter : Addr}
    {C_BadZone : Addr}
    {C_BadRow : Addr}
    {C_BadChange : Addr}
    {C_BadTurn : Addr}
    {C_BadLine : Addr}
    {C_Road : Addr}
    {od_is_whole an_is_whole : Option Addr} {sl_is_whole : Array (Option Value)} {oc_is_whole kV_is_whole dc_is_whole pm_is_whole cd_is_whole ct_is_whole : Value} {f_is_whole : Addr}
    {od_within an_within : Option Addr} {sl_within : Array (Option Value)} {oc_within kV_within dc_within pm_within cd_within ct_within : Value} {f_within : Addr}
    {od__is_road an__is_road : Option Addr} {sl__is_road : Array (Option Value)} {oc__is_road kV__is_road dc__is_road pm__is_road cd__is_road ct__is_road : Value} {f__is_road : Addr}
    {od_Road___init__ an_Road___init__ : Option Addr} {sl_Road___init__ : Array (Option Value)} {oc_Road___init__ kV_Road___init__ dc_Road___init__ pm_Road___init__ cd_Road___init__ ct_Road___init__ : Value} {f_Road___init__ : Addr}
    {od_Road__next_number an_Road__next_number : Option Addr} {sl_Road__next_number : Array (Option Value)} {oc_Road__next_number kV_Road__next_number dc_Road__next_number pm_Road__next_number cd_Road__next_number ct_Road__next_number : Value} {f_Road__next_number : Addr}
    {od__delays an__delays : Option Addr} {sl__delays : Array (Option Value)} {oc__delays kV__delays dc__delays pm__delays cd__delays ct__delays : Value} {f__delays : Addr}
    {od_Road_send an_Road_send : Option Addr} {sl_Road_send : Array (Option Value)} {oc_Road_send kV_Road_send dc_Road_send pm_Road_send cd_Road_send ct_Road_send : Value} {f_Road_send : Addr}
    {od_Road_due an_Road_due : Option Addr} {sl_Road_due : Array (Option Value)} {oc_Road_due kV_Road_due dc_Road_due pm_Road_due cd_Road_due ct_Road_due : Value} {f_Road_due : Addr}
    {od_Road_many an_Road_many : Option Addr} {sl_Road_many : Array (Option Value)} {oc_Road_many kV_Road_many dc_Road_many pm_Road_many cd_Road_many ct_Road_many : Value} {f_Road_many : Addr}
    {od__law_draw an__law_draw : Option Addr} {sl__law_draw : Array (Option Value)} {oc__law_draw kV__law_draw dc__law_draw pm__law_draw cd__law_draw ct__law_draw : Value} {f__law_draw : Addr}
    {od__law_spread an__law_spread : Option Addr} {sl__law_spread : Array (Option Value)} {oc__law_spread kV__law_spread dc__law_spread pm__law_spread cd__law_spread ct__law_spread : Value} {f__law_spread : Addr}
    {od__law_alone an__law_alone : Option Addr} {sl__law_alone : Array (Option Value)} {oc__law_alone kV__law_alone dc__law_alone pm__law_alone cd__law_alone ct__law_alone : Value} {f__law_alone : Addr}
    {od__law_row an__law_row : Option Addr} {sl__law_row : Array (Option Value)} {oc__law_row kV__law_row dc__law_row pm__law_row cd__law_row ct__law_row : Value} {f__law_row : Addr}
    {od__law_sent an__law_sent : Option Addr} {sl__law_sent : Array (Option Value)} {oc__law_sent kV__law_sent dc__law_sent pm__law_sent cd__law_sent ct__law_sent : Value} {f__law_sent : Addr}
    {od__law_refused an__law_refused : Option Addr} {sl__law_refused : Array (Option Value)} {oc__law_refused kV__law_refused dc__law_refused pm__law_refused cd__law_refused ct__law_refused : Value} {f__law_refused : Addr}
    {od_law an_law : Option Addr} {sl_law : Array (Option Value)} {oc_law kV_law dc_law pm_law cd_law ct_law : Value} {f_law : Addr}
    {t_LONGEST_ROAD : Tok}
    {t_MOST : Tok}
    {t_NEVER : Tok}
    (g_HouseError : PySem.W.nsIn K mainGlobals "HouseError" = some (some (.ref C_HouseError)))
    (g_BadName : PySem.W.nsIn K mainGlobals "BadName" = some (some (.ref C_BadName)))
    (g_BadRecord : PySem.W.nsIn K mainGlobals "BadRecord" = some (some (.ref C_BadRecord)))
    (g_BadLetter : PySem.W.nsIn K mainGlobals "BadLetter" = some (some (.ref C_BadLetter)))
    (g_BadZone : PySem.W.nsIn K mainGlobals "BadZone" = some (some (.ref C_BadZone)))
    (g_BadRow : PySem.W.nsIn K mainGlobals "BadRow" = some (some (.ref C_BadRow)))
    (g_BadChange : PySem.W.nsIn K mainGlobals "BadChange" = some (some (.ref C_BadChange)))
    (g_BadTurn : PySem.W.nsIn K mainGlobals "BadTurn" = some (some (.ref C_BadTurn)))
    (g_BadLine : PySem.W.nsIn K mainGlobals "BadLine" = some (some (.ref C_BadLine)))
    (g_Road : PySem.W.nsIn K mainGlobals "Road" = some (some (.ref C_Road)))
    (a_is_whole : PySem.W.nsIn K mainGlobals "is_whole" = some (some (.ref f_is_whole)))
    (l_is_whole : K.lookup f_is_whole = some ⟨oc_is_whole, od_is_whole, .func (PySem.W.fnOf "is_whole" "is_whole" (defArgs s_is_whole) (defBody s_is_whole) (defScope s_is_whole) .none kV_is_whole dc_is_whole pm_is_whole an_is_whole cd_is_whole ct_is_whole), sl_is_whole⟩)
    (c_is_whole : PySem.W.codeIn K cd_is_whole "is_whole" = true)
    (k_is_whole : PySem.W.keepIn K (.ref f_is_whole) = true)
    (a_within : PySem.W.nsIn K mainGlobals "within" = some (some (.ref f_within)))
    (l_within : K.lookup f_within = some ⟨oc_within, od_within, .func (PySem.W.fnOf "within" "within" (defArgs s_within) (defBody s_within) (defScope s_within) .none kV_within dc_within pm_within an_within cd_within ct_within), sl_within⟩)
    (c_within : PySem.W.codeIn K cd_within "within" = true)
    (k_within : PySem.W.keepIn K (.ref f_within) = true)
    (a__is_road : PySem.W.nsIn K mainGlobals "_is_road" = some (some (.ref f__is_road)))
    (l__is_road : K.lookup f__is_road = some ⟨oc__is_road, od__is_road, .func (PySem.W.fnOf "_is_road" "_is_road" (defArgs s__is_road) (defBody s__is_road) (defScope s__is_road) .none kV__is_road dc__is_road pm__is_road an__is_road cd__is_road ct__is_road), sl__is_road⟩)
    (c__is_road : PySem.W.codeIn K cd__is_road "_is_road" = true)
    (k__is_road : PySem.W.keepIn K (.ref f__is_road) = true)
    (a_Road___init__ : PySem.W.findIn K (.ref C_Road) "__init__" = some (some (.ref f_Road___init__)))
    (i_Road___init__ : PySem.W.isFn K (.ref f_Road___init__) = true)
    (l_Road___init__ : K.lookup f_Road___init__ = some ⟨oc_Road___init__, od_Road___init__, .func (PySem.W.fnOf "__init__" "Road.__init__" (defArgs s_Road___init__) (defBody s_Road___init__) (defScope s_Road___init__) .none kV_Road___init__ dc_Road___init__ pm_Road___init__ an_Road___init__ cd_Road___init__ ct_Road___init__), sl_Road___init__⟩)
    (c_Road___init__ : PySem.W.codeIn K cd_Road___init__ "Road.__init__" = true)
    (k_Road___init__ : PySem.W.keepIn K (.ref f_Road___init__) = true)
    (a_Road__next_number : PySem.W.findIn K (.ref C_Road) "_next_number" = some (some (.ref f_Road__next_number)))
    (i_Road__next_number : PySem.W.isFn K (.ref f_Road__next_number) = true)
    (l_Road__next_number : K.lookup f_Road__next_number = some ⟨oc_Road__next_number, od_Road__next_number, .func (PySem.W.fnOf "_next_number" "Road._next_number" (defArgs s_Road__next_number) (defBody s_Road__next_number) (defScope s_Road__next_number) .none kV_Road__next_number dc_Road__next_number pm_Road__next_number an_Road__next_number cd_Road__next_number ct_Road__next_number), sl_Road__next_number⟩)
    (c_Road__next_number : PySem.W.codeIn K cd_Road__next_number "Road._next_number" = true)
    (k_Road__next_number : PySem.W.keepIn K (.ref f_Road__next_number) = true)
    (a__delays : PySem.W.nsIn K mainGlobals "_delays" = some (some (.ref f__delays)))
    (l__delays : K.lookup f__delays = some ⟨oc__delays, od__delays, .func (PySem.W.fnOf "_delays" "_delays" (defArgs s__delays) (defBody s__delays) (defScope s__delays) .none kV__delays dc__delays pm__delays an__delays cd__delays ct__delays), sl__delays⟩)
    (c__delays : PySem.W.codeIn K cd__delays "_delays" = true)
    (k__delays : PySem.W.keepIn K (.ref f__delays) = true)
    (a_Road_send : PySem.W.findIn K (.ref C_Road) "send" = some (some (.ref f_Road_send)))
    (i_Road_send : PySem.W.isFn K (.ref f_Road_send) = true)
    (l_Road_send : K.lookup f_Road_send = some ⟨oc_Road_send, od_Road_send, .func (PySem.W.fnOf "send" "Road.send" (defArgs s_Road_send) (defBody s_Road_send) (defScope s_Road_send) .none kV_Road_send dc_Road_send pm_Road_send an_Road_send cd_Road_send ct_Road_send), sl_Road_send⟩)
    (c_Road_send : PySem.W.codeIn K cd_Road_send "Road.send" = true)
    (k_Road_send : PySem.W.keepIn K (.ref f_Road_send) = true)
    (a_Road_due : PySem.W.findIn K (.ref C_Road) "due" = some (some (.ref f_Road_due)))
    (i_Road_due : PySem.W.isFn K (.ref f_Road_due) = true)
    (l_Road_due : K.lookup f_Road_due = some ⟨oc_Road_due, od_Road_due, .func (PySem.W.fnOf "due" "Road.due" (defArgs s_Road_due) (defBody s_Road_due) (defScope s_Road_due) .none kV_Road_due dc_Road_due pm_Road_due an_Road_due cd_Road_due ct_Road_due), sl_Road_due⟩)
    (c_Road_due : PySem.W.codeIn K cd_Road_due "Road.due" = true)
    (k_Road_due : PySem.W.keepIn K (.ref f_Road_due) = true)
    (a_Road_many : PySem.W.findIn K (.ref C_Road) "many" = some (some (.ref f_Road_many)))
    (i_Road_many : PySem.W.isFn K (.ref f_Road_many) = true)
    (l_Road_many : K.lookup f_Road_many = some ⟨oc_Road_many, od_Road_many, .func (PySem.W.fnOf "many" "Road.many" (defArgs s_Road_many) (defBody s_Road_many) (defScope s_Road_many) .none kV_Road_many dc_Road_many pm_Road_many an_Road_many cd_Road_many ct_Road_many), sl_Road_many⟩)
    (c_Road_many : PySem.W.codeIn K cd_Road_many "Road.many" = true)
    (k_Road_many : PySem.W.keepIn K (.ref f_Road_many) = true)
    (a__law_draw : PySem.W.nsIn K mainGlobals "_law_draw" = some (some (.ref f__law_draw)))
    (l__law_draw : K.lookup f__law_draw = some ⟨oc__law_draw, od__law_draw, .func (PySem.W.fnOf "_law_draw" "_law_draw" (defArgs s__law_draw) (defBody s__law_draw) (defScope s__law_draw) .none kV__law_draw dc__law_draw pm__law_draw an__law_draw cd__law_draw ct__law_draw), sl__law_draw⟩)
    (c__law_draw : PySem.W.codeIn K cd__law_draw "_law_draw" = true)
    (k__law_draw : PySem.W.keepIn K (.ref f__law_draw) = true)
    (a__law_spread : PySem.W.nsIn K mainGlobals "_law_spread" = some (some (.ref f__law_spread)))
    (l__law_spread : K.lookup f__law_spread = some ⟨oc__law_spread, od__law_spread, .func (PySem.W.fnOf "_law_spread" "_law_spread" (defArgs s__law_spread) (defBody s__law_spread) (defScope s__law_spread) .none kV__law_spread dc__law_spread pm__law_spread an__law_spread cd__law_spread ct__law_spread), sl__law_spread⟩)
    (c__law_spread : PySem.W.codeIn K cd__law_spread "_law_spread" = true)
    (k__law_spread : PySem.W.keepIn K (.ref f__law_spread) = true)
    (a__law_alone : PySem.W.nsIn K mainGlobals "_law_alone" = some (some (.ref f__law_alone)))
    (l__law_alone : K.lookup f__law_alone = some ⟨oc__law_alone, od__law_alone, .func (PySem.W.fnOf "_law_alone" "_law_alone" (defArgs s__law_alone) (defBody s__law_alone) (defScope s__law_alone) .none kV__law_alone dc__law_alone pm__law_alone an__law_alone cd__law_alone ct__law_alone), sl__law_alone⟩)
    (c__law_alone : PySem.W.codeIn K cd__law_alone "_law_alone" = true)
    (k__law_alone : PySem.W.keepIn K (.ref f__law_alone) = true)
    (a__law_row : PySem.W.nsIn K mainGlobals "_law_row" = some (some (.ref f__law_row)))
    (l__law_row : K.lookup f__law_row = some ⟨oc__law_row, od__law_row, .func (PySem.W.fnOf "_law_row" "_law_row" (defArgs s__law_row) (defBody s__law_row) (defScope s__law_row) .none kV__law_row dc__law_row pm__law_row an__law_row cd__law_row ct__law_row), sl__law_row⟩)
    (c__law_row : PySem.W.codeIn K cd__law_row "_law_row" = true)
    (k__law_row : PySem.W.keepIn K (.ref f__law_row) = true)
    (a__law_sent : PySem.W.nsIn K mainGlobals "_law_sent" = some (some (.ref f__law_sent)))
    (l__law_sent : K.lookup f__law_sent = some ⟨oc__law_sent, od__law_sent, .func (PySem.W.fnOf "_law_sent" "_law_sent" (defArgs s__law_sent) (defBody s__law_sent) (defScope s__law_sent) .none kV__law_sent dc__law_sent pm__law_sent an__law_sent cd__law_sent ct__law_sent), sl__law_sent⟩)
    (c__law_sent : PySem.W.codeIn K cd__law_sent "_law_sent" = true)
    (k__law_sent : PySem.W.keepIn K (.ref f__law_sent) = true)
    (a__law_refused : PySem.W.nsIn K mainGlobals "_law_refused" = some (some (.ref f__law_refused)))
    (l__law_refused : K.lookup f__law_refused = some ⟨oc__law_refused, od__law_refused, .func (PySem.W.fnOf "_law_refused" "_law_refused" (defArgs s__law_refused) (defBody s__law_refused) (defScope s__law_refused) .none kV__law_refused dc__law_refused pm__law_refused an__law_refused cd__law_refused ct__law_refused), sl__law_refused⟩)
    (c__law_refused : PySem.W.codeIn K cd__law_refused "_law_refused" = true)
    (k__law_refused : PySem.W.keepIn K (.ref f__law_refused) = true)
    (a_law : PySem.W.nsIn K mainGlobals "law" = some (some (.ref f_law)))
    (l_law : K.lookup f_law = some ⟨oc_law, od_law, .func (PySem.W.fnOf "law" "law" (defArgs s_law) (defBody s_law) (defScope s_law) .none kV_law dc_law pm_law an_law cd_law ct_law), sl_law⟩)
    (c_law : PySem.W.codeIn K cd_law "law" = true)
    (k_law : PySem.W.keepIn K (.ref f_law) = true)
    (z_ValueError : PySem.W.nsIn K mainGlobals "ValueError" = some none)
    (z_all : PySem.W.nsIn K mainGlobals "all" = some none)
    (z_bool : PySem.W.nsIn K mainGlobals "bool" = some none)
    (z_int : PySem.W.nsIn K mainGlobals "int" = some none)
    (z_isinstance : PySem.W.nsIn K mainGlobals "isinstance" = some none)
    (z_len : PySem.W.nsIn K mainGlobals "len" = some none)
    (z_list : PySem.W.nsIn K mainGlobals "list" = some none)
    (z_max : PySem.W.nsIn K mainGlobals "max" = some none)
    (z_range : PySem.W.nsIn K mainGlobals "range" = some none)
    (v_LONGEST_ROAD : PySem.W.nsIn K mainGlobals "LONGEST_ROAD" = some (some (.int 200 t_LONGEST_ROAD)))
    (v_MOST : PySem.W.nsIn K mainGlobals "MOST" = some (some (.int 19 t_MOST)))
    (v_NEVER : PySem.W.nsIn K mainGlobals "NEVER" = some (some (.int 10 t_NEVER)))
    (pg_Road : PySem.W.plainGet K C_Road Str.empty = true)
    (hd_Road : PySem.W.hasDictIn K C_Road = true)
    (po_Road : PySem.W.plainOver K C_Road = true)
    (sa_Road : PySem.W.findIn K (.ref C_Road) "__setattr__" = some (some (.builtin "object.__setattr__")))
    (mk_Road : PySem.W.makesIn K C_Road = true)
    (kq_Road : PySem.W.keepIn K (.ref C_Road) = true)
    (nf_Road__row : PySem.W.findIn K (.ref C_Road) "_row" = some none)
    (nf_Road__taken : PySem.W.findIn K (.ref C_Road) "_taken" = some none)
    (nf_Road__under_way : PySem.W.findIn K (.ref C_Road) "_under_way" = some none)
    (x_BadTurn : PySem.W.excIn K C_BadTurn [.type "ValueError", .type "Exception", .type "BaseException", .type "object"] "ValueError.__new__" = true)
    (kc_BadTurn : PySem.W.keepIn K (.ref C_BadTurn) = true)
    (s_BadTurn_ : PySem.W.subIn K (.ref C_BadTurn) (.type "BaseException") = some true)
    (ty_BadTurn : PySem.W.typeIn K (.ref C_BadTurn) = some (.type "type"))
    (s_BadChange_ : PySem.W.subIn K (.ref C_BadChange) (.type "BaseException") = some true)
    (ty_BadChange : PySem.W.typeIn K (.ref C_BadChange) = some (.type "type"))
    (ci_BadChange : PySem.W.isClsIn K C_BadChange = true)
    (ss_BadChange : PySem.W.subIn K (.ref C_BadChange) (.ref C_BadChange) = some true)
    (s_BadLetter_ : PySem.W.subIn K (.ref C_BadLetter) (.type "BaseException") = some true)
    (ty_BadLetter : PySem.W.typeIn K (.ref C_BadLetter) = some (.type "type"))
    (ci_BadLetter : PySem.W.isClsIn K C_BadLetter = true)
    (ss_BadLetter : PySem.W.subIn K (.ref C_BadLetter) (.ref C_BadLetter) = some true)
    (s_BadLine_ : PySem.W.subIn K (.ref C_BadLine) (.type "BaseException") = some true)
    (ty_BadLine : PySem.W.typeIn K (.ref C_BadLine) = some (.type "type"))
    (ci_BadLine : PySem.W.isClsIn K C_BadLine = true)
    (ss_BadLine : PySem.W.subIn K (.ref C_BadLine) (.ref C_BadLine) = some true)
    (s_BadName_ : PySem.W.subIn K (.ref C_BadName) (.type "BaseException") = some true)
    (ty_BadName : PySem.W.typeIn K (.ref C_BadName) = some (.type "type"))
    (ci_BadName : PySem.W.isClsIn K C_BadName = true)
    (ss_BadName : PySem.W.subIn K (.ref C_BadName) (.ref C_BadName) = some true)
    (s_BadRecord_ : PySem.W.subIn K (.ref C_BadRecord) (.type "BaseException") = some true)
    (ty_BadRecord : PySem.W.typeIn K (.ref C_BadRecord) = some (.type "type"))
    (ci_BadRecord : PySem.W.isClsIn K C_BadRecord = true)
    (ss_BadRecord : PySem.W.subIn K (.ref C_BadRecord) (.ref C_BadRecord) = some true)
    (s_BadRow_ : PySem.W.subIn K (.ref C_BadRow) (.type "BaseException") = some true)
    (ty_BadRow : PySem.W.typeIn K (.ref C_BadRow) = some (.type "type"))
    (ci_BadRow : PySem.W.isClsIn K C_BadRow = true)
    (ss_BadRow : PySem.W.subIn K (.ref C_BadRow) (.ref C_BadRow) = some true)
    (ci_BadTurn : PySem.W.isClsIn K C_BadTurn = true)
    (ss_BadTurn : PySem.W.subIn K (.ref C_BadTurn) (.ref C_BadTurn) = some true)
    (s_BadZone_ : PySem.W.subIn K (.ref C_BadZone) (.type "BaseException") = some true)
    (ty_BadZone : PySem.W.typeIn K (.ref C_BadZone) = some (.type "type"))
    (ci_BadZone : PySem.W.isClsIn K C_BadZone = true)
    (ss_BadZone : PySem.W.subIn K (.ref C_BadZone) (.ref C_BadZone) = some true)
    (s_HouseError_ : PySem.W.subIn K (.ref C_HouseError) (.type "BaseException") = some true)
    (ty_HouseError : PySem.W.typeIn K (.ref C_HouseError) = some (.type "type"))
    (ci_HouseError : PySem.W.isClsIn K C_HouseError = true)
    (ss_HouseError : PySem.W.subIn K (.ref C_HouseError) (.ref C_HouseError) = some true)
    (sp_BadTurn_BadChange : PySem.W.subIn K (.ref C_BadTurn) (.ref C_BadChange) = some false)
    (sp_BadTurn_BadLetter : PySem.W.subIn K (.ref C_BadTurn) (.ref C_BadLetter) = some false)
    (sp_BadTurn_BadLine : PySem.W.subIn K (.ref C_BadTurn) (.ref C_BadLine) = some false)
    (sp_BadTurn_BadName : PySem.W.subIn K (.ref C_BadTurn) (.ref C_BadName) = some false)
    (sp_BadTurn_BadRecord : PySem.W.subIn K (.ref C_BadTurn) (.ref C_BadRecord) = some false)
    (sp_BadTurn_BadRow : PySem.W.subIn K (.ref C_BadTurn) (.ref C_BadRow) = some false)
    (sp_BadTurn_BadZone : PySem.W.subIn K (.ref C_BadTurn) (.ref C_BadZone) = some false)
    (sp_BadTurn_HouseError : PySem.W.subIn K (.ref C_BadTurn) (.ref C_HouseError) = some true)
    (sv_BadTurn : PySem.W.subIn K (.ref C_BadTurn) (.type "ValueError") = some true)
    (e1_BadTurn : PySem.W.findIn K (.ref C_BadTurn) "__getattribute__" = some (some (.builtin "BaseException.__getattribute__")))
    (e2_BadTurn : PySem.W.findIn K (.ref C_BadTurn) "__getattr__" = some none)
    (e3_BadTurn : PySem.W.hasDictIn K C_BadTurn = true)
    (e4_BadTurn : PySem.W.findIn K (.ref C_BadTurn) "__class__" = some (some (.builtin "object.__class__")))
    (e6_BadTurn : PySem.W.mroIn K C_BadTurn (.type "object") = some true)
    (e5a : PySem.W.specialIn K (.builtin "object.__class__") "__get__" = some (some (.builtin "getset_descriptor.__get__")))
    (e5b : PySem.W.takesIn K (.builtin "object.__class__") = some true) :
    ∃ fd : FuncData, (∀ (s : Shared) (v : Value), BindsTo s fd ⟨[v], []⟩ [("_law_script", v)]) ∧ ∀ base : Heap, K.In base → base.Ns mainGlobals mg → FnOk l.prog w K mg base (L2.CX l.prog w) 7 fa fd ["_law_script"] (spLaw K) := by
  have e := hfa.symm.trans (PySem.W.mg_of X G a_law)
  cases e
  have F_is_whole := fun_mk (st := s_is_whole) l_is_whole c_is_whole k_is_whole
  have b_is_whole := F_is_whole.binds (ps := ["thing"]) fun _ _ _ _ _ _ us hl => match us, hl with | [_], _ => rfl
  have F_within := fun_mk (st := s_within) l_within c_within k_within
  have b_within := F_within.binds (ps := ["thing", "low", "high"]) fun _ _ _ _ _ _ us hl => match us, hl with | [_, _, _], _ => rfl
  have F__is_road := fun_mk (st := s__is_road) l__is_road c__is_road k__is_road
  have b__is_road := F__is_road.binds (ps := ["thing"]) fun _ _ _ _ _ _ us hl => match us, hl with | [_], _ => rfl
  have F_Road___init__ := fun_mk (st := s_Road___init__) l_Road___init__ c_Road___init__ k_Road___init__
  have b_Road___init__ := F_Road___init__.binds (ps := ["self", "row"]) fun _ _ _ _ _ _ us hl => match us, hl with | [_, _], _ => rfl
  have F_Road__next_number := fun_mk (st := s_Road__next_number) l_Road__next_number c_Road__next_number k_Road__next_number
  have b_Road__next_number := F_Road__next_number.binds (ps := ["self"]) fun _ _ _ _ _ _ us hl => match us, hl with | [_], _ => rfl
  have F__delays := fun_mk (st := s__delays) l__delays c__delays k__delays
  have b__delays := F__delays.binds (ps := ["number"]) fun _ _ _ _ _ _ us hl => match us, hl with | [_], _ => rfl
  have F_Road_send := fun_mk (st := s_Road_send) l_Road_send c_Road_send k_Road_send
  have b_Road_send := F_Road_send.binds (ps := ["self", "letter", "turn"]) fun _ _ _ _ _ _ us hl => match us, hl with | [_, _, _], _ => rfl
  have F_Road_due := fun_mk (st := s_Road_due) l_Road_due c_Road_due k_Road_due
  have b_Road_due := F_Road_due.binds (ps := ["self", "turn"]) fun _ _ _ _ _ _ us hl => match us, hl with | [_, _], _ => rfl
  have F_Road_many := fun_mk (st := s_Road_many) l_Road_many c_Road_many k_Road_many
  have b_Road_many := F_Road_many.binds (ps := ["self"]) fun _ _ _ _ _ _ us hl => match us, hl with | [_], _ => rfl
  have F__law_draw := fun_mk (st := s__law_draw) l__law_draw c__law_draw k__law_draw
  have b__law_draw := F__law_draw.binds (ps := ["_law_script", "_law_k"]) fun _ _ _ _ _ _ us hl => match us, hl with | [_, _], _ => rfl
  have F__law_spread := fun_mk (st := s__law_spread) l__law_spread c__law_spread k__law_spread
  have b__law_spread := F__law_spread.binds (ps := ["_law_cell", "_law_k"]) fun _ _ _ _ _ _ us hl => match us, hl with | [_, _], _ => rfl
  have F__law_alone := fun_mk (st := s__law_alone) l__law_alone c__law_alone k__law_alone
  have b__law_alone := F__law_alone.binds (ps := ["_law_caught", "_law_words"]) fun _ _ _ _ _ _ us hl => match us, hl with | [_, _], _ => rfl
  have F__law_row := fun_mk (st := s__law_row) l__law_row c__law_row k__law_row
  have b__law_row := F__law_row.binds (ps := ["_law_script"]) fun _ _ _ _ _ _ us hl => match us, hl with | [_], _ => rfl
  have F__law_sent := fun_mk (st := s__law_sent) l__law_sent c__law_sent k__law_sent
  have b__law_sent := F__law_sent.binds (ps := ["_law_waiting", "_law_row_here", "_law_count", "_law_thing", "_law_turn"]) fun _ _ _ _ _ _ us hl => match us, hl with | [_, _, _, _, _], _ => rfl
  have F__law_refused := fun_mk (st := s__law_refused) l__law_refused c__law_refused k__law_refused
  have b__law_refused := F__law_refused.binds (ps := ["_law_cell"]) fun _ _ _ _ _ _ us hl => match us, hl with | [_], _ => rfl
  have F_law := fun_mk (st := s_law) l_law c_law k_law
  have b_law := F_law.binds (ps := ["_law_script"]) fun _ _ _ _ _ _ us hl => match us, hl with | [_], _ => rfl
  let T : Txt w K mg := {
    n_ValueError := PySem.W.mg_none_of X G z_ValueError,
    n_all := PySem.W.mg_none_of X G z_all,
    n_bool := PySem.W.mg_none_of X G z_bool,
    n_int := PySem.W.mg_none_of X G z_int,
    n_isinstance := PySem.W.mg_none_of X G z_isinstance,
    n_len := PySem.W.mg_none_of X G z_len,
    n_list := PySem.W.mg_none_of X G z_list,
    n_max := PySem.W.mg_none_of X G z_max,
    n_range := PySem.W.mg_none_of X G z_range,
    t_LONGEST_ROAD := t_LONGEST_ROAD,
    c_LONGEST_ROAD := PySem.W.mg_of X G v_LONGEST_ROAD,
    t_MOST := t_MOST,
    c_MOST := PySem.W.mg_of X G v_MOST,
    t_NEVER := t_NEVER,
    c_NEVER := PySem.W.mg_of X G v_NEVER,
    cl_Road := ⟨pg_Road, hd_Road, po_Road, sa_Road⟩,
    no_Road__row := nf_Road__row,
    no_Road__taken := nf_Road__taken,
    no_Road__under_way := nf_Road__under_way,
    C_HouseError := C_HouseError,
    C_BadName := C_BadName,
    C_BadRecord := C_BadRecord,
    C_BadLetter := C_BadLetter,
    C_BadZone := C_BadZone,
    C_BadRow := C_BadRow,
    C_BadChange := C_BadChange,
    C_BadTurn := C_BadTurn,
    C_BadLine := C_BadLine,
    C_Road := C_Road,
    g_HouseError := PySem.W.mg_of X G g_HouseError,
    g_BadName := PySem.W.mg_of X G g_BadName,
    g_BadRecord := PySem.W.mg_of X G g_BadRecord,
    g_BadLetter := PySem.W.mg_of X G g_BadLetter,
    g_BadZone := PySem.W.mg_of X G g_BadZone,
    g_BadRow := PySem.W.mg_of X G g_BadRow,
    g_BadChange := PySem.W.mg_of X G g_BadChange,
    g_BadTurn := PySem.W.mg_of X G g_BadTurn,
    g_BadLine := PySem.W.mg_of X G g_BadLine,
    g_Road := PySem.W.mg_of X G g_Road,
    x_BadTurn := x_BadTurn,
    k_BadTurn := kc_BadTurn,
    s_BadTurn := s_BadTurn_,
    t_BadTurn := ty_BadTurn,
    f_is_whole := f_is_whole,
    fd_is_whole := _,
    F_is_whole := F_is_whole,
    b_is_whole := b_is_whole,
    g_is_whole := PySem.W.mg_of X G a_is_whole,
    f_within := f_within,
    fd_within := _,
    F_within := F_within,
    b_within := b_within,
    g_within := PySem.W.mg_of X G a_within,
    f__is_road := f__is_road,
    fd__is_road := _,
    F__is_road := F__is_road,
    b__is_road := b__is_road,
    g__is_road := PySem.W.mg_of X G a__is_road,
    f_Road___init__ := f_Road___init__,
    fd_Road___init__ := _,
    F_Road___init__ := F_Road___init__,
    b_Road___init__ := b_Road___init__,
    mk_Road := ⟨mk_Road, a_Road___init__, i_Road___init__, kq_Road⟩,
    f_Road__next_number := f_Road__next_number,
    fd_Road__next_number := _,
    F_Road__next_number := F_Road__next_number,
    b_Road__next_number := b_Road__next_number,
    me_Road__next_number := ⟨a_Road__next_number, i_Road__next_number, k_Road__next_number⟩,
    f__delays := f__delays,
    fd__delays := _,
    F__delays := F__delays,
    b__delays := b__delays,
    g__delays := PySem.W.mg_of X G a__delays,
    f_Road_send := f_Road_send,
    fd_Road_send := _,
    F_Road_send := F_Road_send,
    b_Road_send := b_Road_send,
    me_Road_send := ⟨a_Road_send, i_Road_send, k_Road_send⟩,
    f_Road_due := f_Road_due,
    fd_Road_due := _,
    F_Road_due := F_Road_due,
    b_Road_due := b_Road_due,
    me_Road_due := ⟨a_Road_due, i_Road_due, k_Road_due⟩,
    f_Road_many := f_Road_many,
    fd_Road_many := _,
    F_Road_many := F_Road_many,
    b_Road_many := b_Road_many,
    me_Road_many := ⟨a_Road_many, i_Road_many, k_Road_many⟩,
    f__law_draw := f__law_draw,
    fd__law_draw := _,
    F__law_draw := F__law_draw,
    b__law_draw := b__law_draw,
    g__law_draw := PySem.W.mg_of X G a__law_draw,
    f__law_spread := f__law_spread,
    fd__law_spread := _,
    F__law_spread := F__law_spread,
    b__law_spread := b__law_spread,
    g__law_spread := PySem.W.mg_of X G a__law_spread,
    f__law_alone := f__law_alone,
    fd__law_alone := _,
    F__law_alone := F__law_alone,
    b__law_alone := b__law_alone,
    g__law_alone := PySem.W.mg_of X G a__law_alone,
    f__law_row := f__law_row,
    fd__law_row := _,
    F__law_row := F__law_row,
    b__law_row := b__law_row,
    g__law_row := PySem.W.mg_of X G a__law_row,
    f__law_sent := f__law_sent,
    fd__law_sent := _,
    F__law_sent := F__law_sent,
    b__law_sent := b__law_sent,
    g__law_sent := PySem.W.mg_of X G a__law_sent,
    f__law_refused := f__law_refused,
    fd__law_refused := _,
    F__law_refused := F__law_refused,
    b__law_refused := b__law_refused,
    g__law_refused := PySem.W.mg_of X G a__law_refused,
    f_law := fa,
    fd_law := _,
    F_law := F_law,
    b_law := b_law,
    g_law := PySem.W.mg_of X G a_law,
    ki_BadTurn_BadChange := kit_one ci_BadChange ty_BadChange ss_BadChange sp_BadTurn_BadChange,
    ke_BadTurn_BadChange := exm_one_ s_BadChange_ ci_BadChange ty_BadChange sp_BadTurn_BadChange,
    ki_BadTurn_BadLetter := kit_one ci_BadLetter ty_BadLetter ss_BadLetter sp_BadTurn_BadLetter,
    ke_BadTurn_BadLetter := exm_one_ s_BadLetter_ ci_BadLetter ty_BadLetter sp_BadTurn_BadLetter,
    ki_BadTurn_BadLine := kit_one ci_BadLine ty_BadLine ss_BadLine sp_BadTurn_BadLine,
    ke_BadTurn_BadLine := exm_one_ s_BadLine_ ci_BadLine ty_BadLine sp_BadTurn_BadLine,
    ki_BadTurn_BadName := kit_one ci_BadName ty_BadName ss_BadName sp_BadTurn_BadName,
    ke_BadTurn_BadName := exm_one_ s_BadName_ ci_BadName ty_BadName sp_BadTurn_BadName,
    ki_BadTurn_BadRecord := kit_one ci_BadRecord ty_BadRecord ss_BadRecord sp_BadTurn_BadRecord,
    ke_BadTurn_BadRecord := exm_one_ s_BadRecord_ ci_BadRecord ty_BadRecord sp_BadTurn_BadRecord,
    ki_BadTurn_BadRow := kit_one ci_BadRow ty_BadRow ss_BadRow sp_BadTurn_BadRow,
    ke_BadTurn_BadRow := exm_one_ s_BadRow_ ci_BadRow ty_BadRow sp_BadTurn_BadRow,
    ki_BadTurn_BadTurn := kit_one ci_BadTurn ty_BadTurn ss_BadTurn ss_BadTurn,
    ke_BadTurn_BadTurn := exm_one_ s_BadTurn_ ci_BadTurn ty_BadTurn ss_BadTurn,
    ki_BadTurn_BadZone := kit_one ci_BadZone ty_BadZone ss_BadZone sp_BadTurn_BadZone,
    ke_BadTurn_BadZone := exm_one_ s_BadZone_ ci_BadZone ty_BadZone sp_BadTurn_BadZone,
    ki_BadTurn_HouseError := kit_one ci_HouseError ty_HouseError ss_HouseError sp_BadTurn_HouseError,
    ke_BadTurn_HouseError := exm_one_ s_HouseError_ ci_HouseError ty_HouseError sp_BadTurn_HouseError,
    kv_BadTurn := kit_val sv_BadTurn (by decide +kernel),
    ec_BadTurn := ⟨e1_BadTurn, e2_BadTurn, s_BadTurn_, e3_BadTurn, e4_BadTurn, e5a, e5b, e6_BadTurn⟩ }
  exact ⟨_, fun s v => .of_eq rfl, fun base _ _ => fn_mono (ok_law T) (fun vs H Q E z => sp_law T.cfg Nh.f_law law_true z) fun _ _ _ _ _ _ => trivial⟩
end Nh
open PySem PySem.W PyProof.Rows
set_option maxHeartbeats 0 in
theorem PySem.Challenge.cw_namehouse_k21_the_road_holds : PySem.Challenge.rw_namehouse_k21_the_road.Holds := by
  w_on; o_law; k_head; (case hw => w_witness2)
  k_fill
  refine L2.walk_of (l := PySem.Challenge.rw_namehouse_k21_the_road) (n := 63) (k := 7) (x := "_law_script") (CX := fun w => L2.CX PySem.Challenge.rw_namehouse_k21_the_road.prog w) (sp := fun w => Nh.spLaw _) rfl (by decide) rfl ⟨rfl, by decide, by decide⟩ (fun w h Y => PySem.W.kIn_of Y) ?F (fun _ _ a ns hl hO hS => ⟨a, ns, rfl, hl, hO, hS, fun _ => rfl⟩) (fun _ _ _ _ _ h => by obtain ⟨_, _, _, _, _, _, _, _, _, _, _, _, z⟩ := h; exact z)
  case F =>
    intro w mg fa h KX G hmg
    refine' Nh.all_mk KX G hmg ?g_HouseError ?g_BadName ?g_BadRecord ?g_BadLetter ?g_BadZone ?g_BadRow ?g_BadChange ?g_BadTurn ?g_BadLine ?g_Road ?a_is_whole ?l_is_whole ?c_is_whole ?k_is_whole ?a_within ?l_within ?c_within ?k_within ?a__is_road ?l__is_road ?c__is_road ?k__is_road ?a_Road___init__ ?i_Road___init__ ?l_Road___init__ ?c_Road___init__ ?k_Road___init__ ?a_Road__next_number ?i_Road__next_number ?l_Road__next_number ?c_Road__next_number ?k_Road__next_number ?a__delays ?l__delays ?c__delays ?k__delays ?a_Road_send ?i_Road_send ?l_Road_send ?c_Road_send ?k_Road_send ?a_Road_due ?i_Road_due ?l_Road_due ?c_Road_due ?k_Road_due ?a_Road_many ?i_Road_many ?l_Road_many ?c_Road_many ?k_Road_many ?a__law_draw ?l__law_draw ?c__law_draw ?k__law_draw ?a__law_spread ?l__law_spread ?c__law_spread ?k__law_spread ?a__law_alone ?l__law_alone ?c__law_alone ?k__law_alone ?a__law_row ?l__law_row ?c__law_row ?k__law_row ?a__law_sent ?l__law_sent ?c__law_sent ?k__law_sent ?a__law_refused ?l__law_refused ?c__law_refused ?k__law_refused ?a_law ?l_law ?c_law ?k_law ?z_ValueError ?z_all ?z_bool ?z_int ?z_isinstance ?z_len ?z_list ?z_max ?z_range ?v_LONGEST_ROAD ?v_MOST ?v_NEVER ?pg_Road ?hd_Road ?po_Road ?sa_Road ?mk_Road ?kq_Road ?nf_Road__row ?nf_Road__taken ?nf_Road__under_way ?x_BadTurn ?kc_BadTurn ?s_BadTurn_ ?ty_BadTurn ?s_BadChange_ ?ty_BadChange ?ci_BadChange ?ss_BadChange ?s_BadLetter_ ?ty_BadLetter ?ci_BadLetter ?ss_BadLetter ?s_BadLine_ ?ty_BadLine ?ci_BadLine ?ss_BadLine ?s_BadName_ ?ty_BadName ?ci_BadName ?ss_BadName ?s_BadRecord_ ?ty_BadRecord ?ci_BadRecord ?ss_BadRecord ?s_BadRow_ ?ty_BadRow ?ci_BadRow ?ss_BadRow ?ci_BadTurn ?ss_BadTurn ?s_BadZone_ ?ty_BadZone ?ci_BadZone ?ss_BadZone ?s_HouseError_ ?ty_HouseError ?ci_HouseError ?ss_HouseError ?sp_BadTurn_BadChange ?sp_BadTurn_BadLetter ?sp_BadTurn_BadLine ?sp_BadTurn_BadName ?sp_BadTurn_BadRecord ?sp_BadTurn_BadRow ?sp_BadTurn_BadZone ?sp_BadTurn_HouseError ?sv_BadTurn ?e1_BadTurn ?e2_BadTurn ?e3_BadTurn ?e4_BadTurn ?e6_BadTurn ?e5a ?e5b
    (case g_HouseError => k_is)
    (case g_BadName => k_is)
    (case g_BadRecord => k_is)
    (case g_BadLetter => k_is)
    (case g_BadZone => k_is)
    (case g_BadRow => k_is)
    (case g_BadChange => k_is)
    (case g_BadTurn => k_is)
    (case g_BadLine => k_is)
    (case g_Road => k_is)
    (case a_is_whole => k_is)
    (case l_is_whole => k_is)
    (case c_is_whole => k_is)
    (case k_is_whole => k_is)
    (case a_within => k_is)
    (case l_within => k_is)
    (case c_within => k_is)
    (case k_within => k_is)
    (case a__is_road => k_is)
    (case l__is_road => k_is)
    (case c__is_road => k_is)
    (case k__is_road => k_is)
    (case a_Road___init__ => k_is)
    (case i_Road___init__ => k_is)
    (case l_Road___init__ => k_is)
    (case c_Road___init__ => k_is)
    (case k_Road___init__ => k_is)
    (case a_Road__next_number => k_is)
    (case i_Road__next_number => k_is)
    (case l_Road__next_number => k_is)
    (case c_Road__next_number => k_is)
    (case k_Road__next_number => k_is)
    (case a__delays => k_is)
    (case l__delays => k_is)
    (case c__delays => k_is)
    (case k__delays => k_is)
    (case a_Road_send => k_is)
    (case i_Road_send => k_is)
    (case l_Road_send => k_is)
    (case c_Road_send => k_is)
    (case k_Road_send => k_is)
    (case a_Road_due => k_is)
    (case i_Road_due => k_is)
    (case l_Road_due => k_is)
    (case c_Road_due => k_is)
    (case k_Road_due => k_is)
    (case a_Road_many => k_is)
    (case i_Road_many => k_is)
    (case l_Road_many => k_is)
    (case c_Road_many => k_is)
    (case k_Road_many => k_is)
    (case a__law_draw => k_is)
    (case l__law_draw => k_is)
    (case c__law_draw => k_is)
    (case k__law_draw => k_is)
    (case a__law_spread => k_is)
    (case l__law_spread => k_is)
    (case c__law_spread => k_is)
    (case k__law_spread => k_is)
    (case a__law_alone => k_is)
    (case l__law_alone => k_is)
    (case c__law_alone => k_is)
    (case k__law_alone => k_is)
    (case a__law_row => k_is)
    (case l__law_row => k_is)
    (case c__law_row => k_is)
    (case k__law_row => k_is)
    (case a__law_sent => k_is)
    (case l__law_sent => k_is)
    (case c__law_sent => k_is)
    (case k__law_sent => k_is)
    (case a__law_refused => k_is)
    (case l__law_refused => k_is)
    (case c__law_refused => k_is)
    (case k__law_refused => k_is)
    (case a_law => k_is)
    (case l_law => k_is)
    (case c_law => k_is)
    (case k_law => k_is)
    (case z_ValueError => k_is)
    (case z_all => k_is)
    (case z_bool => k_is)
    (case z_int => k_is)
    (case z_isinstance => k_is)
    (case z_len => k_is)
    (case z_list => k_is)
    (case z_max => k_is)
    (case z_range => k_is)
    (case v_LONGEST_ROAD => k_is)
    (case v_MOST => k_is)
    (case v_NEVER => k_is)
    (case pg_Road => k_is)
    (case hd_Road => k_is)
    (case po_Road => k_is)
    (case sa_Road => k_is)
    (case mk_Road => k_is)
    (case kq_Road => k_is)
    (case nf_Road__row => k_is)
    (case nf_Road__taken => k_is)
    (case nf_Road__under_way => k_is)
    (case x_BadTurn => k_exc)
    (case kc_BadTurn => k_is)
    (case s_BadTurn_ => k_is)
    (case ty_BadTurn => k_is)
    (case s_BadChange_ => k_is)
    (case ty_BadChange => k_is)
    (case ci_BadChange => k_is)
    (case ss_BadChange => first | rfl | k_is)
    (case s_BadLetter_ => k_is)
    (case ty_BadLetter => k_is)
    (case ci_BadLetter => k_is)
    (case ss_BadLetter => first | rfl | k_is)
    (case s_BadLine_ => k_is)
    (case ty_BadLine => k_is)
    (case ci_BadLine => k_is)
    (case ss_BadLine => first | rfl | k_is)
    (case s_BadName_ => k_is)
    (case ty_BadName => k_is)
    (case ci_BadName => k_is)
    (case ss_BadName => first | rfl | k_is)
    (case s_BadRecord_ => k_is)
    (case ty_BadRecord => k_is)
    (case ci_BadRecord => k_is)
    (case ss_BadRecord => first | rfl | k_is)
    (case s_BadRow_ => k_is)
    (case ty_BadRow => k_is)
    (case ci_BadRow => k_is)
    (case ss_BadRow => first | rfl | k_is)
    (case ci_BadTurn => k_is)
    (case ss_BadTurn => first | rfl | k_is)
    (case s_BadZone_ => k_is)
    (case ty_BadZone => k_is)
    (case ci_BadZone => k_is)
    (case ss_BadZone => first | rfl | k_is)
    (case s_HouseError_ => k_is)
    (case ty_HouseError => k_is)
    (case ci_HouseError => k_is)
    (case ss_HouseError => first | rfl | k_is)
    (case sp_BadTurn_BadChange => first | rfl | k_is)
    (case sp_BadTurn_BadLetter => first | rfl | k_is)
    (case sp_BadTurn_BadLine => first | rfl | k_is)
    (case sp_BadTurn_BadName => first | rfl | k_is)
    (case sp_BadTurn_BadRecord => first | rfl | k_is)
    (case sp_BadTurn_BadRow => first | rfl | k_is)
    (case sp_BadTurn_BadZone => first | rfl | k_is)
    (case sp_BadTurn_HouseError => first | rfl | k_is)
    (case sv_BadTurn => first | rfl | k_is)
    (case e1_BadTurn => k_is)
    (case e2_BadTurn => k_is)
    (case e3_BadTurn => k_is)
    (case e4_BadTurn => k_is)
    (case e6_BadTurn => k_is)
    (case e5a => k_is)
    (case e5b => k_is)
