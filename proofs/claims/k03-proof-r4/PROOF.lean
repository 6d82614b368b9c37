import PyProof.Rows.All
import Wide.All
import OpenK.AllK
import Wide.FinOn
import PySem.Challenge.RW_namehouse_k03_records_and_their_order
import HandS.ForMost
import HandS.ForExc
import HandS.IsInst
import HandS.Style
import HandS.TupAny
import HandS.TupMul
import HandS.Walk
import HandS.ExcIs
import HandS.More
import HandS.Keys
import HandS.SortKw
import KE.KRevSl
import KE.SortKeyHeap
import HandS.Zip
import HandS.Iter
import PyProof.Claim2Refuses
import HandS.Deep
import HandS.TupLe
import HandS.CallLocal
import HandS.WideBits
import HandS.Strs
import HandS.Replace
import KE.GoesEnum
import HandS.Set
import HandS.SetFor
import HandS.TupSets
import PyProof.Rows.SortStr
import KE.DataCmp
import KE.KAssignIn
set_option Elab.async false
set_option linter.all false
set_option maxRecDepth 100000
set_option maxHeartbeats 4000000
namespace Nh
open PySem PySem.Spec PyProof.Rows L2

inductive Dat where
  | non | bl (b : Bool) | int (i : Int) | str (s : Str) | tup (ds : List Dat) | cell (k : Nat) | ro (ns : List Int) | ty (n : String) | cls (n : Nat) | ct (ds : List Dat)
inductive Cell where
  | lst (ds : List Dat) | dict (kvs : List (Key × Dat)) | exc (n : Nat) | ins (n : Nat) (fs : List (Str × Dat)) | dictT (kvs : List (List Key × Dat))
abbrev Store := List Cell
structure Cfg where
  K : PySem.W.Frag
  cl : Nat → Addr

/-- a list that nobody changes -/
def RoL (K : PySem.W.Frag) (H : Hp) (a : Addr) (xs : List V) : Prop :=
  (∃ o, H a = some (.frz o (.lst xs))) ∨ ((∀ H', SqL K H' a xs) ∧ ∃ o, K.lookup a = some o ∧ o.cls = .type "list")
/-- a tuple -/
def RoT (K : PySem.W.Frag) (H : Hp) (a : Addr) (xs : List V) : Prop := H a = some (.tup xs)
/-- a tuple of the written part -/
def RoC (K : PySem.W.Frag) (H : Hp) (a : Addr) (xs : List V) : Prop := ((∀ H', SqT K H' a xs) ∧ ∃ o, K.lookup a = some o ∧ o.cls = .type "tuple" ∧ o.dict = none) ∨ ∃ o, H a = some (.frz o (.tup xs)) ∧ o.cls = .type "tuple" ∧ o.dict = none
mutual
inductive Rel (c : Cfg) (as : List Addr) (H : Hp) : V → Dat → Prop
  | non : Rel c as H .non .non
  | bl (b : Bool) : Rel c as H (.bl b) (.bl b)
  | int (i : Int) : Rel c as H (.int i) (.int i)
  | str (s : Str) : Rel c as H (.str s) (.str s)
  | tup {a : Addr} {xs : List V} {ds : List Dat} (h : RoT c.K H a xs) (r : RelAll c as H xs ds) : Rel c as H (.ref a) (.tup ds)
  | cell {k : Nat} {a : Addr} (h : as[k]? = some a) : Rel c as H (.ref a) (.cell k)
  | ro {a : Addr} {ns : List Int} (h : RoL c.K H a (ns.map V.int)) : Rel c as H (.ref a) (.ro ns)
  | ty (n : String) : Rel c as H (.ty n) (.ty n)
  | cls (n : Nat) : Rel c as H (.ref (c.cl n)) (.cls n)
  | ct {a : Addr} {xs : List V} {ds : List Dat} (h : RoC c.K H a xs) (r : RelAll c as H xs ds) : Rel c as H (.ref a) (.ct ds)
inductive RelAll (c : Cfg) (as : List Addr) (H : Hp) : List V → List Dat → Prop
  | nil : RelAll c as H [] []
  | cons {v : V} {vs : List V} {d : Dat} {ds : List Dat} (h : Rel c as H v d) (t : RelAll c as H vs ds) : RelAll c as H (v :: vs) (d :: ds)
end
/-- the heap later -/
structure Ext (as : List Addr) (H : Hp) (as' : List Addr) (H' : Hp) : Prop where
  pre : ∀ (k : Nat) (a : Addr), as[k]? = some a → as'[k]? = some a
  tup : ∀ a xs, H a = some (.tup xs) → H' a = some (.tup xs)
  frz : ∀ a o u, H a = some (.frz o u) → H' a = some (.frz o u)
theorem Ext.refl {as : List Addr} {H : Hp} : Ext as H as H := ⟨fun _ _ h => h, fun _ _ h => h, fun _ _ _ h => h⟩
theorem Ext.trans {as as1 as2 : List Addr} {H H1 H2 : Hp} (a : Ext as H as1 H1) (b : Ext as1 H1 as2 H2) : Ext as H as2 H2 :=
  ⟨fun k x h => b.pre k x (a.pre k x h), fun x y h => b.tup x y (a.tup x y h), fun x o u h => b.frz x o u (a.frz x o u h)⟩
section
variable {c : Cfg} {as as' : List Addr} {H H' : Hp}
theorem RoC.mono {a : Addr} {xs : List V} (e : Ext as H as' H') (h : RoC c.K H a xs) : RoC c.K H' a xs := by
  rcases h with h | ⟨o, h1, h2⟩
  · exact .inl h
  · exact .inr ⟨o, e.frz _ _ _ h1, h2⟩
theorem RoC.sq {a : Addr} {xs : List V} (h : RoC c.K H a xs) : SqT c.K H a xs := by
  rcases h with h | ⟨o, h1, _⟩
  · exact h.1 H
  · exact .inl (.inr ⟨o, h1⟩)
theorem RoL.mono {a : Addr} {xs : List V} (e : Ext as H as' H') (h : RoL c.K H a xs) : RoL c.K H' a xs := by
  rcases h with ⟨o, h⟩ | h
  · exact .inl ⟨o, e.frz _ _ _ h⟩
  · exact .inr h
theorem RoL.sq {a : Addr} {xs : List V} (h : RoL c.K H a xs) : SqL c.K H a xs := by
  rcases h with ⟨o, h⟩ | h
  · exact .inl (.inr ⟨o, h⟩)
  · exact h.1 H
theorem RoT.mono {a : Addr} {xs : List V} (e : Ext as H as' H') (h : RoT c.K H a xs) : RoT c.K H' a xs := e.tup _ _ h
theorem RoT.sq {a : Addr} {xs : List V} (h : RoT c.K H a xs) : SqT c.K H a xs := .inl (.inl h)
mutual
theorem Rel.mono (e : Ext as H as' H') : ∀ {v : V} {d : Dat}, Rel c as H v d → Rel c as' H' v d
  | _, _, .non => .non
  | _, _, .bl b => .bl b
  | _, _, .int i => .int i
  | _, _, .str s => .str s
  | _, _, .tup h r => .tup (h.mono e) (RelAll.mono e r)
  | _, _, .cell h => .cell (e.pre _ _ h)
  | _, _, .ro h => .ro (h.mono e)
  | _, _, .ty n => .ty n
  | _, _, .cls n => .cls n
  | _, _, .ct h r => .ct (h.mono e) (RelAll.mono e r)
theorem RelAll.mono (e : Ext as H as' H') : ∀ {vs : List V} {ds : List Dat}, RelAll c as H vs ds → RelAll c as' H' vs ds
  | _, _, .nil => .nil
  | _, _, .cons h t => .cons (Rel.mono e h) (RelAll.mono e t)
end
theorem RelAll.length : ∀ {vs : List V} {ds : List Dat}, RelAll c as H vs ds → vs.length = ds.length
  | _, _, .nil => rfl
  | _, _, .cons _ t => by rw [List.length_cons, List.length_cons, RelAll.length t]
theorem RelAll.get : ∀ {vs : List V} {ds : List Dat} {i : Nat} {d : Dat}, RelAll c as H vs ds → ds[i]? = some d → ∃ v, vs[i]? = some v ∧ Rel c as H v d
  | _, _, _, _, .nil, e => by simp at e
  | _, _, 0, _, .cons h _, e => by simp at e; subst e; exact ⟨_, rfl, h⟩
  | _, _, i + 1, _, .cons _ t, e => by
    obtain ⟨v, h1, h2⟩ := RelAll.get (i := i) t (by simpa using e)
    exact ⟨v, by simpa using h1, h2⟩
theorem RelAll.getV : ∀ {vs : List V} {ds : List Dat} {i : Nat} {v : V}, RelAll c as H vs ds → vs[i]? = some v → ∃ d, ds[i]? = some d ∧ Rel c as H v d
  | _, _, _, _, .nil, e => by simp at e
  | _, _, 0, _, .cons h _, e => by simp at e; subst e; exact ⟨_, rfl, h⟩
  | _, _, i + 1, _, .cons _ t, e => by
    obtain ⟨v, h1, h2⟩ := RelAll.getV (i := i) t (by simpa using e)
    exact ⟨v, by simpa using h1, h2⟩
theorem RelAll.append : ∀ {vs ws : List V} {ds es : List Dat}, RelAll c as H vs ds → RelAll c as H ws es → RelAll c as H (vs ++ ws) (ds ++ es)
  | _, _, _, _, .nil, s => s
  | _, _, _, _, .cons h t, s => .cons h (RelAll.append t s)
theorem RelAll.take : ∀ {vs : List V} {ds : List Dat} (n : Nat), RelAll c as H vs ds → RelAll c as H (vs.take n) (ds.take n)
  | _, _, 0, _ => .nil
  | _, _, _ + 1, .nil => .nil
  | _, _, n + 1, .cons h t => .cons h (RelAll.take n t)
theorem RelAll.drop : ∀ {vs : List V} {ds : List Dat} (n : Nat), RelAll c as H vs ds → RelAll c as H (vs.drop n) (ds.drop n)
  | _, _, 0, h => h
  | _, _, _ + 1, .nil => .nil
  | _, _, n + 1, .cons _ t => RelAll.drop n t
theorem RelAll.set {v : V} {d : Dat} (h : Rel c as H v d) : ∀ {vs : List V} {ds : List Dat} (i : Nat), RelAll c as H vs ds → RelAll c as H (vs.set i v) (ds.set i d)
  | _, _, _, .nil => .nil
  | _, _, 0, .cons _ t => .cons h t
  | _, _, i + 1, .cons q t => .cons q (RelAll.set h i t)
end

/-- an exception that the program keeps: its class -/
def ExO (cls : Value) (a : Addr) : HO := .ext fun h => ∃ oe vs, h.get? a = some oe ∧ Zc cls none oe ∧ oe.data = .fields vs
def RelKV (c : Cfg) (as : List Addr) (H : Hp) : List (Key × V) → List (Key × Dat) → Prop := Paired fun p q => p.1 = q.1 ∧ Rel c as H p.2 q.2
/-- pairs by equal keys -/
def RelP {κ : Type} (c : Cfg) (as : List Addr) (H : Hp) : List (κ × V) → List (κ × Dat) → Prop := Paired fun p q => p.1 = q.1 ∧ Rel c as H p.2 q.2
def CellOk (c : Cfg) (as : List Addr) (H : Hp) (a : Addr) : Cell → Prop
  | .lst ds => ∃ xs, H a = some (.lst xs) ∧ RelAll c as H xs ds
  | .dict kvs => ∃ ps, H a = some (.dK ps) ∧ RelKV c as H ps kvs
  | .exc n => H a = some (ExO (.ref (c.cl n)) a)
  | .ins n fs => ∃ dx vs, H a = some (.ins (c.cl n) dx vs) ∧ RelP c as H vs fs
  | .dictT kvs => ∃ ps, H a = some (.dT ps) ∧ RelP c as H ps kvs
structure StH (c : Cfg) (as : List Addr) (H : Hp) (μ : Store) : Prop where
  nd : as.Nodup
  len : as.length = μ.length
  at_ : ∀ (k : Nat) (x : Cell), μ[k]? = some x → ∃ a, as[k]? = some a ∧ CellOk c as H a x
abbrev Env := List (Option Dat)
structure EnvR (c : Cfg) (as : List Addr) (H : Hp) (σ : L2.St) (δ : Env) : Prop where
  len : σ.length = δ.length
  at_ : ∀ (i : Nat) (d : Dat), δ[i]? = some (some d) → ∃ v, σ[i]? = some (some v) ∧ Rel c as H v d
section
variable {c : Cfg} {as as' : List Addr} {H H' : Hp} {μ : Store} {σ : L2.St} {δ : Env}
theorem RelKV.mono (e : Ext as H as' H') {ps : List (Key × V)} {kvs : List (Key × Dat)} (r : RelKV c as H ps kvs) : RelKV c as' H' ps kvs := Paired.mapP r fun _ _ q => ⟨q.1, q.2.mono e⟩
theorem RelP.mono {κ : Type} (e : Ext as H as' H') {ps : List (κ × V)} {kvs : List (κ × Dat)} (r : RelP c as H ps kvs) : RelP c as' H' ps kvs := Paired.mapP r fun _ _ q => ⟨q.1, q.2.mono e⟩
theorem EnvR.mono (e : Ext as H as' H') (r : EnvR c as H σ δ) : EnvR c as' H' σ δ :=
  ⟨r.len, fun i d h => let ⟨v, h1, h2⟩ := r.at_ i d h; ⟨v, h1, h2.mono e⟩⟩
theorem EnvR.set {v : V} {d : Dat} (r : EnvR c as H σ δ) (i : Nat) (h : Rel c as H v d) : EnvR c as H (σ.set i (some v)) (δ.set i (some d)) :=
  ⟨by rw [List.length_set, List.length_set, r.len], fun j e hj => by
    by_cases hij : i = j
    · subst hij
      by_cases hl : i < δ.length
      · rw [List.getElem?_set_self hl] at hj
        cases hj
        exact ⟨v, by rw [List.getElem?_set_self (by rw [r.len]; exact hl)], h⟩
      · rw [List.getElem?_eq_none (by simpa using hl)] at hj
        cases hj
    · rw [List.getElem?_set_ne hij] at hj
      rw [List.getElem?_set_ne hij]
      exact r.at_ j e hj⟩
theorem EnvR.setN (r : EnvR c as H σ δ) (i : Nat) : EnvR c as H (σ.set i none) (δ.set i none) :=
  ⟨by rw [List.length_set, List.length_set, r.len], fun j e hj => by
    by_cases hij : i = j
    · subst hij
      by_cases hl : i < δ.length
      · rw [List.getElem?_set_self hl] at hj
        cases hj
      · rw [List.getElem?_eq_none (by simpa using hl)] at hj
        cases hj
    · rw [List.getElem?_set_ne hij] at hj
      rw [List.getElem?_set_ne hij]
      exact r.at_ j e hj⟩
theorem CellOk.mono {a : Addr} {x : Cell} (e : Ext as H as' H') (hx : H' a = H a) (h : CellOk c as H a x) : CellOk c as' H' a x := by
  cases x with
  | lst ds => obtain ⟨xs, h1, h2⟩ := h; exact ⟨xs, hx.trans h1, h2.mono e⟩
  | dict kvs => obtain ⟨ps, h1, h2⟩ := h; exact ⟨ps, hx.trans h1, h2.mono e⟩
  | exc n => exact hx.trans h
  | ins n fs => obtain ⟨dx, vs, h1, h2⟩ := h; exact ⟨dx, vs, hx.trans h1, h2.mono e⟩
  | dictT kvs => obtain ⟨ps, h1, h2⟩ := h; exact ⟨ps, hx.trans h1, h2.mono e⟩
theorem CellOk.not_tup {a : Addr} {x : Cell} (h : CellOk c as H a x) : ∀ xs, H a ≠ some (.tup xs) := by
  intro xs e
  cases x with
  | lst ds => obtain ⟨_, h1, _⟩ := h; rw [e] at h1; cases h1
  | dict kvs => obtain ⟨_, h1, _⟩ := h; rw [e] at h1; cases h1
  | exc n => rw [show H a = _ from h] at e; cases e
  | ins n fs => obtain ⟨_, _, h1, _⟩ := h; rw [e] at h1; cases h1
  | dictT kvs => obtain ⟨_, h1, _⟩ := h; rw [e] at h1; cases h1
theorem CellOk.not_frz {a : Addr} {x : Cell} (h : CellOk c as H a x) : ∀ o u, H a ≠ some (.frz o u) := by
  intro o u e
  cases x with
  | lst ds => obtain ⟨_, h1, _⟩ := h; rw [e] at h1; cases h1
  | dict kvs => obtain ⟨_, h1, _⟩ := h; rw [e] at h1; cases h1
  | exc n => rw [show H a = _ from h] at e; cases e
  | ins n fs => obtain ⟨_, _, h1, _⟩ := h; rw [e] at h1; cases h1
  | dictT kvs => obtain ⟨_, h1, _⟩ := h; rw [e] at h1; cases h1
theorem CellOk.some_ {a : Addr} {x : Cell} (h : CellOk c as H a x) : H a ≠ none := by
  intro e
  cases x with
  | lst ds => obtain ⟨_, h1, _⟩ := h; rw [e] at h1; cases h1
  | dict kvs => obtain ⟨_, h1, _⟩ := h; rw [e] at h1; cases h1
  | exc n => rw [show H a = _ from h] at e; cases e
  | ins n fs => obtain ⟨_, _, h1, _⟩ := h; rw [e] at h1; cases h1
  | dictT kvs => obtain ⟨_, h1, _⟩ := h; rw [e] at h1; cases h1
theorem StH.mem {a : Addr} (s : StH c as H μ) (h : a ∈ as) : H a ≠ none := by
  obtain ⟨k, hk, e⟩ := List.getElem_of_mem h
  have hk' : k < μ.length := by rw [← s.len]; exact hk
  obtain ⟨b, h1, h2⟩ := s.at_ k μ[k] (List.getElem?_eq_getElem hk')
  rw [List.getElem?_eq_getElem hk, e] at h1
  cases h1
  exact h2.some_
/-- a new tuple -/
theorem ext_new {p : Addr} {o : HO} (h : H p = none) : Ext as H as (upd H p o) :=
  ⟨fun _ _ h => h, fun a xs e => by rw [upd_ne (ne_of_none e h)]; exact e, fun a o u e => by rw [upd_ne (ne_of_none e h)]; exact e⟩
theorem StH.tup {p : Addr} {o : HO} (s : StH c as H μ) (h : H p = none) : StH c as (upd H p o) μ :=
  ⟨s.nd, s.len, fun k x e => by
    obtain ⟨a, h1, h2⟩ := s.at_ k x e
    have ne : a ≠ p := fun z => h2.some_ (by rw [z]; exact h)
    exact ⟨a, h1, h2.mono (ext_new h) (upd_ne ne)⟩⟩
/-- a new object of the store -/
theorem ext_alloc {p : Addr} {o : HO} (h : H p = none) : Ext as H (as ++ [p]) (upd H p o) :=
  ⟨fun k a e => by
    have hk : k < as.length := (List.getElem?_eq_some_iff.mp e).1
    rw [List.getElem?_append_left hk]
    exact e, (ext_new (as := as) h).tup, (ext_new (as := as) h).frz⟩
theorem StH.alloc {p : Addr} {o : HO} {x : Cell} (s : StH c as H μ) (h : H p = none) (new : CellOk c (as ++ [p]) (upd H p o) p x) : StH c (as ++ [p]) (upd H p o) (μ ++ [x]) := by
  refine ⟨?_, by simp [s.len], fun k y e => ?_⟩
  · rw [List.nodup_append]
    refine ⟨s.nd, by simp, fun a ha b hb => ?_⟩
    have hb' : b = p := by simpa using hb
    subst hb'
    exact fun z => s.mem ha (by rw [z]; exact h)
  · by_cases hk : k < μ.length
    · rw [List.getElem?_append_left hk] at e
      obtain ⟨a, h1, h2⟩ := s.at_ k y e
      have ne : a ≠ p := fun z => h2.some_ (by rw [z]; exact h)
      exact ⟨a, (ext_alloc (o := o) h).pre _ _ h1, h2.mono (ext_alloc h) (upd_ne ne)⟩
    · have hk2 : k = μ.length := by
        have := (List.getElem?_eq_some_iff.mp e).1
        rw [List.length_append, List.length_singleton] at this
        omega
      subst hk2
      rw [List.getElem?_concat_length] at e
      cases e
      exact ⟨p, by rw [← s.len, List.getElem?_concat_length], new⟩
theorem rel_alloc {p : Addr} (s : StH c as H μ) {H' : Hp} : Rel c (as ++ [p]) H' (.ref p) (.cell μ.length) := .cell (by rw [← s.len, List.getElem?_concat_length])
/-- an object of the store is changed -/
theorem ext_set {k : Nat} {a : Addr} {x : Cell} {o : HO} (s : StH c as H μ) (hk : μ[k]? = some x) (ha : as[k]? = some a) : Ext as H as (upd H a o) := by
  obtain ⟨b, h1, h2⟩ := s.at_ k x hk
  rw [ha] at h1
  cases h1
  refine ⟨fun _ _ h => h, fun b xs e => ?_, fun b o u e => ?_⟩
  · have ne : b ≠ a := fun z => by rw [z] at e; exact h2.not_tup _ e
    rw [upd_ne ne]; exact e
  · have ne : b ≠ a := fun z => by rw [z] at e; exact h2.not_frz _ _ e
    rw [upd_ne ne]; exact e
theorem StH.set {k : Nat} {a : Addr} {x y : Cell} {o : HO} (s : StH c as H μ) (hk : μ[k]? = some x) (ha : as[k]? = some a) (new : CellOk c as (upd H a o) a y) : StH c as (upd H a o) (μ.set k y) := by
  refine ⟨s.nd, by rw [List.length_set]; exact s.len, fun j z e => ?_⟩
  have hkl : k < μ.length := (List.getElem?_eq_some_iff.mp hk).1
  by_cases hj : k = j
  · subst hj
    rw [List.getElem?_set_self hkl] at e
    cases e
    exact ⟨a, ha, new⟩
  · rw [List.getElem?_set_ne hj] at e
    obtain ⟨b, h1, h2⟩ := s.at_ j z e
    have ne : b ≠ a := fun q => hj (nd_ix s.nd ha (q ▸ h1))
    exact ⟨b, h1, h2.mono (ext_set s hk ha) (upd_ne ne)⟩
theorem StH.cell_at {k : Nat} {a : Addr} {x : Cell} (s : StH c as H μ) (hk : μ[k]? = some x) (ha : as[k]? = some a) : CellOk c as H a x := by
  obtain ⟨b, h1, h2⟩ := s.at_ k x hk
  rw [ha] at h1
  cases h1
  exact h2
end

/-! ### what a step gives -/
inductive Res (α : Type) where
  | ok (x : α) (μ : Store) | raise (n : Nat) (μ : Store) | stuck
def Res.bind {α β : Type} (r : Res α) (f : α → Store → Res β) : Res β := match r with
  | .ok x μ => f x μ
  | .raise n μ => .raise n μ
  | .stuck => .stuck
abbrev M (α : Type) := Env → Store → Res α
section
variable {c : Cfg} {as as' : List Addr} {H H' : Hp} {σ : L2.St} {δ : Env} {μ : Store} {α β γ ε : Type}
def Want (c : Cfg) (R : List Addr → Hp → β → α → Prop) (r : Res α) (as : List Addr) (H : Hp) (σ : L2.St) (Q : β → Hp → Prop) (W : WX) : Prop := match r with
  | .ok x μ' => ∀ v as' H', Ext as H as' H' → StH c as' H' μ' → R as' H' v x → Q v H'
  | .raise n μ' => ∀ as' H', Ext as H as' H' → StH c as' H' μ' → W (.ref (c.cl n)) none σ H'
  | .stuck => False
theorem Want.mono {R : List Addr → Hp → β → α → Prop} {r : Res α} {Q : β → Hp → Prop} {W : WX} (e : Ext as H as' H') (w : Want c R r as H σ Q W) : Want c R r as' H' σ Q W := by
  cases r with
  | ok x μ' => exact fun v a h q => w v a h (e.trans q)
  | raise n μ' => exact fun a h q => w a h (e.trans q)
  | stuck => exact w
theorem Want.imp {R : List Addr → Hp → β → α → Prop} {r : Res α} {Q Q' : β → Hp → Prop} {W : WX} (w : Want c R r as H σ Q W) (h : ∀ v H', Q v H' → Q' v H') : Want c R r as H σ Q' W := by
  cases r with
  | ok x μ' => exact fun v a q e s r => h _ _ (w v a q e s r)
  | raise n μ' => exact w
  | stuck => exact w
theorem want_bind {R1 : List Addr → Hp → β → α → Prop} {R2 : List Addr → Hp → ε → γ → Prop} {r : Res α} {f : α → Store → Res γ} {Q : ε → Hp → Prop} {W : WX} (h : Want c R2 (r.bind f) as H σ Q W) :
    Want c R1 r as H σ (fun v H1 => ∃ as1 μ1 x, Ext as H as1 H1 ∧ StH c as1 H1 μ1 ∧ R1 as1 H1 v x ∧ Want c R2 (f x μ1) as1 H1 σ Q W) W := by
  cases r with
  | ok x μ' => exact fun v a q e s r => ⟨a, μ', x, e, s, r, Want.mono (r := f x μ') e h⟩
  | raise n μ' => exact h
  | stuck => exact h
/-- a reading follows a function -/
def Sim (c : Cfg) (W : WX) (R : List Addr → Hp → β → α → Prop) (t : L2.St → Hp → (β → Hp → Prop) → Prop) (m : M α) : Prop :=
  ∀ as H σ δ μ, StH c as H μ → EnvR c as H σ δ → ∀ Q, Want c R (m δ μ) as H σ Q W → t σ H Q
abbrev SimE (c : Cfg) (W : WX) (t : TE) (m : M Dat) : Prop := Sim c W (Rel c) t m
abbrev SimT (c : Cfg) (W : WX) (t : TT) (m : M Bool) : Prop := Sim c W (fun _ _ b d => b = d) t m
abbrev SimA (c : Cfg) (W : WX) (t : TA) (m : M (List Dat)) : Prop := Sim c W (RelAll c) t m
variable {W : WX}
theorem sim_bind {R1 : List Addr → Hp → β → α → Prop} {R2 : List Addr → Hp → ε → γ → Prop} {t : L2.St → Hp → (β → Hp → Prop) → Prop} {m : M α} {k : β → L2.St → Hp → (ε → Hp → Prop) → Prop} {f : α → M γ}
    (h : Sim c W R1 t m) (hk : ∀ as H σ δ μ v x, StH c as H μ → EnvR c as H σ δ → R1 as H v x → ∀ Q, Want c R2 (f x δ μ) as H σ Q W → k v σ H Q) :
    Sim c W R2 (fun σ H Q => t σ H fun v H1 => k v σ H1 Q) (fun δ μ => (m δ μ).bind fun x μ1 => f x δ μ1) := by
  intro as H σ δ μ st env Q w
  refine h as H σ δ μ st env _ ((want_bind (R1 := R1) w).imp ?_)
  rintro v H1 ⟨as1, μ1, x, e, s1, r, w1⟩
  exact hk as1 H1 σ δ μ1 v x s1 (env.mono e) r Q w1

/-! ### names, constants -/
def mVar (i : Nat) : M Dat := fun δ μ => match δ[i]? with
  | some (some d) => .ok d μ
  | _ => .stuck
theorem sim_var (i : Nat) : SimE c W (tVar i) (mVar i) := by
  intro as H σ δ μ st env Q w
  unfold mVar at w
  split at w
  · rename_i d hd
    obtain ⟨v, h1, h2⟩ := env.at_ i d hd
    exact ⟨v, h1, w v as H .refl st h2⟩
  · exact w.elim
def mC (d : Dat) : M Dat := fun _ μ => .ok d μ
theorem sim_c {v : V} {d : Dat} (h : ∀ as H, Rel c as H v d) : SimE c W (tC v) (mC d) := fun as H σ δ μ st env Q w => w v as H .refl st (h as H)
theorem sim_int (i : Int) : SimE c W (tC (.int i)) (mC (.int i)) := sim_c fun _ _ => .int i
theorem sim_str (s : Str) : SimE c W (tC (.str s)) (mC (.str s)) := sim_c fun _ _ => .str s
theorem sim_bl (b : Bool) : SimE c W (tC (.bl b)) (mC (.bl b)) := sim_c fun _ _ => .bl b
theorem sim_non : SimE c W (tC .non) (mC .non) := sim_c fun _ _ => .non
theorem sim_ty (n : String) : SimE c W (tC (.ty n)) (mC (.ty n)) := sim_c fun _ _ => .ty n
theorem sim_cls (n : Nat) : SimE c W (tC (.ref (c.cl n))) (mC (.cls n)) := sim_c fun _ _ => .cls n

/-! ### operators -/
abbrev F1 := Dat → Store → Res Dat
abbrev F2 := Dat → Dat → Store → Res Dat
def SimR (c : Cfg) (r : R2) (f : F2) : Prop :=
  ∀ as H μ v w x y, StH c as H μ → Rel c as H v x → Rel c as H w y → ∀ σ W Q, Want c (Rel c) (f x y μ) as H σ Q W → r v w H Q
def mOp (f : F2) (a b : M Dat) : M Dat := fun δ μ => (a δ μ).bind fun x μ1 => (b δ μ1).bind fun y μ2 => f x y μ2
theorem sim_op {r : R2} {f : F2} {ta tb : TE} {a b : M Dat} (hr : SimR c r f) (ha : SimE c W ta a) (hb : SimE c W tb b) : SimE c W (tOp r ta tb) (mOp f a b) := by
  intro as H σ δ μ st env Q w
  refine ha as H σ δ μ st env _ ((want_bind (R1 := Rel c) w).imp ?_)
  rintro v H1 ⟨as1, μ1, x, e, s1, rx, w1⟩
  refine hb as1 H1 σ δ μ1 s1 (env.mono e) _ ((want_bind (R1 := Rel c) w1).imp ?_)
  rintro u H2 ⟨as2, μ2, y, e2, s2, ry, w2⟩
  exact hr as2 H2 μ2 v u x y s2 (rx.mono e2) ry σ W Q w2
def intOp (g : Int → Int → Dat) : F2 := fun x y μ => match x, y with
  | .int i, .int j => .ok (g i j) μ
  | _, _ => .stuck
theorem simr_I0 {g : Int → Int → V} {g' : Int → Int → Dat} (hg : ∀ i j as H, Rel c as H (g i j) (g' i j)) : SimR c (rI0 g) (intOp g') := by
  intro as H μ v w x y st rx ry σ W Q h
  unfold intOp at h
  split at h
  · cases rx
    cases ry
    exact ⟨_, _, rfl, rfl, h _ as H .refl st (hg ..)⟩
  · exact h.elim
def intOpC (C : Int → Int → Prop) [∀ i j, Decidable (C i j)] (g : Int → Int → Dat) : F2 := fun x y μ => match x, y with
  | .int i, .int j => if C i j then .ok (g i j) μ else .stuck
  | _, _ => .stuck
theorem simr_I {C : Int → Int → Prop} [∀ i j, Decidable (C i j)] {g : Int → Int → V} {g' : Int → Int → Dat} (hg : ∀ i j as H, Rel c as H (g i j) (g' i j)) : SimR c (rI C g) (intOpC C g') := by
  intro as H μ v w x y st rx ry σ W Q h
  unfold intOpC at h
  split at h
  · rename_i i j
    cases rx
    cases ry
    by_cases hc : C i j
    · rw [if_pos hc] at h
      exact ⟨_, _, rfl, rfl, hc, h _ as H .refl st (hg ..)⟩
    · rw [if_neg hc] at h
      exact h.elim
  · exact h.elim
instance : ∀ i j, Decidable (CMul i j) := fun i j => by unfold CMul; infer_instance
instance : ∀ i j, Decidable (CDiv i j) := fun i j => by unfold CDiv; infer_instance
instance : ∀ i j, Decidable (CPow i j) := fun i j => by unfold CPow; infer_instance
def fAdd : F2 := intOp fun i j => .int (i + j)
def fSub : F2 := intOp fun i j => .int (i - j)
def fMul : F2 := intOpC CMul fun i j => .int (i * j)
def fDiv : F2 := intOpC CDiv fun i j => .int (i / j)
def fMod : F2 := intOpC (fun _ j => 0 < j) fun i j => .int (i % j)
def fPow : F2 := intOpC CPow fun i j => .int (i ^ j.toNat)
def fLt : F2 := intOp fun i j => .bl (decide (i < j))
def fLe : F2 := intOp fun i j => .bl (decide (i ≤ j))
def fGt : F2 := intOp fun i j => .bl (decide (j < i))
def fGe : F2 := intOp fun i j => .bl (decide (j ≤ i))
theorem simr_add : SimR c (rI0 fun i j => .int (i + j)) fAdd := simr_I0 fun _ _ _ _ => .int _
theorem simr_sub : SimR c (rI0 fun i j => .int (i - j)) fSub := simr_I0 fun _ _ _ _ => .int _
theorem simr_mul : SimR c (rI CMul fun i j => .int (i * j)) fMul := simr_I fun _ _ _ _ => .int _
theorem simr_fdiv : SimR c (rI CDiv fun i j => .int (i / j)) fDiv := simr_I fun _ _ _ _ => .int _
theorem simr_mod : SimR c (rI (fun _ j => 0 < j) fun i j => .int (i % j)) fMod := simr_I fun _ _ _ _ => .int _
theorem simr_pow : SimR c (rI CPow fun i j => .int (i ^ j.toNat)) fPow := simr_I fun _ _ _ _ => .int _
theorem simr_lt : SimR c (rI0 fun i j => .bl (decide (i < j))) fLt := simr_I0 fun _ _ _ _ => .bl _
theorem simr_le : SimR c (rI0 fun i j => .bl (decide (i ≤ j))) fLe := simr_I0 fun _ _ _ _ => .bl _
theorem simr_gt : SimR c (rI0 fun i j => .bl (decide (j < i))) fGt := simr_I0 fun _ _ _ _ => .bl _
theorem simr_ge : SimR c (rI0 fun i j => .bl (decide (j ≤ i))) fGe := simr_I0 fun _ _ _ _ => .bl _
/-- a datum that stands for itself -/
def toV : Dat → Option V
  | .non => some .non
  | .bl b => some (.bl b)
  | .int i => some (.int i)
  | .str s => some (.str s)
  | _ => none
theorem Rel.toV {v u : V} {d : Dat} (h : Rel c as H v d) (e : toV d = some u) : v = u := by
  cases h <;> first | (cases e; rfl) | cases e
def fEq : F2 := fun x y μ => match toV x, toV y with
  | some u, some v => if scal u v = true then .ok (.bl (decide (u = v))) μ else .stuck
  | _, _ => .stuck
def fNe : F2 := fun x y μ => match toV x, toV y with
  | some u, some v => if scal u v = true then .ok (.bl (!decide (u = v))) μ else .stuck
  | _, _ => .stuck
theorem simr_eq : SimR c rEq fEq := by
  intro as H μ v w x y st rx ry σ W Q h
  unfold fEq at h
  split at h
  · rename_i u1 u2 e1 e2
    obtain rfl := rx.toV e1
    obtain rfl := ry.toV e2
    by_cases hs : scal v w = true
    · rw [if_pos hs] at h
      exact ⟨hs, h _ as H .refl st (.bl _)⟩
    · rw [if_neg hs] at h
      exact h.elim
  · exact h.elim
theorem simr_ne : SimR c rNe fNe := by
  intro as H μ v w x y st rx ry σ W Q h
  unfold fNe at h
  split at h
  · rename_i u1 u2 e1 e2
    obtain rfl := rx.toV e1
    obtain rfl := ry.toV e2
    by_cases hs : scal v w = true
    · rw [if_pos hs] at h
      exact ⟨hs, h _ as H .refl st (.bl _)⟩
    · rw [if_neg hs] at h
      exact h.elim
  · exact h.elim
end
end Nh

namespace Nh
open PySem PySem.Spec PyProof.Rows L2
section
variable {c : Cfg} {as as' : List Addr} {H H' : Hp} {σ : L2.St} {δ : Env} {μ : Store} {α β γ ε : Type} {W : WX}

/-! ### tests, and, or, not, if -/
def asB (m : M Dat) : M Bool := fun δ μ => (m δ μ).bind fun d μ1 => match d with
  | .bl b => .ok b μ1
  | _ => .stuck
theorem sim_tB {t : TE} {m : M Dat} (h : SimE c W t m) : SimT c W (tB t) (asB m) := by
  intro as0 H0 σ δ μ0 st0 env0 Q w0
  refine h as0 H0 σ δ μ0 st0 env0 _ ((want_bind (R1 := Rel c) w0).imp ?_)
  rintro v H ⟨as, μ, x, e0, st, r, w⟩
  have env := env0.mono e0
  split at w
  · cases r
    exact ⟨_, rfl, w _ as H .refl st rfl⟩
  · exact w.elim
theorem sim_tTest {t : TE} {m : M Dat} (h : SimE c W t m) : SimT c W (tTest t) (asB m) := sim_tB h
def mtNot (m : M Bool) : M Bool := fun δ μ => (m δ μ).bind fun b μ1 => .ok (!b) μ1
theorem sim_tNot {t : TT} {m : M Bool} (h : SimT c W t m) : SimT c W (tNot t) (mtNot m) := by
  intro as0 H0 σ δ μ0 st0 env0 Q w0
  refine h as0 H0 σ δ μ0 st0 env0 _ ((want_bind (R1 := fun _ _ b d => b = d) w0).imp ?_)
  rintro v H ⟨as, μ, x, e0, st, r, w⟩
  have env := env0.mono e0
  subst r
  exact w _ as H .refl st rfl
def mtAnd (a b : M Bool) : M Bool := fun δ μ => (a δ μ).bind fun k μ1 => if k = true then b δ μ1 else .ok false μ1
def mtOr (a b : M Bool) : M Bool := fun δ μ => (a δ μ).bind fun k μ1 => if k = true then .ok true μ1 else b δ μ1
theorem sim_tAnd {t u : TT} {a b : M Bool} (ha : SimT c W t a) (hb : SimT c W u b) : SimT c W (tAnd t u) (mtAnd a b) := by
  intro as0 H0 σ δ μ0 st0 env0 Q w0
  refine ha as0 H0 σ δ μ0 st0 env0 _ ((want_bind (R1 := fun _ _ b d => b = d) w0).imp ?_)
  rintro v H ⟨as, μ, x, e0, st, r, w⟩
  have env := env0.mono e0
  subst r
  cases v with
  | true => exact hb as H σ δ μ st env Q w
  | false => exact w _ as H .refl st rfl
theorem sim_tOr {t u : TT} {a b : M Bool} (ha : SimT c W t a) (hb : SimT c W u b) : SimT c W (tOr t u) (mtOr a b) := by
  intro as0 H0 σ δ μ0 st0 env0 Q w0
  refine ha as0 H0 σ δ μ0 st0 env0 _ ((want_bind (R1 := fun _ _ b d => b = d) w0).imp ?_)
  rintro v H ⟨as, μ, x, e0, st, r, w⟩
  have env := env0.mono e0
  subst r
  cases v with
  | true => exact w _ as H .refl st rfl
  | false => exact hb as H σ δ μ st env Q w
def mAnd (a b : M Dat) : M Dat := fun δ μ => (a δ μ).bind fun k μ1 => match k with
  | .bl true => b δ μ1
  | .bl false => .ok (.bl false) μ1
  | _ => .stuck
def mOr (a b : M Dat) : M Dat := fun δ μ => (a δ μ).bind fun k μ1 => match k with
  | .bl true => .ok (.bl true) μ1
  | .bl false => b δ μ1
  | _ => .stuck
theorem sim_and {t u : TE} {a b : M Dat} (ha : SimE c W t a) (hb : SimE c W u b) : SimE c W (tAndV t u) (mAnd a b) := by
  intro as0 H0 σ δ μ0 st0 env0 Q w0
  refine ha as0 H0 σ δ μ0 st0 env0 _ ((want_bind (R1 := Rel c) w0).imp ?_)
  rintro v H ⟨as, μ, x, e0, st, r, w⟩
  have env := env0.mono e0
  split at w
  · cases r
    exact ⟨_, rfl, hb as H σ δ μ st env Q w⟩
  · cases r
    exact ⟨_, rfl, w _ as H .refl st (.bl _)⟩
  · exact w.elim
theorem sim_or {t u : TE} {a b : M Dat} (ha : SimE c W t a) (hb : SimE c W u b) : SimE c W (tOrV t u) (mOr a b) := by
  intro as0 H0 σ δ μ0 st0 env0 Q w0
  refine ha as0 H0 σ δ μ0 st0 env0 _ ((want_bind (R1 := Rel c) w0).imp ?_)
  rintro v H ⟨as, μ, x, e0, st, r, w⟩
  have env := env0.mono e0
  split at w
  · cases r
    exact ⟨_, rfl, w _ as H .refl st (.bl _)⟩
  · cases r
    exact ⟨_, rfl, hb as H σ δ μ st env Q w⟩
  · exact w.elim
def mNot (a : M Dat) : M Dat := fun δ μ => (a δ μ).bind fun k μ1 => match k with
  | .bl b => .ok (.bl (!b)) μ1
  | _ => .stuck
theorem sim_not {t : TE} {a : M Dat} (ha : SimE c W t a) : SimE c W (tNotV t) (mNot a) := by
  intro as0 H0 σ δ μ0 st0 env0 Q w0
  refine ha as0 H0 σ δ μ0 st0 env0 _ ((want_bind (R1 := Rel c) w0).imp ?_)
  rintro v H ⟨as, μ, x, e0, st, r, w⟩
  have env := env0.mono e0
  split at w
  · cases r
    exact ⟨_, rfl, w _ as H .refl st (.bl _)⟩
  · exact w.elim
def mIf (q : M Bool) (a b : M α) : M α := fun δ μ => (q δ μ).bind fun k μ1 => if k = true then a δ μ1 else b δ μ1
theorem sim_if {q : TT} {t u : TE} {mq : M Bool} {a b : M Dat} (hq : SimT c W q mq) (ha : SimE c W t a) (hb : SimE c W u b) : SimE c W (tIf q t u) (mIf mq a b) := by
  intro as0 H0 σ δ μ0 st0 env0 Q w0
  refine hq as0 H0 σ δ μ0 st0 env0 _ ((want_bind (R1 := fun _ _ b d => b = d) w0).imp ?_)
  rintro v H ⟨as, μ, x, e0, st, r, w⟩
  have env := env0.mono e0
  subst r
  cases v with
  | true => exact ha as H σ δ μ st env Q w
  | false => exact hb as H σ δ μ st env Q w
/-- what a value is worth as a test -/
def truD (μ : Store) : Dat → Option Bool
  | .non => some false
  | .bl b => some b
  | .int i => some (i != 0)
  | .str y => if y.length ≤ sizeLine then some ((y.length : Int) != 0) else none
  | .tup ds => some (!ds.isEmpty)
  | .ro ns => some (!ns.isEmpty)
  | .ct ds => some (!ds.isEmpty)
  | .cell k => match μ[k]? with
    | some (.lst ds) => some (!ds.isEmpty)
    | some (.dict kvs) => some (!kvs.isEmpty)
    | _ => none
  | _ => none
theorem RelAll.isEmpty {vs : List V} {ds : List Dat} (h : RelAll c as H vs ds) : vs.isEmpty = ds.isEmpty := by
  cases h <;> rfl
theorem truV_of {v : V} {d : Dat} {b : Bool} (st : StH c as H μ) (r : Rel c as H v d) (h : truD μ d = some b) : TruV c.K v H b := by
  cases r with
  | non => exact (Option.some.inj h).symm
  | bl k => exact (Option.some.inj h).symm
  | int i => exact (Option.some.inj h).symm
  | str y =>
    dsimp only [truD] at h
    split at h
    · rename_i hy
      exact ⟨hy, (Option.some.inj h).symm⟩
    · cases h
  | tup ht ra =>
    refine .inr (.inl ⟨_, ht.sq, ?_⟩)
    rw [ra.isEmpty]
    exact (Option.some.inj h).symm
  | ro hl =>
    refine .inl ⟨_, hl.sq, ?_⟩
    rw [← Option.some.inj h, List.isEmpty_map]
  | @cell k a ha =>
    dsimp only [truD] at h
    split at h
    · rename_i ds hk
      obtain ⟨xs, h1, h2⟩ := st.cell_at hk ha
      refine .inl ⟨xs, SqL.of h1, ?_⟩
      rw [h2.isEmpty]
      exact (Option.some.inj h).symm
    · rename_i kvs hk
      obtain ⟨ps, h1, h2⟩ := st.cell_at hk ha
      refine .inr (.inr ⟨ps, h1, ?_⟩)
      rw [← Option.some.inj h]
      cases h2 <;> rfl
    · cases h
  | ty n => cases h
  | cls n => cases h
  | ct ht ra =>
    refine .inr (.inl ⟨_, ht.sq, ?_⟩)
    rw [ra.isEmpty]
    exact (Option.some.inj h).symm
def mTru (m : M Dat) : M Bool := fun δ μ => (m δ μ).bind fun d μ1 => match truD μ1 d with
  | some b => .ok b μ1
  | none => .stuck
theorem sim_truth {t : TE} {m : M Dat} (h : SimE c W t m) : SimT c W (fun σ H Q => t σ H fun x H' => ∃ k, TruV c.K x H' k ∧ Q k H') (mTru m) := by
  intro as0 H0 σ δ μ0 st0 env0 Q w0
  refine h as0 H0 σ δ μ0 st0 env0 _ ((want_bind (R1 := Rel c) w0).imp ?_)
  rintro v H ⟨as, μ, x, e0, st, r, w⟩
  have env := env0.mono e0
  split at w
  · rename_i b hb
    exact ⟨b, truV_of st r hb, w _ as H .refl st rfl⟩
  · exact w.elim
def mChain (f g : F2) (a b d : M Dat) : M Dat := fun δ μ => (a δ μ).bind fun x μ1 => (b δ μ1).bind fun y μ2 => (f x y μ2).bind fun k μ3 => match k with
  | .bl true => (d δ μ3).bind fun z μ4 => g y z μ4
  | .bl false => .ok (.bl false) μ3
  | _ => .stuck
theorem sim_chain {r r' : R2} {f g : F2} {ta tb tc : TE} {a b d : M Dat} (hr : SimR c r f) (hr' : SimR c r' g) (ha : SimE c W ta a) (hb : SimE c W tb b) (hd : SimE c W tc d) : SimE c W (tChain r r' ta tb tc) (mChain f g a b d) := by
  intro as H σ δ μ st env Q w
  refine ha as H σ δ μ st env _ ((want_bind (R1 := Rel c) w).imp ?_)
  rintro v H1 ⟨as1, μ1, x, e, s1, rx, w1⟩
  refine hb as1 H1 σ δ μ1 s1 (env.mono e) _ ((want_bind (R1 := Rel c) w1).imp ?_)
  rintro u H2 ⟨as2, μ2, y, e2, s2, ry, w2⟩
  refine hr as2 H2 μ2 v u x y s2 (rx.mono e2) ry σ W _ ((want_bind (R1 := Rel c) w2).imp ?_)
  rintro z H3 ⟨as3, μ3, k, e3, s3, rz, w3⟩
  split at w3
  · cases rz
    refine ⟨true, rfl, iteT ?_⟩
    refine hd as3 H3 σ δ μ3 s3 ((env.mono e).mono (e2.trans e3)) _ ((want_bind (R1 := Rel c) w3).imp ?_)
    rintro z H4 ⟨as4, μ4, z', e4, s4, rz', w4⟩
    exact hr' as4 H4 μ4 u z y z' s4 (ry.mono (e3.trans e4)) rz' σ W Q w4
  · cases rz
    exact ⟨false, rfl, iteF (w3 _ as3 H3 .refl s3 (.bl _))⟩
  · exact w3.elim

/-! ### arguments, displays -/
def maNil : M (List Dat) := fun _ μ => .ok [] μ
def maCons (a : M Dat) (r : M (List Dat)) : M (List Dat) := fun δ μ => (a δ μ).bind fun x μ1 => (r δ μ1).bind fun xs μ2 => .ok (x :: xs) μ2
theorem sim_nil : SimA c W tNil maNil := fun as H σ δ μ st env Q w => w [] as H .refl st .nil
theorem sim_cons {ta : TE} {tr : TA} {a : M Dat} {r : M (List Dat)} (ha : SimE c W ta a) (hr : SimA c W tr r) : SimA c W (tCons ta tr) (maCons a r) := by
  intro as H σ δ μ st env Q w
  refine ha as H σ δ μ st env _ ((want_bind (R1 := Rel c) w).imp ?_)
  rintro v H1 ⟨as1, μ1, x, e, s1, rx, w1⟩
  refine hr as1 H1 σ δ μ1 s1 (env.mono e) _ ((want_bind (R1 := RelAll c) w1).imp ?_)
  rintro vs H2 ⟨as2, μ2, xs, e2, s2, rxs, w2⟩
  exact w2 _ as2 H2 .refl s2 (.cons (rx.mono e2) rxs)
def mTup (a : M (List Dat)) : M Dat := fun δ μ => (a δ μ).bind fun ds μ1 => if ds.length ≤ sizeLine then .ok (.tup ds) μ1 else .stuck
theorem sim_tup {t : TA} {a : M (List Dat)} (h : SimA c W t a) : SimE c W (tTup t) (mTup a) := by
  intro as0 H0 σ δ μ0 st0 env0 Q w0
  refine h as0 H0 σ δ μ0 st0 env0 _ ((want_bind (R1 := RelAll c) w0).imp ?_)
  rintro vs H ⟨as, μ, ds, e0, st, r, w⟩
  have env := env0.mono e0
  by_cases hz : ds.length ≤ sizeLine
  · rw [if_pos hz] at w
    exact ⟨by rw [r.length]; exact hz, fun p hp => w _ as _ (ext_new hp) (st.tup hp) (.tup upd_same (r.mono (ext_new hp)))⟩
  · rw [if_neg hz] at w
    exact w.elim
def allocR (x : Cell) (μ : Store) : Res Dat := .ok (.cell μ.length) (μ ++ [x])
def mLst (a : M (List Dat)) : M Dat := fun δ μ => (a δ μ).bind fun ds μ1 => if ds.length ≤ sizeLine then allocR (.lst ds) μ1 else .stuck
theorem sim_lst {t : TA} {a : M (List Dat)} (h : SimA c W t a) : SimE c W (tLst t) (mLst a) := by
  intro as0 H0 σ δ μ0 st0 env0 Q w0
  refine h as0 H0 σ δ μ0 st0 env0 _ ((want_bind (R1 := RelAll c) w0).imp ?_)
  rintro vs H ⟨as, μ, ds, e0, st, r, w⟩
  have env := env0.mono e0
  by_cases hz : ds.length ≤ sizeLine
  · rw [if_pos hz] at w
    exact ⟨by rw [r.length]; exact hz, fun p hp => w _ _ _ (ext_alloc hp) (st.alloc hp ⟨vs, upd_same, r.mono (ext_alloc hp)⟩) (rel_alloc st)⟩
  · rw [if_neg hz] at w
    exact w.elim
def mDNew : M Dat := fun _ μ => allocR (.dict []) μ
theorem sim_dnew : SimE c W tDNewK mDNew := fun as H σ δ μ st env Q w => fun p hp => w _ _ _ (ext_alloc hp) (st.alloc hp ⟨[], upd_same, .nil⟩) (rel_alloc st)
/-- a key -/
def keyD : Dat → Option Key
  | .int i => some (.inl i)
  | .str s => some (.inr s)
  | _ => none
theorem keyD_of {v : V} {d : Dat} {k : Key} (r : Rel c as H v d) (h : keyD d = some k) : v = kV k := by
  cases r <;> first | (cases h; rfl) | cases h
def lookD (kvs : List (Key × Dat)) (k : Key) : Option Dat := (kvs.find? fun kv => decide (kv.1 = k)).map (·.2)
def putD (kvs : List (Key × Dat)) (k : Key) (v : Dat) : List (Key × Dat) :=
  if (kvs.any fun kv => decide (kv.1 = k)) = true then kvs.map (fun kv => if kv.1 = k then (kv.1, v) else kv) else kvs ++ [(k, v)]
def mergeD (kvs more : List (Key × Dat)) : List (Key × Dat) := more.foldl (fun acc kv => putD acc kv.1 kv.2) kvs
theorem RelKV.any {ps : List (Key × V)} {kvs : List (Key × Dat)} (r : RelKV c as H ps kvs) (k : Key) : (ps.any fun kv => decide (kv.1 = k)) = kvs.any fun kv => decide (kv.1 = k) := by
  induction r with
  | nil => rfl
  | cons h t ih => rw [List.any_cons, List.any_cons, h.1, ih]
theorem RelKV.look {ps : List (Key × V)} {kvs : List (Key × Dat)} (r : RelKV c as H ps kvs) {k : Key} {d : Dat} (h : lookD kvs k = some d) : ∃ v, valV ps k = some v ∧ Rel c as H v d := by
  induction r with
  | nil => cases h
  | @cons p q ps qs h1 t ih =>
    unfold lookD at h
    rw [List.find?_cons] at h
    by_cases e : q.1 = k
    · rw [decide_eq_true e] at h
      cases h
      exact ⟨p.2, valV_pos (h1.1.trans e), h1.2⟩
    · rw [decide_eq_false e] at h
      obtain ⟨v, h2, h3⟩ := ih h
      exact ⟨v, by rw [valV_neg (by rw [h1.1]; exact e)]; exact h2, h3⟩
theorem RelKV.lookN {ps : List (Key × V)} {kvs : List (Key × Dat)} (r : RelKV c as H ps kvs) {k : Key} (h : lookD kvs k = none) : valV ps k = none := by
  induction r with
  | nil => rfl
  | @cons p q ps qs h1 t ih =>
    unfold lookD at h
    rw [List.find?_cons] at h
    by_cases e : q.1 = k
    · rw [decide_eq_true e] at h
      cases h
    · rw [decide_eq_false e] at h
      rw [valV_neg (by rw [h1.1]; exact e)]
      exact ih h
theorem Paired.append_ {α β : Type} {F : α → β → Prop} : ∀ {l l' : List α} {m m' : List β}, Paired F l m → Paired F l' m' → Paired F (l ++ l') (m ++ m')
  | _, _, _, _, .nil, s => s
  | _, _, _, _, .cons r t, s => .cons r (Paired.append_ t s)
theorem RelKV.put {ps : List (Key × V)} {kvs : List (Key × Dat)} (r : RelKV c as H ps kvs) {k : Key} {v : V} {d : Dat} (h : Rel c as H v d) : RelKV c as H (putK ps k v) (putD kvs k d) := by
  unfold putK putD
  rw [r.any k]
  by_cases e : (kvs.any fun kv => decide (kv.1 = k)) = true
  · rw [if_pos e, if_pos e]
    clear e
    induction r with
    | nil => exact .nil
    | @cons p q ps qs h1 t ih =>
      refine .cons ?_ ih
      show (if p.1 = k then (p.1, v) else p).1 = (if q.1 = k then (q.1, d) else q).1 ∧ Rel c as H (if p.1 = k then (p.1, v) else p).2 (if q.1 = k then (q.1, d) else q).2
      by_cases z : q.1 = k
      · rw [if_pos (h1.1.trans z), if_pos z]
        exact ⟨h1.1, h⟩
      · rw [if_neg (show ¬ p.1 = k by rw [h1.1]; exact z), if_neg z]
        exact h1
  · rw [if_neg e, if_neg e]
    exact Paired.append_ r (.cons ⟨rfl, h⟩ .nil)
theorem RelKV.merge : ∀ {more : List (Key × V)} {mD : List (Key × Dat)} {ps : List (Key × V)} {kvs : List (Key × Dat)}, RelKV c as H more mD → RelKV c as H ps kvs → RelKV c as H (mergeK ps more) (mergeD kvs mD)
  | _, _, _, _, .nil, r => r
  | _, _, ps, kvs, @Paired.cons _ _ _ p q _ _ h t, r => by
    have z := RelKV.merge t (RelKV.put r (k := p.1) h.2)
    show RelKV c as H (mergeK (putK ps p.1 p.2) _) (mergeD (putD kvs q.1 q.2) _)
    rw [← h.1]
    exact z
theorem RelKV.length {ps : List (Key × V)} {kvs : List (Key × Dat)} (r : RelKV c as H ps kvs) : ps.length = kvs.length := Paired.length r
def mPairs : List (M Dat × M Dat) → M (List (Key × Dat))
  | [] => fun _ μ => .ok [] μ
  | (a, b) :: r => fun δ μ => (a δ μ).bind fun x μ1 => (b δ μ1).bind fun y μ2 => (mPairs r δ μ2).bind fun kvs μ3 => match keyD x with
    | some k => .ok ((k, y) :: kvs) μ3
    | none => .stuck
def RelPs (c : Cfg) (as : List Addr) (H : Hp) (ps : List (V × V)) (kvs : List (Key × Dat)) : Prop := ∃ qs : List (Key × V), ps = qs.map (fun kv => (kV kv.1, kv.2)) ∧ RelKV c as H qs kvs
def SimPs (c : Cfg) (W : WX) (trs : List (TE × TE)) (ms : List (M Dat × M Dat)) : Prop := Sim c W (RelPs c) (tPairs trs) (mPairs ms)
theorem simp_nil : SimPs c W [] [] := fun as H σ δ μ st env Q w => w [] as H .refl st ⟨[], rfl, .nil⟩
theorem simp_cons {tk tv : TE} {trs : List (TE × TE)} {a b : M Dat} {ms : List (M Dat × M Dat)} (ha : SimE c W tk a) (hb : SimE c W tv b) (hr : SimPs c W trs ms) : SimPs c W ((tk, tv) :: trs) ((a, b) :: ms) := by
  intro as H σ δ μ st env Q w
  refine ha as H σ δ μ st env _ ((want_bind (R1 := Rel c) w).imp ?_)
  rintro v H1 ⟨as1, μ1, x, e, s1, rx, w1⟩
  refine hb as1 H1 σ δ μ1 s1 (env.mono e) _ ((want_bind (R1 := Rel c) w1).imp ?_)
  rintro u H2 ⟨as2, μ2, y, e2, s2, ry, w2⟩
  refine hr as2 H2 σ δ μ2 s2 ((env.mono e).mono e2) _ ((want_bind (R1 := RelPs c) w2).imp ?_)
  rintro ps H3 ⟨as3, μ3, kvs, e3, s3, ⟨qs, eq, rq⟩, w3⟩
  split at w3
  · rename_i k hk
    have ev := keyD_of rx hk
    subst ev
    refine w3 _ as3 H3 .refl s3 ⟨(k, u) :: qs, ?_, .cons ⟨rfl, ry.mono e3⟩ rq⟩
    rw [List.map_cons, eq]
  · exact w3.elim
def mDisp (ms : List (M Dat × M Dat)) : M Dat := fun δ μ => (mPairs ms δ (μ ++ [.dict []])).bind fun kvs μ1 => match μ1[μ.length]? with
  | some (.dict []) => if kvs.length ≤ 15 then .ok (.cell μ.length) (μ1.set μ.length (.dict (mergeD [] kvs))) else .stuck
  | _ => .stuck
theorem sim_disp {trs : List (TE × TE)} {ms : List (M Dat × M Dat)} (h : SimPs c W trs ms) : SimE c W (tDisp trs) (mDisp ms) := by
  intro as H σ δ μ st env Q w p hp
  have s0 := st.alloc (o := .dK []) (x := .dict []) hp ⟨[], upd_same, .nil⟩
  have e0 : Ext as H (as ++ [p]) (upd H p (.dK [])) := ext_alloc hp
  have a0 : (as ++ [p])[μ.length]? = some p := by rw [← st.len, List.getElem?_concat_length]
  refine h _ _ σ δ _ s0 (env.mono e0) _ ((want_bind (R1 := RelPs c) (Want.mono e0 w)).imp ?_)
  rintro ps H2 ⟨as2, μ2, kvs, e2, s2, ⟨qs, eq, rq⟩, w2⟩
  split at w2
  · rename_i hk
    have ha := e2.pre _ _ a0
    obtain ⟨xs, h1, h2⟩ := s2.cell_at hk ha
    have hx : xs = [] := by cases h2; rfl
    subst hx
    by_cases hl : kvs.length ≤ 15
    · rw [if_pos hl] at w2
      have ee := ext_set (o := .dK (mergeK [] qs)) s2 hk ha
      refine ⟨h1, qs, eq, by rw [rq.length]; exact hl, ?_⟩
      exact w2 _ as2 _ ee (s2.set hk ha ⟨_, upd_same, RelKV.merge (rq.mono ee) .nil⟩) (.cell ha)
    · rw [if_neg hl] at w2
      exact w2.elim
  · exact w2.elim
/-! ### dicts read and written -/
def mDGet (a b : M Dat) : M Dat := fun δ μ => (a δ μ).bind fun x μ1 => (b δ μ1).bind fun y μ2 => match x, keyD y with
  | .cell k, some q => match μ2[k]? with
    | some (.dict kvs) => match lookD kvs q with
      | some d => .ok d μ2
      | none => .stuck
    | _ => .stuck
  | _, _ => .stuck
theorem sim_dget {td ty : TE} {a b : M Dat} (ha : SimE c W td a) (hb : SimE c W ty b) : SimE c W (tDGet td ty) (mDGet a b) := by
  intro as H σ δ μ st env Q w
  refine ha as H σ δ μ st env _ ((want_bind (R1 := Rel c) w).imp ?_)
  rintro v H1 ⟨as1, μ1, x, e, s1, rx, w1⟩
  refine hb as1 H1 σ δ μ1 s1 (env.mono e) _ ((want_bind (R1 := Rel c) w1).imp ?_)
  rintro u H2 ⟨as2, μ2, y, e2, s2, ry, w2⟩
  split at w2
  · rename_i k q hq
    split at w2
    · rename_i kvs hk
      split at w2
      · rename_i d hd
        have rx2 := rx.mono e2
        cases rx2 with
        | cell ha2 =>
          obtain ⟨ps, h1, h2⟩ := s2.cell_at hk ha2
          obtain ⟨v', h3, h4⟩ := h2.look hd
          have ev := keyD_of ry hq
          subst ev
          refine ⟨_, v', rfl, ?_, w2 _ as2 H2 .refl s2 h4⟩
          rw [← h3]
          exact DGet.k h1
      · exact w2.elim
    · exact w2.elim
  · exact w2.elim

/-! ### subscripts, slices -/
def ixD {α : Type} (xs : List α) (i : Int) : Option α := atI xs i
def lstAt (μ : Store) : Dat → Option (List Dat)
  | .cell k => match μ[k]? with
    | some (.lst ds) => some ds
    | _ => none
  | .ro ns => some (ns.map Dat.int)
  | _ => none
theorem relInts : ∀ ns : List Int, RelAll c as H (ns.map V.int) (ns.map Dat.int)
  | [] => .nil
  | n :: r => .cons (.int n) (relInts r)
theorem lstAt_of {v : V} {d : Dat} {ds : List Dat} (st : StH c as H μ) (r : Rel c as H v d) (h : lstAt μ d = some ds) : ∃ a xs, v = .ref a ∧ SqL c.K H a xs ∧ RelAll c as H xs ds := by
  unfold lstAt at h
  split at h
  · split at h
    · rename_i k ds' hk
      cases h
      cases r with
      | cell ha =>
        obtain ⟨xs, h1, h2⟩ := st.cell_at hk ha
        exact ⟨_, xs, rfl, SqL.of h1, h2⟩
    · cases h
  · cases h
    cases r with
    | ro hl => exact ⟨_, _, rfl, hl.sq, relInts _⟩
  · cases h
theorem atI_rel {vs : List V} {ds : List Dat} {i : Int} {d : Dat} (r : RelAll c as H vs ds) (h : atI ds i = some d) : ∃ v, atI vs i = some v ∧ Rel c as H v d := by
  unfold atI at h ⊢
  rw [r.length]
  cases e : ixN ds.length i with
  | none => rw [e] at h; cases h
  | some j =>
    rw [e] at h
    exact r.get h
def fIxL : F2 := fun x y μ => match lstAt μ x, y with
  | some ds, .int i => match atI ds i with
    | some d => .ok d μ
    | none => .stuck
  | _, _ => .stuck
theorem simr_ixL : SimR c (rIxL c.K) fIxL := by
  intro as H μ v w x y st rx ry σ W Q h
  unfold fIxL at h
  split at h
  · rename_i ds i hd
    split at h
    · rename_i d he
      cases ry
      obtain ⟨a, xs, rfl, h1, h2⟩ := lstAt_of st rx hd
      obtain ⟨u, h3, h4⟩ := atI_rel h2 he
      exact ⟨a, xs, i, u, rfl, rfl, h1, h3, h _ as H .refl st h4⟩
    · exact h.elim
  · exact h.elim
def fIxT : F2 := fun x y μ => match x, y with
  | .tup ds, .int i => match atI ds i with
    | some d => .ok d μ
    | none => .stuck
  | .ct ds, .int i => match atI ds i with
    | some d => .ok d μ
    | none => .stuck
  | _, _ => .stuck
theorem simr_ixT : SimR c (rIxT c.K) fIxT := by
  intro as H μ v w x y st rx ry σ W Q h
  unfold fIxT at h
  split at h
  · rename_i ds i
    split at h
    · rename_i d he
      cases ry
      cases rx with
      | tup h1 h2 =>
        obtain ⟨u, h3, h4⟩ := atI_rel h2 he
        exact ⟨_, _, i, u, rfl, rfl, h1.sq, h3, h _ as H .refl st h4⟩
    · exact h.elim
  · rename_i ds i
    split at h
    · rename_i d he
      cases ry
      cases rx with
      | ct h1 h2 =>
        obtain ⟨u, h3, h4⟩ := atI_rel h2 he
        exact ⟨_, _, i, u, rfl, rfl, h1.sq, h3, h _ as H .refl st h4⟩
    · exact h.elim
  · exact h.elim
def fIxS : F2 := fun x y μ => match x, y with
  | .str z, .int i => if z.length ≤ sizeLine then match atI z.cps.toList i with
    | some q => .ok (.str ⟨#[q]⟩) μ
    | none => .stuck else .stuck
  | _, _ => .stuck
theorem simr_ixS : SimR c rIxS fIxS := by
  intro as H μ v w x y st rx ry σ W Q h
  unfold fIxS at h
  split at h
  · rename_i z i
    split at h
    · rename_i hz
      split at h
      · rename_i q he
        cases ry
        cases rx
        exact ⟨z, i, q, rfl, rfl, hz, he, h _ as H .refl st (.str _)⟩
      · exact h.elim
    · exact h.elim
  · exact h.elim
abbrev F3 := Dat → Option Int → Option Int → Store → Res Dat
def moNone : M (Option Int) := fun _ μ => .ok none μ
def moPart (a : M Dat) : M (Option Int) := fun δ μ => (a δ μ).bind fun x μ1 => match x with
  | .int i => .ok (some i) μ1
  | _ => .stuck
abbrev SimO (c : Cfg) (W : WX) (t : TO) (m : M (Option Int)) : Prop := Sim c W (fun _ _ b d => b = d) t m
theorem sim_noPart : SimO c W tNoPart moNone := fun as H σ δ μ st env Q w => w _ as H .refl st rfl
theorem sim_part {t : TE} {a : M Dat} (h : SimE c W t a) : SimO c W (tPart t) (moPart a) := by
  intro as0 H0 σ δ μ0 st0 env0 Q w0
  refine h as0 H0 σ δ μ0 st0 env0 _ ((want_bind (R1 := Rel c) w0).imp ?_)
  rintro v H ⟨as, μ, x, e0, st, r, w⟩
  have env := env0.mono e0
  split at w
  · cases r
    exact ⟨_, rfl, w _ as H .refl st rfl⟩
  · exact w.elim
def SimSl (c : Cfg) (r : V → Option Int → Option Int → Hp → VK → Prop) (f : F3) : Prop :=
  ∀ as H μ v x lo hi, StH c as H μ → Rel c as H v x → ∀ σ W Q, Want c (Rel c) (f x lo hi μ) as H σ Q W → r v lo hi H Q
def mSl (f : F3) (a : M Dat) (l h : M (Option Int)) : M Dat := fun δ μ => (a δ μ).bind fun x μ1 => (l δ μ1).bind fun lo μ2 => (h δ μ2).bind fun hi μ3 => f x lo hi μ3
theorem sim_sl {r : V → Option Int → Option Int → Hp → VK → Prop} {f : F3} {te : TE} {tl th : TO} {a : M Dat} {l h : M (Option Int)} (hr : SimSl c r f) (ha : SimE c W te a) (hl : SimO c W tl l) (hh : SimO c W th h) : SimE c W (tSl r te tl th) (mSl f a l h) := by
  intro as H σ δ μ st env Q w
  refine ha as H σ δ μ st env _ ((want_bind (R1 := Rel c) w).imp ?_)
  rintro v H1 ⟨as1, μ1, x, e, s1, rx, w1⟩
  refine hl as1 H1 σ δ μ1 s1 (env.mono e) _ ((want_bind (R1 := fun _ _ b d => b = d) w1).imp ?_)
  rintro lo H2 ⟨as2, μ2, y, e2, s2, ry, w2⟩
  refine hh as2 H2 σ δ μ2 s2 ((env.mono e).mono e2) _ ((want_bind (R1 := fun _ _ b d => b = d) w2).imp ?_)
  rintro hi H3 ⟨as3, μ3, z, e3, s3, rz, w3⟩
  subst ry
  subst rz
  exact hr as3 H3 μ3 v x lo hi s3 (rx.mono (e2.trans e3)) σ W Q w3
def cutD {α : Type} (xs : List α) (lo hi : Option Int) : List α := (xs.drop (HT.sIx xs.length 0 lo)).take (HT.sIx xs.length xs.length hi - HT.sIx xs.length 0 lo)
theorem cut_rel {vs : List V} {ds : List Dat} (r : RelAll c as H vs ds) (lo hi : Option Int) : RelAll c as H (cutV vs lo hi) (cutD ds lo hi) := by
  unfold cutV cutD
  rw [r.length]
  exact (r.drop _).take _
def fSlS : F3 := fun x lo hi μ => match x with
  | .str z => if z.length ≤ sizeLine then .ok (.str (cutS z lo hi)) μ else .stuck
  | _ => .stuck
theorem sims_str : SimSl c rSlS fSlS := by
  intro as H μ v x lo hi st rx σ W Q h
  unfold fSlS at h
  split at h
  · split at h
    · rename_i hz
      cases rx
      exact ⟨_, rfl, hz, h _ as H .refl st (.str _)⟩
    · exact h.elim
  · exact h.elim
def fSlT : F3 := fun x lo hi μ => match x with
  | .tup ds => .ok (.tup (cutD ds lo hi)) μ
  | _ => .stuck
theorem cutD_whole {α : Type} {xs : List α} {lo hi : Option Int} (h : HT.sIx xs.length 0 lo = 0 ∧ HT.sIx xs.length xs.length hi = xs.length) : cutD xs lo hi = xs := by
  unfold cutD
  rw [h.1, h.2, List.drop_zero, Nat.sub_zero, List.take_length]
theorem sims_tup : SimSl c (rSlA c.K) fSlT := by
  intro as H μ v x lo hi st rx σ W Q h
  unfold fSlT at h
  split at h
  · cases rx with
    | @tup a xs ds h1 h2 =>
      refine ⟨a, xs, rfl, h1.sq, fun e => ?_, fun _ p hp => ?_⟩
      · rw [h2.length] at e
        rw [cutD_whole e] at h
        exact h _ as H .refl st (.tup h1 h2)
      · exact h _ as _ (ext_new hp) (st.tup hp) (.tup upd_same ((cut_rel h2 lo hi).mono (ext_new hp)))
  · exact h.elim
def fSlL : F3 := fun x lo hi μ => match lstAt μ x with
  | some ds => allocR (.lst (cutD ds lo hi)) μ
  | none => .stuck
theorem sims_lst : SimSl c (rSlL c.K) fSlL := by
  intro as H μ v x lo hi st rx σ W Q h
  unfold fSlL at h
  split at h
  · rename_i ds hd
    obtain ⟨a, xs, rfl, h1, h2⟩ := lstAt_of st rx hd
    exact ⟨a, xs, rfl, h1, fun p hp => h _ _ _ (ext_alloc hp) (st.alloc hp ⟨_, upd_same, (cut_rel h2 lo hi).mono (ext_alloc hp)⟩) (rel_alloc st)⟩
  · exact h.elim

/-! ### more operators -/
def fAddS : F2 := fun x y μ => match x, y with
  | .str i, .str j => if i.length + j.length ≤ sizeLine then .ok (.str (i ++ j)) μ else .stuck
  | _, _ => .stuck
theorem simr_addS : SimR c (fun x y H Q => ∃ i j, x = .str i ∧ y = .str j ∧ i.length + j.length ≤ sizeLine ∧ Q (.str (i ++ j)) H) fAddS := by
  intro as H μ v w x y st rx ry σ W Q h
  unfold fAddS at h
  split at h
  · split at h
    · rename_i hz
      cases rx
      cases ry
      exact ⟨_, _, rfl, rfl, hz, h _ as H .refl st (.str _)⟩
    · exact h.elim
  · exact h.elim
def fCatT : F2 := fun x y μ => match x, y with
  | .tup a, .tup b => if a.length + b.length ≤ sizeLine then .ok (.tup (a ++ b)) μ else .stuck
  | _, _ => .stuck
theorem simr_catT : SimR c (rCatA c.K) fCatT := by
  intro as H μ v w x y st rx ry σ W Q h
  unfold fCatT at h
  split at h
  · rename_i da db
    split at h
    · rename_i hz
      cases rx with
      | @tup a xs _ h1 h2 =>
        cases ry with
        | @tup b ys _ h3 h4 =>
          refine ⟨a, b, xs, ys, rfl, rfl, h1.sq, h3.sq, by rw [h2.length, h4.length]; exact hz, fun e => ?_, fun _ e => ?_, fun _ _ p hp => ?_⟩
          · subst e
            have hd : da = [] := by cases h2; rfl
            subst hd
            exact h _ as H .refl st (.tup h3 h4)
          · subst e
            have hd : db = [] := by cases h4; rfl
            subst hd
            rw [List.append_nil] at h
            exact h _ as H .refl st (.tup h1 h2)
          · exact h _ as _ (ext_new hp) (st.tup hp) (.tup upd_same ((h2.append h4).mono (ext_new hp)))
    · exact h.elim
  · exact h.elim
/-- two changeable lists joined -/
def celL (μ : Store) : Dat → Option (List Dat)
  | .cell k => match μ[k]? with
    | some (.lst ds) => some ds
    | _ => none
  | _ => none
theorem celL_of {v : V} {d : Dat} {ds : List Dat} (st : StH c as H μ) (r : Rel c as H v d) (h : celL μ d = some ds) : ∃ k a xs, d = .cell k ∧ v = .ref a ∧ μ[k]? = some (.lst ds) ∧ as[k]? = some a ∧ H a = some (.lst xs) ∧ RelAll c as H xs ds := by
  unfold celL at h
  split at h
  · split at h
    · rename_i ds' hk
      cases h
      cases r with
      | cell ha =>
        obtain ⟨xs, h1, h2⟩ := st.cell_at hk ha
        exact ⟨_, _, xs, rfl, rfl, hk, ha, h1, h2⟩
    · cases h
  · cases h
def fCat : F2 := fun x y μ => match celL μ x, celL μ y with
  | some a, some b => if a.length + b.length ≤ sizeLine then allocR (.lst (a ++ b)) μ else .stuck
  | _, _ => .stuck
theorem simr_cat : SimR c rCat fCat := by
  intro as H μ v w x y st rx ry σ W Q h
  unfold fCat at h
  split at h
  · rename_i da db ea eb
    split at h
    · rename_i hz
      obtain ⟨_, a, xs, _, rfl, _, _, h1, h2⟩ := celL_of st rx ea
      obtain ⟨_, b, ys, _, rfl, _, _, h3, h4⟩ := celL_of st ry eb
      exact ⟨a, b, xs, ys, rfl, rfl, h1, h3, by rw [h2.length, h4.length]; exact hz, fun p hp => h _ _ _ (ext_alloc hp) (st.alloc hp ⟨_, upd_same, (h2.append h4).mono (ext_alloc hp)⟩) (rel_alloc st)⟩
    · exact h.elim
  · exact h.elim
theorem RelAll.rep {vs : List V} {ds : List Dat} (r : RelAll c as H vs ds) : ∀ n : Nat, RelAll c as H (List.replicate n vs).flatten (List.replicate n ds).flatten
  | 0 => .nil
  | n + 1 => by
    rw [List.replicate_succ, List.replicate_succ, List.flatten_cons, List.flatten_cons]
    exact r.append (RelAll.rep r n)
def fRepT : F2 := fun x y μ => match x, y with
  | .tup ds, .int k => if ds.length ≠ 0 ∧ 2 ≤ k ∧ k ≤ 1000 ∧ ds.length ≤ 1000 then .ok (.tup (List.replicate k.toNat ds).flatten) μ else .stuck
  | _, _ => .stuck
theorem simr_repT : SimR c (rRepT c.K) fRepT := by
  intro as H μ v w x y st rx ry σ W Q h
  unfold fRepT at h
  split at h
  · split at h
    · rename_i hz
      cases ry
      cases rx with
      | @tup a xs ds h1 h2 =>
        have hl := h2.length
        refine ⟨a, _, xs, rfl, rfl, h1.sq, fun e => ?_, hz.2.1, hz.2.2.1, by omega, fun p hp => ?_⟩
        · subst e
          exact hz.1 (by rw [← hl]; rfl)
        · exact h _ as _ (ext_new hp) (st.tup hp) (.tup upd_same ((h2.rep _).mono (ext_new hp)))
    · exact h.elim
  · exact h.elim
end
end Nh

namespace Nh
open PySem PySem.Spec PyProof.Rows L2
section
variable {c : Cfg} {as as' : List Addr} {H H' : Hp} {σ : L2.St} {δ : Env} {μ : Store} {α β γ ε : Type} {W : WX}
/-! ### built-in calls -/
abbrev FA := List Dat → Store → Res Dat
def SimC (c : Cfg) (r : List V → Hp → VK → Prop) (f : FA) : Prop :=
  ∀ as H μ vs ds, StH c as H μ → RelAll c as H vs ds → ∀ σ W Q, Want c (Rel c) (f ds μ) as H σ Q W → r vs H Q
def mCB (f : FA) (a : M (List Dat)) : M Dat := fun δ μ => (a δ μ).bind fun ds μ1 => f ds μ1
theorem sim_cb {r : List V → Hp → VK → Prop} {f : FA} {t : TA} {a : M (List Dat)} (hr : SimC c r f) (h : SimA c W t a) : SimE c W (tCB r t) (mCB f a) := by
  intro as H σ δ μ st env Q w
  refine h as H σ δ μ st env _ ((want_bind (R1 := RelAll c) w).imp ?_)
  rintro vs H1 ⟨as1, μ1, ds, e, s1, rs, w1⟩
  exact hr as1 H1 μ1 vs ds s1 rs σ W Q w1
theorem rel1 {vs : List V} {d : Dat} (r : RelAll c as H vs [d]) : ∃ v, vs = [v] ∧ Rel c as H v d := by
  cases r with
  | cons h t => cases t; exact ⟨_, rfl, h⟩
theorem rel2 {vs : List V} {d e : Dat} (r : RelAll c as H vs [d, e]) : ∃ v w, vs = [v, w] ∧ Rel c as H v d ∧ Rel c as H w e := by
  cases r with
  | cons h t =>
    cases t with
    | cons h2 t2 => cases t2; exact ⟨_, _, rfl, h, h2⟩
def lenD (μ : Store) (d : Dat) : Option Nat := match d with
  | .str y => if y.length ≤ sizeLine then some y.length else none
  | .tup ds => some ds.length
  | .ct ds => some ds.length
  | d => (lstAt μ d).map List.length
theorem lenD_of {v : V} {d : Dat} {n : Nat} (st : StH c as H μ) (r : Rel c as H v d) (h : lenD μ d = some n) : LenV c.K v H n := by
  unfold lenD at h
  split at h
  · split at h
    · rename_i hy
      cases r
      exact ⟨hy, (Option.some.inj h).symm⟩
    · cases h
  · cases r with
    | tup h1 h2 => exact .inr ⟨_, h1.sq, by rw [h2.length]; exact (Option.some.inj h).symm⟩
  · cases r with
    | ct h1 h2 => exact .inr ⟨_, h1.sq, by rw [h2.length]; exact (Option.some.inj h).symm⟩
  · cases hd : lstAt μ d with
    | none => rw [hd] at h; cases h
    | some ds =>
      rw [hd] at h
      obtain ⟨a, xs, rfl, h1, h2⟩ := lstAt_of st r hd
      exact .inl ⟨xs, h1, by rw [h2.length]; exact (Option.some.inj h).symm⟩
def fLen : FA := fun ds μ => match ds with
  | [d] => match lenD μ d with
    | some n => .ok (.int n) μ
    | none => .stuck
  | _ => .stuck
theorem simc_len : SimC c (fun xs H Q => ∃ x n, xs = [x] ∧ LenV c.K x H n ∧ Q (.int n) H) fLen := by
  intro as H μ vs ds st rs σ W Q h
  unfold fLen at h
  split at h
  · split at h
    · rename_i n hn
      obtain ⟨v, rfl, r⟩ := rel1 rs
      exact ⟨v, n, rfl, lenD_of st r hn, h _ as H .refl st (.int _)⟩
    · exact h.elim
  · exact h.elim
def seqD (μ : Store) (d : Dat) : Option (List Dat) := match d with
  | .tup ds => some ds
  | .ct ds => some ds
  | d => lstAt μ d
theorem seqD_of {v : V} {d : Dat} {ds : List Dat} (st : StH c as H μ) (r : Rel c as H v d) (h : seqD μ d = some ds) : ∃ a xs, v = .ref a ∧ (SqL c.K H a xs ∨ SqT c.K H a xs) ∧ RelAll c as H xs ds := by
  unfold seqD at h
  split at h
  · cases h
    cases r with
    | tup h1 h2 => exact ⟨_, _, rfl, .inr h1.sq, h2⟩
  · cases h
    cases r with
    | ct h1 h2 => exact ⟨_, _, rfl, .inr h1.sq, h2⟩
  · obtain ⟨a, xs, e, h1, h2⟩ := lstAt_of st r h
    exact ⟨a, xs, e, .inl h1, h2⟩
def fLenQ : FA := fun ds μ => match ds with
  | [d] => match seqD μ d with
    | some es => .ok (.int es.length) μ
    | none => .stuck
  | _ => .stuck
theorem simc_lenQ : SimC c (fun xs H Q => ∃ p ys, xs = [.ref p] ∧ (SqL c.K H p ys ∨ SqT c.K H p ys) ∧ Q (.int ys.length) H) fLenQ := by
  intro as H μ vs ds st rs σ W Q h
  unfold fLenQ at h
  split at h
  · split at h
    · rename_i es hn
      obtain ⟨v, rfl, r⟩ := rel1 rs
      obtain ⟨a, xs, rfl, h1, h2⟩ := seqD_of st r hn
      refine ⟨a, xs, rfl, h1, ?_⟩
      rw [h2.length]
      exact h _ as H .refl st (.int _)
    · exact h.elim
  · exact h.elim
def blsD : List Dat → Option (List Bool)
  | [] => some []
  | .bl b :: r => (blsD r).map (b :: ·)
  | _ :: _ => none
theorem blsD_of : ∀ {ds : List Dat} {bs : List Bool} {vs : List V}, blsD ds = some bs → RelAll c as H vs ds → vs = bs.map V.bl
  | [], _, _, h, r => by cases h; cases r; rfl
  | .bl b :: ds, bs, _, h, r => by
    cases r with
    | cons h1 t =>
      cases h1
      unfold blsD at h
      cases e : blsD ds with
      | none => rw [e] at h; cases h
      | some q =>
        rw [e] at h
        cases h
        rw [blsD_of e t]
        rfl
  | .non :: _, _, _, h, _ => by cases h
  | .int _ :: _, _, _, h, _ => by cases h
  | .str _ :: _, _, _, h, _ => by cases h
  | .tup _ :: _, _, _, h, _ => by cases h
  | .cell _ :: _, _, _, h, _ => by cases h
  | .ro _ :: _, _, _, h, _ => by cases h
  | .ty _ :: _, _, _, h, _ => by cases h
  | .cls _ :: _, _, _, h, _ => by cases h
  | .ct _ :: _, _, _, h, _ => by cases h
def fAll : FA := fun ds μ => match ds with
  | [d] => match (lstAt μ d).bind blsD with
    | some bs => .ok (.bl (bs.all id)) μ
    | none => .stuck
  | _ => .stuck
def fAny : FA := fun ds μ => match ds with
  | [d] => match (lstAt μ d).bind blsD with
    | some bs => .ok (.bl (bs.any id)) μ
    | none => .stuck
  | _ => .stuck
theorem simc_all : SimC c (rAll c.K) fAll := by
  intro as H μ vs ds st rs σ W Q h
  unfold fAll at h
  split at h
  · rename_i d
    split at h
    · rename_i bs hb
      obtain ⟨v, rfl, r⟩ := rel1 rs
      cases hd : lstAt μ d with
      | none => rw [hd] at hb; cases hb
      | some es =>
        rw [hd] at hb
        obtain ⟨a, xs, rfl, h1, h2⟩ := lstAt_of st r hd
        have e := blsD_of hb h2
        subst e
        exact ⟨a, bs, rfl, h1, h _ as H .refl st (.bl _)⟩
    · exact h.elim
  · exact h.elim
theorem simc_any : SimC c (rAny c.K) fAny := by
  intro as H μ vs ds st rs σ W Q h
  unfold fAny at h
  split at h
  · rename_i d
    split at h
    · rename_i bs hb
      obtain ⟨v, rfl, r⟩ := rel1 rs
      cases hd : lstAt μ d with
      | none => rw [hd] at hb; cases hb
      | some es =>
        rw [hd] at hb
        obtain ⟨a, xs, rfl, h1, h2⟩ := lstAt_of st r hd
        have e := blsD_of hb h2
        subst e
        exact ⟨a, bs, rfl, h1, h _ as H .refl st (.bl _)⟩
    · exact h.elim
  · exact h.elim
/-- the built-in type of a datum -/
def kindD (μ : Store) : Dat → Option String
  | .non => some "NoneType"
  | .bl _ => some "bool"
  | .int _ => some "int"
  | .str _ => some "str"
  | .tup _ => some "tuple"
  | .ct _ => some "tuple"
  | .ro _ => some "list"
  | .cell k => match μ[k]? with
    | some (.lst _) => some "list"
    | some (.dict _) => some "dict"
    | _ => none
  | _ => none
theorem kindD_of {v : V} {d : Dat} {n : String} (st : StH c as H μ) (r : Rel c as H v d) (h : kindD μ d = some n) : TyX c.K H v (.type n) := by
  cases r with
  | non => cases h; exact .base .non
  | bl b => cases h; exact .base (.bl b)
  | int i => cases h; exact .base (.int i)
  | str y => cases h; exact .base (.str y)
  | tup h1 h2 =>
    cases h
    exact .base (.tup h1)
  | ct h1 h2 =>
    cases h
    rcases h1 with ⟨_, o, h1, h3, _⟩ | ⟨o, h1, _⟩
    · exact .kTuple h1 h3
    · exact .fTuple h1
  | ro h1 =>
    cases h
    rcases h1 with ⟨o, h1⟩ | ⟨_, o, h1, h3⟩
    · exact .base (.frz h1)
    · exact .kList h1 h3
  | @cell k a ha =>
    dsimp only [kindD] at h
    split at h
    · rename_i ds hk
      cases h
      obtain ⟨xs, h1, h2⟩ := st.cell_at hk ha
      exact .base (.lst h1)
    · rename_i kvs hk
      cases h
      obtain ⟨xs, h1, h2⟩ := st.cell_at hk ha
      exact .base (.dK h1)
    · cases h
  | ty n => cases h
  | cls n => cases h
def fIsi : FA := fun ds μ => match ds with
  | [d, .ty n] => match (kindD μ d).bind fun k => kitB k n with
    | some b => .ok (.bl b) μ
    | none => .stuck
  | _ => .stuck
theorem simc_isi : SimC c (rIsi c.K) fIsi := by
  intro as H μ vs ds st rs σ W Q h
  unfold fIsi at h
  split at h
  · rename_i d n
    split at h
    · rename_i b hb
      obtain ⟨v, w, rfl, r, rn⟩ := rel2 rs
      cases rn
      cases hd : kindD μ d with
      | none => rw [hd] at hb; cases hb
      | some kd =>
        rw [hd] at hb
        exact ⟨v, .ty n, .type kd, .type n, b, rfl, .ty n, kindD_of st r hd, kit_ty hb, h _ as H .refl st (.bl _)⟩
    · exact h.elim
  · exact h.elim
def fMax2 : FA := fun ds μ => match ds with
  | [.int i, .int j] => .ok (.int (if j > i then j else i)) μ
  | _ => .stuck
theorem simc_max2 : SimC c (fun xs H Q => ∃ i j, xs = [.int i, .int j] ∧ Q (.int (if j > i then j else i)) H) fMax2 := by
  intro as H μ vs ds st rs σ W Q h
  unfold fMax2 at h
  split at h
  · obtain ⟨v, w, rfl, r, rn⟩ := rel2 rs
    cases r
    cases rn
    exact ⟨_, _, rfl, h _ as H .refl st (.int _)⟩
  · exact h.elim
def fMin2 : FA := fun ds μ => match ds with
  | [.int i, .int j] => .ok (.int (if j < i then j else i)) μ
  | _ => .stuck
theorem simc_min2 : SimC c (fun xs H Q => ∃ i j, xs = [.int i, .int j] ∧ Q (.int (if j < i then j else i)) H) fMin2 := by
  intro as H μ vs ds st rs σ W Q h
  unfold fMin2 at h
  split at h
  · obtain ⟨v, w, rfl, r, rn⟩ := rel2 rs
    cases r
    cases rn
    exact ⟨_, _, rfl, h _ as H .refl st (.int _)⟩
  · exact h.elim
def fInt1 : FA := fun ds μ => match ds with
  | [.int i] => .ok (.int i) μ
  | [.bl b] => .ok (.int (if b then 1 else 0)) μ
  | _ => .stuck
theorem simc_int1 : SimC c (fun xs H Q => (∃ i, xs = [.int i] ∧ Q (.int i) H) ∨ ∃ k, xs = [.bl k] ∧ Q (.int (if k then 1 else 0)) H) fInt1 := by
  intro as H μ vs ds st rs σ W Q h
  unfold fInt1 at h
  split at h
  · obtain ⟨v, rfl, r⟩ := rel1 rs
    cases r
    exact .inl ⟨_, rfl, h _ as H .refl st (.int _)⟩
  · obtain ⟨v, rfl, r⟩ := rel1 rs
    cases r
    exact .inr ⟨_, rfl, h _ as H .refl st (.int _)⟩
  · exact h.elim
def fTupleOf : FA := fun ds μ => match ds with
  | [.ct es] => .ok (.ct es) μ
  | [d] => match seqD μ d with
    | some es => .ok (.tup es) μ
    | none => .stuck
  | _ => .stuck
theorem simc_tupleOf : SimC c (fun xs H Q => ∃ p ys, xs = [.ref p] ∧ ((SqL c.K H p ys ∧ ∀ l, H l = none → Q (.ref l) (upd H l (.tup ys))) ∨ (SqT c.K H p ys ∧ Q (.ref p) H))) fTupleOf := by
  intro as H μ vs ds st rs σ W Q h
  unfold fTupleOf at h
  split at h
  · obtain ⟨v, rfl, r⟩ := rel1 rs
    cases r with
    | ct h1 h2 => exact ⟨_, _, rfl, .inr ⟨h1.sq, h _ as H .refl st (.ct h1 h2)⟩⟩
  · rename_i d hne
    split at h
    · rename_i es he
      obtain ⟨v, rfl, r⟩ := rel1 rs
      unfold seqD at he
      split at he
      · cases he
        cases r with
        | tup h1 h2 => exact ⟨_, _, rfl, .inr ⟨h1.sq, h _ as H .refl st (.tup h1 h2)⟩⟩
      · exact (hne _ rfl).elim
      · obtain ⟨a, xs, rfl, h1, h2⟩ := lstAt_of st r he
        exact ⟨a, xs, rfl, .inl ⟨h1, fun p hp => h _ as _ (ext_new hp) (st.tup hp) (.tup upd_same (h2.mono (ext_new hp)))⟩⟩
    · exact h.elim
  · exact h.elim
def fListOf : FA := fun ds μ => match ds with
  | [d] => match seqD μ d with
    | some es => allocR (.lst es) μ
    | none => .stuck
  | _ => .stuck
theorem simc_listOf : SimC c (fun xs H Q => ∃ p ys, xs = [.ref p] ∧ (SqL c.K H p ys ∨ SqT c.K H p ys) ∧ ∀ l, H l = none → Q (.ref l) (upd H l (.lst ys))) fListOf := by
  intro as H μ vs ds st rs σ W Q h
  unfold fListOf at h
  split at h
  · split at h
    · rename_i es he
      obtain ⟨v, rfl, r⟩ := rel1 rs
      obtain ⟨a, xs, rfl, h1, h2⟩ := seqD_of st r he
      exact ⟨a, xs, rfl, h1, fun p hp => h _ _ _ (ext_alloc hp) (st.alloc hp ⟨_, upd_same, h2.mono (ext_alloc hp)⟩) (rel_alloc st)⟩
    · exact h.elim
  · exact h.elim
/-! ### methods of texts -/
def SimM1 (c : Cfg) (r : V → List V → Hp → VK → Prop) (f : F2) : Prop :=
  ∀ as H μ z w y, StH c as H μ → Rel c as H w y → ∀ σ W Q, Want c (Rel c) (f (.str z) y μ) as H σ Q W → r (.str z) [w] H Q
def mM1 (f : F2) (a b : M Dat) : M Dat := fun δ μ => (a δ μ).bind fun x μ1 => match x with
  | .str z => (b δ μ1).bind fun y μ2 => f (.str z) y μ2
  | _ => .stuck
theorem sim_m1 {r : V → List V → Hp → VK → Prop} {f : F2} {ta tb : TE} {a b : M Dat} (hr : SimM1 c r f) (ha : SimE c W ta a) (hb : SimE c W tb b) : SimE c W (tM1 r ta tb) (mM1 f a b) := by
  intro as H σ δ μ st env Q w
  refine ha as H σ δ μ st env _ ((want_bind (R1 := Rel c) w).imp ?_)
  rintro v H1 ⟨as1, μ1, x, e, s1, rx, w1⟩
  split at w1
  · cases rx
    refine ⟨⟨_, rfl⟩, hb as1 H1 σ δ μ1 s1 (env.mono e) _ ((want_bind (R1 := Rel c) w1).imp ?_)⟩
    rintro u H2 ⟨as2, μ2, y, e2, s2, ry, w2⟩
    exact hr as2 H2 μ2 _ u y s2 ry σ W Q w2
  · exact w1.elim
def fEndswith : F2 := fun x y μ => match x, y with
  | .str a, .str b => .ok (.bl (Txt.endswith a b)) μ
  | _, _ => .stuck
theorem simm_endswith : SimM1 c (fun x xs H Q => ∃ a b, x = .str a ∧ xs = [.str b] ∧ Q (.bl (Txt.endswith a b)) H) fEndswith := by
  intro as H μ z w y st ry σ W Q h
  cases ry with
  | str b => exact ⟨_, _, rfl, rfl, h _ as H .refl st (.bl _)⟩
  | _ => exact False.elim h
theorem relStrs : ∀ ys : List Str, RelAll c as H (ys.map V.str) (ys.map Dat.str)
  | [] => .nil
  | y :: r => .cons (.str y) (relStrs r)
def fSplit : F2 := fun x y μ => match x, y with
  | .str a, .str b => if (b.length == 0) = false ∧ a.length + 2 ≤ sizeLine then allocR (.lst ((Txt.split a b).map Dat.str)) μ else .stuck
  | _, _ => .stuck
theorem simm_split : SimM1 c (fun x xs H Q => ∃ a b, x = .str a ∧ xs = [.str b] ∧ (b.length == 0) = false ∧ a.length + 2 ≤ sizeLine ∧ rNewStrs (Txt.split a b) H Q) fSplit := by
  intro as H μ z w y st ry σ W Q h
  cases ry with
  | str b =>
    dsimp only [fSplit] at h
    split at h
    · rename_i hz
      exact ⟨_, _, rfl, rfl, hz.1, hz.2, fun p hp => h _ _ _ (ext_alloc hp) (st.alloc hp ⟨_, upd_same, relStrs _⟩) (rel_alloc st)⟩
    · exact h.elim
  | _ => exact False.elim h
def strsD : List Dat → Option (List Str)
  | [] => some []
  | .str s :: r => (strsD r).map (s :: ·)
  | _ :: _ => none
theorem strsD_of : ∀ {ds : List Dat} {bs : List Str} {vs : List V}, strsD ds = some bs → RelAll c as H vs ds → vs = bs.map V.str
  | [], _, _, h, r => by cases h; cases r; rfl
  | .str b :: ds, bs, _, h, r => by
    cases r with
    | cons h1 t =>
      cases h1
      unfold strsD at h
      cases e : strsD ds with
      | none => rw [e] at h; cases h
      | some q =>
        rw [e] at h
        cases h
        rw [strsD_of e t]
        rfl
  | .non :: _, _, _, h, _ => by cases h
  | .int _ :: _, _, _, h, _ => by cases h
  | .bl _ :: _, _, _, h, _ => by cases h
  | .tup _ :: _, _, _, h, _ => by cases h
  | .cell _ :: _, _, _, h, _ => by cases h
  | .ro _ :: _, _, _, h, _ => by cases h
  | .ty _ :: _, _, _, h, _ => by cases h
  | .cls _ :: _, _, _, h, _ => by cases h
  | .ct _ :: _, _, _, h, _ => by cases h
def fJoin : F2 := fun x y μ => match x, (seqD μ y).bind strsD with
  | .str a, some ys => if (ys.map (·.length)).sum + ys.length * a.length ≤ 16777216 then .ok (.str (Txt.join a ys)) μ else .stuck
  | _, _ => .stuck
theorem simm_join : SimM1 c (fun x xs H Q => ∃ a p, ∃ ys : List Str, x = .str a ∧ xs = [.ref p] ∧ (SqL c.K H p (ys.map V.str) ∨ SqT c.K H p (ys.map V.str)) ∧
    (ys.map (·.length)).sum + ys.length * a.length ≤ 16777216 ∧ Q (.str (Txt.join a ys)) H) fJoin := by
  intro as H μ z w y st ry σ W Q h
  unfold fJoin at h
  split at h
  · rename_i a ys e hy
    cases e
    split at h
    · rename_i hz
      cases hd : seqD μ y with
      | none => rw [hd] at hy; cases hy
      | some es =>
        rw [hd] at hy
        obtain ⟨a, xs, rfl, h1, h2⟩ := seqD_of st ry hd
        have e := strsD_of hy h2
        subst e
        exact ⟨_, a, ys, rfl, rfl, h1, hz, h _ as H .refl st (.str _)⟩
    · exact h.elim
  · exact h.elim
/-! ### methods of lists -/
def SimBM (c : Cfg) (r : V → List V → Hp → VK → Prop) (f : Dat → FA) : Prop :=
  ∀ as H μ v x vs ds, StH c as H μ → Rel c as H v x → RelAll c as H vs ds → ∀ σ W Q, Want c (Rel c) (f x ds μ) as H σ Q W → r v vs H Q
def mBM (f : Dat → FA) (a : M Dat) (b : M (List Dat)) : M Dat := fun δ μ => (a δ μ).bind fun x μ1 => if (lstAt μ1 x).isSome = true then (b δ μ1).bind fun ds μ2 => f x ds μ2 else .stuck
theorem sim_bm {r : V → List V → Hp → VK → Prop} {f : Dat → FA} {to : TE} {t : TA} {a : M Dat} {b : M (List Dat)} (hr : SimBM c r f) (ha : SimE c W to a) (hb : SimA c W t b) : SimE c W (tBM c.K "list" r to t) (mBM f a b) := by
  intro as H σ δ μ st env Q w
  refine ha as H σ δ μ st env _ ((want_bind (R1 := Rel c) w).imp ?_)
  rintro v H1 ⟨as1, μ1, x, e, s1, rx, w1⟩
  split at w1
  · rename_i hs
    obtain ⟨ds, hd⟩ := Option.isSome_iff_exists.mp hs
    obtain ⟨p, xs, rfl, h1, _⟩ := lstAt_of s1 rx hd
    refine ⟨.inl ⟨rfl, xs, h1⟩, hb as1 H1 σ δ μ1 s1 (env.mono e) _ ((want_bind (R1 := RelAll c) w1).imp ?_)⟩
    rintro us H2 ⟨as2, μ2, es, e2, s2, rs, w2⟩
    exact hr as2 H2 μ2 _ x us es s2 (rx.mono e2) rs σ W Q w2
  · exact w1.elim
def fAppend : Dat → FA := fun x ds μ => match x, ds with
  | .cell k, [y] => match μ[k]? with
    | some (.lst es) => if es.length < sizeLine then .ok .non (μ.set k (.lst (es ++ [y]))) else .stuck
    | _ => .stuck
  | _, _ => .stuck
theorem simb_append : SimBM c rAppend fAppend := by
  intro as H μ v x vs ds st rx rs σ W Q h
  unfold fAppend at h
  split at h
  · split at h
    · rename_i k y es hk
      split at h
      · rename_i hz
        obtain ⟨u, rfl, ru⟩ := rel1 rs
        cases rx with
        | @cell _ a ha =>
          obtain ⟨xs, h1, h2⟩ := st.cell_at hk ha
          have ee := ext_set (o := .lst (xs ++ [u])) st hk ha
          exact ⟨a, xs, u, rfl, rfl, h1, by rw [h2.length]; exact hz, h _ as _ ee (st.set hk ha ⟨_, upd_same, (h2.append (.cons ru .nil)).mono ee⟩) .non⟩
      · exact h.elim
    · exact h.elim
  · exact h.elim

/-! ### calls of the program's own defs -/
def spM (c : Cfg) (n : Nat) (f : FA) : Sp := fun vs H Q E => vs.length = n ∧ ∃ as μ ds, StH c as H μ ∧ RelAll c as H vs ds ∧ Want c (Rel c) (f ds μ) as H [] Q (fun cls d _ H => E cls d H)
def mCall (n : Nat) (f : FA) (a : M (List Dat)) : M Dat := fun δ μ => (a δ μ).bind fun ds μ1 => if ds.length = n then f ds μ1 else .stuck
theorem sim_call {n : Nat} {f : FA} {E : XK} {t : TA} {a : M (List Dat)} (hW : ∀ cls σ H, E cls none H → W cls none σ H) (h : SimA c W t a) (hE : ∀ k μ', (∀ ds μ, f ds μ ≠ .raise k μ') ∨ ∀ σ cls H, W cls none σ H → E cls none H) :
    SimE c W (tCall (spM c n f) [] E t) (mCall n f a) := by
  intro as H σ δ μ st env Q w
  refine h as H σ δ μ st env _ ((want_bind (R1 := RelAll c) w).imp ?_)
  rintro vs H1 ⟨as1, μ1, ds, e, s1, rs, w1⟩
  split at w1
  · rename_i hl
    rw [List.append_nil]
    refine ⟨by rw [rs.length]; exact hl, as1, μ1, ds, s1, rs, ?_⟩
    cases hf : f ds μ1 with
    | ok x μ' => rw [hf] at w1; exact w1
    | raise k μ' =>
      rw [hf] at w1
      rcases hE k μ' with z | z
      · exact (z ds μ1 hf).elim
      · exact fun a' H' e' s' => z σ _ _ (w1 a' H' e' s')
    | stuck => rw [hf] at w1; exact w1
  · exact w1.elim
/-- a function that raises nothing: a raise counts as no answer -/
def nr (f : FA) : FA := fun ds μ => match f ds μ with
  | .raise _ _ => .stuck
  | r => r
theorem nr_ne (f : FA) (ds : List Dat) (μ : Store) (k : Nat) (μ' : Store) : nr f ds μ ≠ .raise k μ' := by
  unfold nr
  split
  · exact fun h => nomatch h
  · rename_i h
    exact fun e => h k μ' e
theorem sim_call0 {n : Nat} {f : FA} {t : TA} {a : M (List Dat)} (h : SimA c W t a) : SimE c W (tCall (spM c n (nr f)) [] E0 t) (mCall n (nr f) a) :=
  sim_call (fun _ _ _ z => z.elim) h fun k μ' => .inl fun ds μ => nr_ne f ds μ k μ'
theorem sim_callE {n : Nat} {f : FA} {E : XK} {t : TA} {a : M (List Dat)} (h : SimA c (fun cls d _ H => E cls d H) t a) : SimE c (fun cls d _ H => E cls d H) (tCall (spM c n f) [] E t) (mCall n f a) :=
  sim_call (fun _ _ _ z => z) h fun _ _ => .inr fun _ _ _ z => z
/-- a call within a try's body: what is raised is wished for at the slots -/
theorem sim_callS {n : Nat} {f : FA} {t : TA} {a : M (List Dat)} (h : SimA c W t a) : SimE c W (tCallS (spM c n f) (WE W) t) (mCall n f a) := by
  intro as H σ δ μ st env Q w
  refine h as H σ δ μ st env _ ((want_bind (R1 := RelAll c) w).imp ?_)
  rintro vs H1 ⟨as1, μ1, ds, e, s1, rs, w1⟩
  split at w1
  · rename_i hl
    refine ⟨by rw [rs.length]; exact hl, as1, μ1, ds, s1, rs, ?_⟩
    cases hf : f ds μ1 with
    | ok x μ' => rw [hf] at w1; exact w1
    | raise k μ' => rw [hf] at w1; exact w1
    | stuck => rw [hf] at w1; exact w1
  · exact w1.elim
end
end Nh

namespace Nh
open PySem PySem.Spec PyProof.Rows L2
section
variable {c : Cfg} {as as' : List Addr} {H H' : Hp} {σ : L2.St} {δ : Env} {μ : Store} {α β γ ε : Type} {W : WX}
/-! ### in -/
def fInSign : F2 := fun x y μ => match x, y with
  | .str s, .str z => match s.cps.toList with
    | [q] => .ok (.bl (decide (q ∈ z.cps.toList))) μ
    | _ => .stuck
  | _, _ => .stuck
def fNotInSign : F2 := fun x y μ => match x, y with
  | .str s, .str z => match s.cps.toList with
    | [q] => .ok (.bl (!decide (q ∈ z.cps.toList))) μ
    | _ => .stuck
  | _, _ => .stuck
theorem str_one {s : Str} {q : Nat} (h : s.cps.toList = [q]) : s = ⟨#[q]⟩ := by
  obtain ⟨a⟩ := s
  have e : a = [q].toArray := by
    rw [← Array.toArray_toList (xs := a)]
    exact congrArg List.toArray h
  rw [e]
theorem simr_inSign : SimR c (fun x y H Q => ∃ (c : Nat) (z : Str), x = .str ⟨#[c]⟩ ∧ y = .str z ∧ Q (.bl (decide (c ∈ z.cps.toList))) H) fInSign := by
  intro as H μ v w x y st rx ry σ W Q h
  unfold fInSign at h
  split at h
  · split at h
    · rename_i hq
      cases rx
      cases ry
      rw [str_one hq]
      exact ⟨_, _, rfl, rfl, h _ as H .refl st (.bl _)⟩
    · exact h.elim
  · exact h.elim
theorem simr_notInSign : SimR c (fun x y H Q => ∃ (c : Nat) (z : Str), x = .str ⟨#[c]⟩ ∧ y = .str z ∧ Q (.bl (!decide (c ∈ z.cps.toList))) H) fNotInSign := by
  intro as H μ v w x y st rx ry σ W Q h
  unfold fNotInSign at h
  split at h
  · split at h
    · rename_i hq
      cases rx
      cases ry
      rw [str_one hq]
      exact ⟨_, _, rfl, rfl, h _ as H .refl st (.bl _)⟩
    · exact h.elim
  · exact h.elim
def toVs : List Dat → Option (List V)
  | [] => some []
  | d :: r => match toV d, toVs r with
    | some v, some vs => some (v :: vs)
    | _, _ => none
theorem toV_flat {d : Dat} {v : V} (h : toV d = some v) : flatV v = true := by
  cases d <;> first | (cases h; rfl) | cases h
theorem toVs_of : ∀ {ds : List Dat} {us vs : List V}, toVs ds = some us → RelAll c as H vs ds → vs = us ∧ us.all flatV = true
  | [], _, _, h, r => by cases h; cases r; exact ⟨rfl, rfl⟩
  | d :: ds, us, _, h, r => by
    cases r with
    | cons h1 t =>
      unfold toVs at h
      split at h
      · rename_i u us' e1 e2
        cases h
        obtain ⟨e3, e4⟩ := toVs_of e2 t
        rw [h1.toV e1, e3]
        exact ⟨rfl, by rw [List.all_cons, toV_flat e1, e4]; rfl⟩
      · cases h
def fIn (neg : Bool) : F2 := fun x y μ => match toV x, (seqD μ y).bind toVs with
  | some u, some us => .ok (.bl (if neg then !inV u us else inV u us)) μ
  | _, _ => .stuck
theorem simr_in (neg : Bool) : SimR c (rIn c.K neg) (fIn neg) := by
  intro as H μ v w x y st rx ry σ W Q h
  unfold fIn at h
  split at h
  · rename_i u us e1 e2
    cases hd : seqD μ y with
    | none => rw [hd] at e2; cases e2
    | some es =>
      rw [hd] at e2
      obtain ⟨a, xs, rfl, h1, h2⟩ := seqD_of st ry hd
      obtain ⟨rfl, hf⟩ := toVs_of e2 h2
      obtain rfl := rx.toV e1
      exact ⟨a, xs, rfl, h1, toV_flat e1, hf, h _ as H .refl st (.bl _)⟩
  · exact h.elim
/-! ### is -/
def isNonD : Dat → Bool
  | .non => true
  | _ => false
def fIsN : F2 := fun x y μ => match y with
  | .non => .ok (.bl (isNonD x)) μ
  | _ => .stuck
def fNotN : F2 := fun x y μ => match y with
  | .non => .ok (.bl (!isNonD x)) μ
  | _ => .stuck
theorem rel_non {v : V} {d : Dat} (r : Rel c as H v d) : (decide (v = .non)) = isNonD d := by
  cases r <;> rfl
theorem simr_isN : SimR c (fun x y H Q => y = .non ∧ Q (.bl (decide (x = .non))) H) fIsN := by
  intro as H μ v w x y st rx ry σ W Q h
  unfold fIsN at h
  split at h
  · cases ry
    refine ⟨rfl, ?_⟩
    rw [rel_non rx]
    exact h _ as H .refl st (.bl _)
  · exact h.elim
theorem simr_notN : SimR c (fun x y H Q => y = .non ∧ Q (.bl (!decide (x = .non))) H) fNotN := by
  intro as H μ v w x y st rx ry σ W Q h
  unfold fNotN at h
  split at h
  · cases ry
    refine ⟨rfl, ?_⟩
    rw [rel_non rx]
    exact h _ as H .refl st (.bl _)
  · exact h.elim
def fIsB : F2 := fun x y μ => match x, y with
  | .bl a, .bl b => .ok (.bl (decide (a = b))) μ
  | _, _ => .stuck
def fNotB : F2 := fun x y μ => match x, y with
  | .bl a, .bl b => .ok (.bl (!decide (a = b))) μ
  | _, _ => .stuck
theorem simr_isB : SimR c rIsB fIsB := by
  intro as H μ v w x y st rx ry σ W Q h
  unfold fIsB at h
  split at h
  · cases rx
    cases ry
    exact ⟨_, _, rfl, rfl, h _ as H .refl st (.bl _)⟩
  · exact h.elim
theorem simr_notB : SimR c rNotB fNotB := by
  intro as H μ v w x y st rx ry σ W Q h
  unfold fNotB at h
  split at h
  · cases rx
    cases ry
    exact ⟨_, _, rfl, rfl, h _ as H .refl st (.bl _)⟩
  · exact h.elim
def mUn (f : F1) (a : M Dat) : M Dat := fun δ μ => (a δ μ).bind fun x μ1 => f x μ1
def fNeg : F1 := fun x μ => match x with
  | .int i => .ok (.int (-i)) μ
  | _ => .stuck
theorem sim_neg {t : TE} {a : M Dat} (h : SimE c W t a) : SimE c W (tUn (rU fun i => .int (-i)) t) (mUn fNeg a) := by
  intro as H σ δ μ st env Q w
  refine h as H σ δ μ st env _ ((want_bind (R1 := Rel c) w).imp ?_)
  rintro v H1 ⟨as1, μ1, x, e, s1, r, w1⟩
  unfold fNeg at w1
  split at w1
  · cases r
    exact ⟨_, rfl, w1 _ as1 H1 .refl s1 (.int _)⟩
  · exact w1.elim
/-! ### == of data at any depth -/
def pyAll (f : Dat → Option PyData) : List Dat → Option (List PyData)
  | [] => some []
  | d :: r => match f d, pyAll f r with
    | some x, some xs => some (x :: xs)
    | _, _ => none
def py (μ : Store) : Nat → Dat → Option PyData
  | 0, _ => none
  | n + 1, d => match d with
    | .non => some .none
    | .bl b => some (.bool b)
    | .int i => some (.int i)
    | .str s => some (.str s)
    | .tup ds => (pyAll (py μ n) ds).map .tuple
    | .ct ds => (pyAll (py μ n) ds).map .tuple
    | .ro ns => some (.list (ns.map .int))
    | .cell k => match μ[k]? with
      | some (.lst ds) => (pyAll (py μ n) ds).map .list
      | _ => none
    | _ => none
theorem pyAll_of {f : Dat → Option PyData} (hf : ∀ {v : V} {d : Dat} {e : PyData}, Rel c as H v d → f d = some e → Dp c.K H v e) : ∀ {ds : List Dat} {vs : List V} {es : List PyData}, RelAll c as H vs ds → pyAll f ds = some es → DpAll c.K H vs es
  | [], _, _, r, h => by cases h; cases r; exact .nil
  | d :: ds, _, _, r, h => by
    cases r with
    | cons h1 t =>
      unfold pyAll at h
      split at h
      · rename_i x xs e1 e2
        cases h
        exact .cons (hf h1 e1) (pyAll_of hf t e2)
      · cases h
theorem dpInts : ∀ ns : List Int, DpAll c.K H (ns.map V.int) (ns.map PyData.int)
  | [] => .nil
  | n :: r => .cons (.int n) (dpInts r)
theorem py_of (st : StH c as H μ) : ∀ (n : Nat) {v : V} {d : Dat} {e : PyData}, Rel c as H v d → py μ n d = some e → Dp c.K H v e
  | 0, _, _, _, _, h => by cases h
  | n + 1, v, d, e, r, h => by
    cases r with
    | non => cases h; exact .non
    | bl b => cases h; exact .bl b
    | int i => cases h; exact .int i
    | str s => cases h; exact .str s
    | @tup a xs ds h1 h2 =>
      have h' : (pyAll (py μ n) ds).map PyData.tuple = some e := h
      cases q : pyAll (py μ n) ds with
      | none => rw [q] at h'; cases h'
      | some es =>
        rw [q] at h'
        cases h'
        exact .tup h1.sq (pyAll_of (fun r h => py_of st n r h) h2 q)
    | ro h1 => cases h; exact .lst h1.sq (dpInts _)
    | @cell k a ha =>
      dsimp only [py] at h
      split at h
      · rename_i ds hk
        obtain ⟨xs, h1, h2⟩ := st.cell_at hk ha
        cases q : pyAll (py μ n) ds with
        | none => rw [q] at h; cases h
        | some es =>
          rw [q] at h
          cases h
          exact .lst (SqL.of h1) (pyAll_of (fun r h => py_of st n r h) h2 q)
      · cases h
    | ty n => cases h
    | cls n => cases h
    | @ct a xs ds h1 h2 =>
      have h' : (pyAll (py μ n) ds).map PyData.tuple = some e := h
      cases q : pyAll (py μ n) ds with
      | none => rw [q] at h'; cases h'
      | some es =>
        rw [q] at h'
        cases h'
        exact .tup h1.sq (pyAll_of (fun r h => py_of st n r h) h2 q)
def fEqD : F2 := fun x y μ => match py μ 12 x, py μ 12 y with
  | some a, some b => if (SeqAt.shaped a && SeqAt.shaped b) = true then .ok (.bl (PyData.eqv a b)) μ else .stuck
  | _, _ => .stuck
def fNeD : F2 := fun x y μ => match py μ 12 x, py μ 12 y with
  | some a, some b => if (SeqAt.shaped a && SeqAt.shaped b) = true then .ok (.bl (!PyData.eqv a b)) μ else .stuck
  | _, _ => .stuck
theorem simr_eqD : SimR c (rEqD c.K) fEqD := by
  intro as H μ v w x y st rx ry σ W Q h
  unfold fEqD at h
  split at h
  · rename_i a b e1 e2
    split at h
    · rename_i hz
      obtain ⟨z1, z2⟩ := Bool.and_eq_true_iff.mp hz
      exact ⟨a, b, py_of st 12 rx e1, py_of st 12 ry e2, z1, z2, h _ as H .refl st (.bl _)⟩
    · exact h.elim
  · exact h.elim
theorem simr_neD : SimR c (rNeD c.K) fNeD := by
  intro as H μ v w x y st rx ry σ W Q h
  unfold fNeD at h
  split at h
  · rename_i a b e1 e2
    split at h
    · rename_i hz
      obtain ⟨z1, z2⟩ := Bool.and_eq_true_iff.mp hz
      exact ⟨a, b, py_of st 12 rx e1, py_of st 12 ry e2, z1, z2, h _ as H .refl st (.bl _)⟩
    · exact h.elim
  · exact h.elim
/-! ### what is walked -/
structure Src where
  n : Nat
  get : Nat → Store → Option Dat
  fin : Store → Bool
def JRel (c : Cfg) (as : List Addr) (H : Hp) (J : It) (s : Src) : Prop := ∀ as' H' μ', Ext as H as' H' → StH c as' H' μ' →
  (∀ i d, i < s.n → s.get i μ' = some d → J.go i H' ∧ ∀ x H2, J.yld i H' x H2 → Ext as' H' as' H2 ∧ StH c as' H2 μ' ∧ Rel c as' H2 x d) ∧ (s.fin μ' = true → J.stop s.n H')
theorem JRel.mono {J : It} {s : Src} (e : Ext as H as' H') (h : JRel c as H J s) : JRel c as' H' J s := fun a h2 m e2 st => h a h2 m (e.trans e2) st
abbrev SimI (c : Cfg) (W : WX) (t : TI) (m : M Src) : Prop := Sim c W (JRel c) t m
def srcT (ds : List Dat) : Src := ⟨ds.length, fun i _ => ds[i]?, fun _ => true⟩
def srcR (lo : Int) (n : Nat) : Src := ⟨n, fun i _ => some (.int (lo + i)), fun _ => true⟩
def srcS (z : Str) : Src := ⟨z.cps.size, fun i _ => (z.cps[i]?).map fun q => .str ⟨#[q]⟩, fun _ => true⟩
def srcL (k n : Nat) : Src := ⟨n, fun i μ => (celL μ (.cell k)).bind (·[i]?), fun μ => match celL μ (.cell k) with
  | some ds => decide (ds.length ≤ n)
  | none => false⟩
theorem jrel_tup {a : Addr} {xs : List V} {ds : List Dat} (h1 : RoT c.K H a xs) (h2 : RelAll c as H xs ds) : JRel c as H (Itt c.K a) (srcT ds) := fun as' H' μ' e st => by
  refine ⟨fun i d hi hg => ?_, fun _ => ⟨xs, (h1.mono e).sq, by rw [h2.length]; exact Nat.le_refl _⟩⟩
  obtain ⟨v, h3, h4⟩ := (h2.mono e).get (show ds[i]? = some d from hg)
  refine ⟨⟨xs, v, (h1.mono e).sq, h3⟩, fun x H2 y => ?_⟩
  obtain ⟨rfl, q⟩ := y
  have e1 := q xs (h1.mono e).sq
  rw [h3] at e1
  cases e1
  exact ⟨.refl, st, h4⟩
theorem jrel_ct {a : Addr} {xs : List V} {ds : List Dat} (h1 : RoC c.K H a xs) (h2 : RelAll c as H xs ds) : JRel c as H (Itt c.K a) (srcT ds) := fun as' H' μ' e st => by
  refine ⟨fun i d hi hg => ?_, fun _ => ⟨xs, (h1.mono e).sq, by rw [h2.length]; exact Nat.le_refl _⟩⟩
  obtain ⟨v, h3, h4⟩ := (h2.mono e).get (show ds[i]? = some d from hg)
  refine ⟨⟨xs, v, (h1.mono e).sq, h3⟩, fun x H2 y => ?_⟩
  obtain ⟨rfl, q⟩ := y
  have e1 := q xs ((h1.mono e).sq)
  rw [h3] at e1
  cases e1
  exact ⟨.refl, st, h4⟩
theorem jrel_ro {a : Addr} {xs : List V} {ds : List Dat} (h1 : RoL c.K H a xs) (h2 : RelAll c as H xs ds) : JRel c as H (Itl c.K a) (srcT ds) := fun as' H' μ' e st => by
  refine ⟨fun i d hi hg => ?_, fun _ => ⟨xs, (h1.mono e).sq, by rw [h2.length]; exact Nat.le_refl _⟩⟩
  obtain ⟨v, h3, h4⟩ := (h2.mono e).get (show ds[i]? = some d from hg)
  refine ⟨⟨xs, v, (h1.mono e).sq, h3⟩, fun x H2 y => ?_⟩
  obtain ⟨rfl, q⟩ := y
  have e1 := q xs (h1.mono e).sq
  rw [h3] at e1
  cases e1
  exact ⟨.refl, st, h4⟩
theorem jrel_lst {a : Addr} {k n : Nat} (ha : as[k]? = some a) : JRel c as H (Itl c.K a) (srcL k n) := fun as' H' μ' e st => by
  have ha' := e.pre _ _ ha
  refine ⟨fun i d hi hg => ?_, fun hf => ?_⟩
  · have hg' : (celL μ' (.cell k)).bind (·[i]?) = some d := hg
    cases hd : celL μ' (.cell k) with
    | none => rw [hd] at hg'; cases hg'
    | some ds =>
      rw [hd] at hg'
      obtain ⟨k', b, xs, ek, ev, _, _, h1, h2⟩ := celL_of st (.cell ha' : Rel c as' H' (.ref a) (.cell k)) hd
      cases ev
      obtain ⟨v, h3, h4⟩ := h2.get (show ds[i]? = some d from hg')
      refine ⟨⟨xs, v, SqL.of h1, h3⟩, fun x H2 y => ?_⟩
      obtain ⟨rfl, q⟩ := y
      have e1 := q xs (SqL.of h1)
      rw [h3] at e1
      cases e1
      exact ⟨.refl, st, h4⟩
  · have hf' : (match celL μ' (.cell k) with
      | some ds => decide (ds.length ≤ n)
      | none => false) = true := hf
    split at hf'
    · rename_i ds hd
      obtain ⟨k', b, xs, ek, ev, _, _, h1, h2⟩ := celL_of st (.cell ha' : Rel c as' H' (.ref a) (.cell k)) hd
      cases ev
      exact ⟨xs, SqL.of h1, by rw [h2.length]; exact of_decide_eq_true hf'⟩
    · cases hf'
def miList (a : M Dat) : M Src := fun δ μ => (a δ μ).bind fun x μ1 => match x with
  | .cell k => match celL μ1 (.cell k) with
    | some ds => .ok (srcL k ds.length) μ1
    | none => .stuck
  | .ro ns => .ok (srcT (ns.map .int)) μ1
  | _ => .stuck
theorem simi_list {t : TE} {a : M Dat} (h : SimE c W t a) : SimI c W (iList c.K t) (miList a) := by
  intro as H σ δ μ st env Q w
  refine h as H σ δ μ st env _ ((want_bind (R1 := Rel c) w).imp ?_)
  rintro v H1 ⟨as1, μ1, x, e, s1, r, w1⟩
  split at w1
  · split at w1
    · rename_i ds hd
      obtain ⟨k', b, xs, ek, ev, _, ha, h1, h2⟩ := celL_of s1 r hd
      subst ev
      cases ek
      exact ⟨b, rfl, ⟨xs, SqL.of h1⟩, w1 _ as1 H1 .refl s1 (jrel_lst ha)⟩
    · exact w1.elim
  · cases r with
    | ro h1 => exact ⟨_, rfl, ⟨_, h1.sq⟩, w1 _ as1 H1 .refl s1 (jrel_ro h1 (relInts _))⟩
  · exact w1.elim
def miTup (a : M Dat) : M Src := fun δ μ => (a δ μ).bind fun x μ1 => match x with
  | .tup ds => .ok (srcT ds) μ1
  | .ct ds => .ok (srcT ds) μ1
  | _ => .stuck
theorem simi_tup {t : TE} {a : M Dat} (h : SimE c W t a) : SimI c W (iTup c.K t) (miTup a) := by
  intro as H σ δ μ st env Q w
  refine h as H σ δ μ st env _ ((want_bind (R1 := Rel c) w).imp ?_)
  rintro v H1 ⟨as1, μ1, x, e, s1, r, w1⟩
  split at w1
  · cases r with
    | tup h1 h2 => exact ⟨_, rfl, ⟨_, h1.sq⟩, w1 _ as1 H1 .refl s1 (jrel_tup h1 h2)⟩
  · cases r with
    | ct h1 h2 => exact ⟨_, rfl, ⟨_, h1.sq⟩, w1 _ as1 H1 .refl s1 (jrel_ct h1 h2)⟩
  · exact w1.elim
def miStr (a : M Dat) : M Src := fun δ μ => (a δ μ).bind fun x μ1 => match x with
  | .str z => .ok (srcS z) μ1
  | _ => .stuck
theorem simi_str {t : TE} {a : M Dat} (h : SimE c W t a) : SimI c W (iStr t) (miStr a) := by
  intro as H σ δ μ st env Q w
  refine h as H σ δ μ st env _ ((want_bind (R1 := Rel c) w).imp ?_)
  rintro v H1 ⟨as1, μ1, x, e, s1, r, w1⟩
  split at w1
  · rename_i z
    cases r
    refine ⟨_, rfl, w1 _ as1 H1 .refl s1 fun as' H' μ' e' st' => ⟨fun i d hi hg => ⟨hi, fun x H2 y => ?_⟩, fun _ => Nat.le_refl _⟩⟩
    obtain ⟨rfl, q, hq, rfl⟩ := y
    have hg' : (z.cps[i]?).map (fun q => Dat.str ⟨#[q]⟩) = some d := hg
    rw [hq] at hg'
    cases hg'
    exact ⟨.refl, st', .str _⟩
  · exact w1.elim
theorem jrel_range {lo : Int} {n : Nat} : JRel c as H (Itr lo n) (srcR lo n) := fun as' H' μ' e st => by
  refine ⟨fun i d hi hg => ⟨hi, fun x H2 y => ?_⟩, fun _ => Nat.le_refl _⟩
  obtain ⟨rfl, rfl⟩ := y
  have hg' : some (Dat.int (lo + i)) = some d := hg
  cases hg'
  exact ⟨.refl, st, .int _⟩
def miRange1 (a : M (List Dat)) : M Src := fun δ μ => (a δ μ).bind fun ds μ1 => match ds with
  | [.int j] => if -(2 ^ 62) ≤ j ∧ j < 2 ^ 62 then .ok (srcR 0 j.toNat) μ1 else .stuck
  | _ => .stuck
theorem simi_range1 {t : TA} {a : M (List Dat)} (h : SimA c W t a) : SimI c W (iRng1 t) (miRange1 a) := by
  intro as H σ δ μ st env Q w
  refine h as H σ δ μ st env _ ((want_bind (R1 := RelAll c) w).imp ?_)
  rintro vs H1 ⟨as1, μ1, ds, e, s1, rs, w1⟩
  split at w1
  · split at w1
    · rename_i hz
      obtain ⟨v, rfl, r⟩ := rel1 rs
      cases r
      exact ⟨_, rfl, hz.1, hz.2, w1 _ as1 H1 .refl s1 jrel_range⟩
    · exact w1.elim
  · exact w1.elim
def miRange2 (a : M (List Dat)) : M Src := fun δ μ => (a δ μ).bind fun ds μ1 => match ds with
  | [.int i, .int j] => if -(2 ^ 62) ≤ i ∧ i < 2 ^ 62 ∧ -(2 ^ 62) ≤ j ∧ j < 2 ^ 62 then .ok (srcR i (j - i).toNat) μ1 else .stuck
  | _ => .stuck
theorem simi_range2 {t : TA} {a : M (List Dat)} (h : SimA c W t a) : SimI c W (iRng2 t) (miRange2 a) := by
  intro as H σ δ μ st env Q w
  refine h as H σ δ μ st env _ ((want_bind (R1 := RelAll c) w).imp ?_)
  rintro vs H1 ⟨as1, μ1, ds, e, s1, rs, w1⟩
  split at w1
  · split at w1
    · rename_i hz
      obtain ⟨v, u, rfl, r, r2⟩ := rel2 rs
      cases r
      cases r2
      exact ⟨_, _, rfl, hz, w1 _ as1 H1 .refl s1 jrel_range⟩
    · exact w1.elim
  · exact w1.elim
/-! ### targets -/
abbrev MG := Dat → Env → Option Env
def SimG (c : Cfg) (g : TG) (m : MG) : Prop := ∀ as H σ δ v d δ', EnvR c as H σ δ → Rel c as H v d → m d δ = some δ' → ∀ Q : L2.St → Hp → Prop, (∀ σ', EnvR c as H σ' δ' → Q σ' H) → g v σ H Q
def mgName (i : Nat) : MG := fun d δ => some (δ.set i (some d))
theorem simg_name (i : Nat) : SimG c (gName i) (mgName i) := by
  intro as H σ δ v d δ' env r h Q q
  cases h
  exact q _ (env.set i r)
def mgNames : List Nat → List Dat → Env → Option Env
  | [], [], δ => some δ
  | i :: r, d :: ds, δ => mgNames r ds (δ.set i (some d))
  | _, _, _ => none
def gNames : List Nat → TGs
  | [] => gNil
  | i :: r => gCons (gName i) (gNames r)
theorem simg_names : ∀ (is : List Nat) {σ : L2.St} {δ δ' : Env} {vs : List V} {ds : List Dat}, EnvR c as H σ δ → RelAll c as H vs ds → mgNames is ds δ = some δ' → ∀ Q : L2.St → Hp → Prop, (∀ σ', EnvR c as H σ' δ' → Q σ' H) → gNames is vs σ H Q
  | [], σ, δ, δ', vs, ds, env, r, h, Q, q => by
    cases r with
    | nil => cases h; exact ⟨rfl, q _ env⟩
    | cons _ _ => cases h
  | i :: is, σ, δ, δ', vs, ds, env, r, h, Q, q => by
    cases r with
    | nil => cases h
    | cons h1 t => exact ⟨_, _, rfl, simg_names is (env.set i h1) t h Q q⟩
def mgTup (is : List Nat) : MG := fun d δ => match d with
  | .tup ds => if ds.length = is.length then mgNames is ds δ else none
  | _ => none
theorem simg_tup (is : List Nat) : SimG c (gTup c.K is.length (gNames is)) (mgTup is) := by
  intro as H σ δ v d δ' env r h Q q
  unfold mgTup at h
  split at h
  · split at h
    · rename_i hl
      cases r with
      | tup h1 h2 => exact ⟨_, _, rfl, h1.sq, by rw [h2.length]; exact hl, simg_names is env h2 h Q q⟩
    · cases h
  · cases h
/-! ### comprehensions -/
def wipeD (δ : Env) : List Nat → Env
  | [] => δ
  | v :: vs => (wipeD δ vs).set v none
theorem EnvR.wipe (env : EnvR c as H σ δ) : ∀ vs : List Nat, EnvR c as H (wipe σ vs) (wipeD δ vs)
  | [] => env
  | v :: vs => (EnvR.wipe env vs).setN v
theorem set_comm_none {α : Type} (l : List α) (i j : Nat) (x y : α) (h : i ≠ j) : (l.set i x).set j y = (l.set j y).set i x := List.set_comm _ _ h
theorem wipe_set_mem (x : Option V) : ∀ (vs : List Nat) (σ : L2.St) (i : Nat), i ∈ vs → wipe (σ.set i x) vs = wipe σ vs
  | [], _, _, h => by simp at h
  | v :: vs, σ, i, h => by
    show (wipe (σ.set i x) vs).set v none = (wipe σ vs).set v none
    by_cases hv : i ∈ vs
    · rw [wipe_set_mem x vs σ i hv]
    · have e : i = v := by simpa [hv] using h
      subst e
      have comm : ∀ (ws : List Nat) (τ : L2.St), i ∉ ws → wipe (τ.set i x) ws = (wipe τ ws).set i x := by
        intro ws
        induction ws with
        | nil => intro τ _; rfl
        | cons u us ih =>
          intro τ hu
          have h1 : i ≠ u := fun z => hu (z ▸ List.mem_cons_self)
          show (wipe (τ.set i x) us).set u none = ((wipe τ us).set u none).set i x
          rw [ih τ (fun z => hu (List.mem_cons_of_mem _ z)), List.set_comm _ _ h1]
      rw [comm vs σ hv, List.set_set]
theorem wipe_wipe (vs : List Nat) (σ : L2.St) : ∀ ws : List Nat, (∀ w ∈ ws, w ∈ vs) → wipe (wipe σ ws) vs = wipe σ vs
  | [], _ => rfl
  | w :: ws, h => by
    show wipe ((wipe σ ws).set w none) vs = wipe σ vs
    rw [wipe_set_mem none vs _ w (h w List.mem_cons_self), wipe_wipe vs σ ws fun u hu => h u (List.mem_cons_of_mem _ hu)]
/-- a target that stores within vs alone -/
def GW (g : TG) (vs : List Nat) : Prop := ∀ v σ H (Q : L2.St → Hp → Prop), g v σ H Q → g v σ H fun σ2 H2 => wipe σ2 vs = wipe σ vs ∧ Q σ2 H2
theorem gw_name {i : Nat} {vs : List Nat} (h : i ∈ vs) : GW (gName i) vs := fun v σ H Q q => ⟨wipe_set_mem _ vs σ i h, q⟩
theorem gw_names {vs : List Nat} : ∀ (is : List Nat), (∀ i ∈ is, i ∈ vs) → ∀ (xs : List V) (σ : L2.St) (H : Hp) (Q : L2.St → Hp → Prop), gNames is xs σ H Q → gNames is xs σ H fun σ2 H2 => wipe σ2 vs = wipe σ vs ∧ Q σ2 H2
  | [], _, xs, σ, H, Q, q => ⟨q.1, rfl, q.2⟩
  | i :: is, h, xs, σ, H, Q, q => by
    obtain ⟨v, r, e, q⟩ := q
    refine ⟨v, r, e, ?_⟩
    have z := gw_names is (fun j hj => h j (List.mem_cons_of_mem _ hj)) r (σ.set i (some v)) H Q q
    rw [wipe_set_mem _ vs σ i (h i List.mem_cons_self)] at z
    exact z
theorem gw_tup {vs : List Nat} (is : List Nat) {K : PySem.W.Frag} {n : Nat} (h : ∀ i ∈ is, i ∈ vs) : GW (gTup K n (gNames is)) vs := fun v σ H Q q => by
  obtain ⟨a, xs, e1, e2, e3, q⟩ := q
  exact ⟨a, xs, e1, e2, e3, gw_names is h xs σ H Q q⟩
def nrR (r : Res α) : Res α := match r with
  | .raise _ _ => .stuck
  | r => r
theorem want_nr {R : List Addr → Hp → β → α → Prop} {r : Res α} {Q : β → Hp → Prop} {W W' : WX} (w : Want c R (nrR r) as H σ Q W) {σ' : L2.St} : Want c R r as H σ' Q W' := by
  cases r with
  | ok x μ' => exact w
  | raise n μ' => exact w.elim
  | stuck => exact w
def lcLoop (s : Src) (g : MG) (tt : M Bool) (te : M Dat) (δ : Env) (k : Nat) : Nat → Nat → Store → Res Unit
  | 0, _, μ => if s.fin μ = true then .ok () μ else .stuck
  | r + 1, i, μ => match (s.get i μ).bind fun d => g d δ with
    | none => .stuck
    | some δ1 => (nrR (tt δ1 μ)).bind fun b μ1 => if b = true then (nrR (te δ1 μ1)).bind fun y μ2 => match μ2[k]? with
        | some (.lst acc) => if acc.length < sizeLine then lcLoop s g tt te δ k r (i + 1) (μ2.set k (.lst (acc ++ [y]))) else .stuck
        | _ => .stuck
      else lcLoop s g tt te δ k r (i + 1) μ1
def mLc (src : M Src) (g : MG) (tt : M Bool) (te : M Dat) (vs : List Nat) : M Dat := fun δ μ => (src δ μ).bind fun s μ1 =>
  (lcLoop s g tt te (wipeD δ vs) μ1.length s.n 0 (μ1 ++ [.lst []])).bind fun _ μ2 => .ok (.cell μ1.length) μ2
def mYes : M Bool := fun _ μ => .ok true μ
theorem sim_yes : SimT c W tYes mYes := fun as H σ δ μ st env Q w => w _ as H .refl st rfl
theorem sim_lc {wi : TI} {g : TG} {tt : TT} {te : TE} {vs : List Nat} {src : M Src} {mg : MG} {mt : M Bool} {me : M Dat} (hi : SimI c W wi src) (hg : SimG c g mg) (hw : GW g vs) (ht : SimT c W tt mt) (he : SimE c W te me) :
    SimE c W (tLc wi g tt te vs) (mLc src mg mt me vs) := by
  intro as H σ δ μ st env Q w
  refine hi as H σ δ μ st env _ ((want_bind (R1 := JRel c) w).imp ?_)
  rintro J H1 ⟨as1, μ1, s, e, s1, jr, w1⟩ D hD
  have env1 := env.mono e
  have eD : Ext as1 H1 (as1 ++ [D]) (upd H1 D (.lst [])) := ext_alloc hD
  have sD := s1.alloc (o := .lst []) (x := .lst []) hD ⟨[], upd_same, .nil⟩
  have aD : (as1 ++ [D])[μ1.length]? = some D := by rw [← s1.len, List.getElem?_concat_length]
  have w2 := want_bind (R1 := fun _ _ (_ : Unit) (_ : Unit) => True) (Want.mono eD w1)
  refine ⟨fun i m H2 => m = s.n - i ∧ i ≤ s.n ∧ ∃ as2 μ2, Ext as1 H1 as2 H2 ∧ StH c as2 H2 μ2 ∧ as2[μ1.length]? = some D ∧
    Want c (fun _ _ (_ : Unit) (_ : Unit) => True) (lcLoop s mg mt me (wipeD δ vs) μ1.length (s.n - i) i μ2) as2 H2 σ (fun _ H3 => Q (.ref D) H3) W, ⟨s.n, rfl, Nat.zero_le _, as1 ++ [D], _, eD, sD, aD, ?_⟩, ?_⟩
  · refine w2.imp ?_
    rintro _ H3 ⟨as3, μ3, _, e3, s3, _, w3⟩
    exact w3 _ as3 H3 .refl s3 (.cell (e3.pre _ _ aD))
  · rintro i m H2 ⟨rfl, hin, as2, μ2, e2, s2, a2, wl⟩
    obtain ⟨jg, js⟩ := jr as2 H2 μ2 e2 s2
    by_cases hlt : i < s.n
    · obtain ⟨r, hr⟩ : ∃ r, s.n - i = r + 1 := ⟨s.n - i - 1, by omega⟩
      rw [hr] at wl
      unfold lcLoop at wl
      split at wl
      · exact wl.elim
      · rename_i δ1 hd
        cases hq : s.get i μ2 with
        | none => rw [hq] at hd; cases hd
        | some d =>
          rw [hq] at hd
          obtain ⟨g1, g2⟩ := jg i d hlt hq
          refine .inr ⟨g1, fun H3 => (fun i m H2 => m = s.n - i ∧ i ≤ s.n ∧ ∃ as2 μ2, Ext as1 H1 as2 H2 ∧ StH c as2 H2 μ2 ∧ as2[μ1.length]? = some D ∧
            Want c (fun _ _ (_ : Unit) (_ : Unit) => True) (lcLoop s mg mt me (wipeD δ vs) μ1.length (s.n - i) i μ2) as2 H2 σ (fun _ H3 => Q (.ref D) H3) W) (i + 1) (s.n - (i + 1)) H3, fun H3 z => ⟨s.n - (i + 1), by omega, z⟩, fun x H3 hy => ?_⟩
          obtain ⟨ex, s3, rx⟩ := g2 x H3 hy
          replace wl := Want.mono ex wl
          replace e2 := e2.trans ex
          replace s2 := s3
          have env2 := (env1.mono e2).wipe vs
          have key : ∀ Q' : L2.St → Hp → Prop, (∀ σ2, EnvR c as2 H3 σ2 δ1 → Q' σ2 H3) → g x (wipe σ vs) H3 fun σ2 H4 => wipe σ2 vs = wipe σ vs ∧ Q' σ2 H4 := fun Q' q => by
            have z := hw x (wipe σ vs) H3 Q' (hg as2 H3 (wipe σ vs) (wipeD δ vs) x d δ1 env2 rx hd Q' q)
            rw [wipe_wipe vs σ vs fun _ z => z] at z
            exact z
          have hr' : s.n - (i + 1) = r := by omega
          refine key _ fun σ2 envs => ?_
          refine ht as2 H3 σ2 δ1 μ2 s2 envs _ ((want_nr (want_bind (R1 := fun _ _ b d => b = d) wl)).imp ?_)
          rintro b H5 ⟨as5, μ5, b', e5, s5, rfl, w5⟩
          cases b with
          | false => exact ⟨rfl, hlt, as5, μ5, e2.trans e5, s5, e5.pre _ _ a2, by rw [hr']; exact w5⟩
          | true =>
            refine iteT ?_
            rw [if_pos rfl] at w5
            refine he as5 H5 σ2 δ1 μ5 s5 (envs.mono e5) _ ((want_nr (want_bind (R1 := Rel c) w5)).imp ?_)
            rintro y H6 ⟨as6, μ6, dy, e6, s6, ry, w6⟩
            split at w6
            · rename_i acc hk
              split at w6
              · rename_i hz
                have a6 := e6.pre _ _ (e5.pre _ _ a2)
                obtain ⟨xs, h1, h2⟩ := s6.cell_at hk a6
                have ee := ext_set (o := .lst (xs ++ [y])) s6 hk a6
                refine ⟨xs, h1, by rw [h2.length]; exact hz, rfl, hlt, as6, _, ((e2.trans e5).trans e6).trans ee, s6.set (y := .lst (acc ++ [dy])) hk a6 ⟨_, upd_same, (h2.append (.cons ry .nil)).mono ee⟩, a6, ?_⟩
                rw [hr']
                exact w6.mono ee
              · exact w6.elim
            · exact w6.elim
    · have ei : i = s.n := by omega
      subst ei
      rw [Nat.sub_self] at wl
      unfold lcLoop at wl
      split at wl
      · rename_i hf
        exact .inl ⟨js hf, wl () as2 H2 .refl s2 trivial⟩
      · exact wl.elim
end
end Nh

namespace Nh
open PySem PySem.Spec PyProof.Rows L2
/-- what a statement gives -/
inductive SRes where
  | nx (δ : Env) (μ : Store) | rt (d : Dat) (μ : Store) | bk (δ : Env) (μ : Store) | ct (δ : Env) (μ : Store) | raise (n : Nat) (δ : Env) (μ : Store) | stuck
abbrev MS := Env → Store → SRes
def Res.toS {α : Type} (r : Res α) (δ : Env) (f : α → Store → SRes) : SRes := match r with
  | .ok x μ => f x μ
  | .raise n μ => .raise n δ μ
  | .stuck => .stuck
section
variable {c : Cfg} {as as' : List Addr} {H H' : Hp} {σ : L2.St} {δ : Env} {μ : Store} {α β γ ε : Type} {W : WX} {D D' : Ends}
def WantS (c : Cfg) (r : SRes) (as : List Addr) (H : Hp) (D : Ends) (W : WX) : Prop := match r with
  | .nx δ' μ' => ∀ σ' as' H', Ext as H as' H' → StH c as' H' μ' → EnvR c as' H' σ' δ' → D.nx σ' H'
  | .rt d μ' => ∀ v as' H', Ext as H as' H' → StH c as' H' μ' → Rel c as' H' v d → D.rt v H'
  | .bk δ' μ' => ∀ σ' as' H', Ext as H as' H' → StH c as' H' μ' → EnvR c as' H' σ' δ' → D.bk σ' H'
  | .ct δ' μ' => ∀ σ' as' H', Ext as H as' H' → StH c as' H' μ' → EnvR c as' H' σ' δ' → D.ct σ' H'
  | .raise n δ' μ' => ∀ σ' as' H', Ext as H as' H' → StH c as' H' μ' → EnvR c as' H' σ' δ' → W (.ref (c.cl n)) none σ' H'
  | .stuck => False
theorem WantS.mono {r : SRes} (e : Ext as H as' H') (w : WantS c r as H D W) : WantS c r as' H' D W := by
  cases r with
  | nx δ' μ' => exact fun s a h q => w s a h (e.trans q)
  | rt d μ' => exact fun s a h q => w s a h (e.trans q)
  | bk δ' μ' => exact fun s a h q => w s a h (e.trans q)
  | ct δ' μ' => exact fun s a h q => w s a h (e.trans q)
  | raise n δ' μ' => exact fun s a h q => w s a h (e.trans q)
  | stuck => exact w
def SimS (c : Cfg) (W : WX) (t : TS) (m : MS) : Prop := ∀ as H σ δ μ, StH c as H μ → EnvR c as H σ δ → ∀ D, WantS c (m δ μ) as H D W → t D σ H
theorem want_toS {R : List Addr → Hp → β → α → Prop} {r : Res α} {f : α → Store → SRes} (env : EnvR c as H σ δ) (h : WantS c (r.toS δ f) as H D W) :
    Want c R r as H σ (fun v H1 => ∃ as1 μ1 x, Ext as H as1 H1 ∧ StH c as1 H1 μ1 ∧ R as1 H1 v x ∧ WantS c (f x μ1) as1 H1 D W) W := by
  cases r with
  | ok x μ' => exact fun v a q e s r => ⟨a, μ', x, e, s, r, WantS.mono (r := f x μ') e h⟩
  | raise n μ' => exact fun a q e s => h σ a q e s (env.mono e)
  | stuck => exact h
def msNext : MS := fun δ μ => .nx δ μ
theorem sims_next : SimS c W tNext msNext := fun as H σ δ μ st env D w => w σ as H .refl st env
def msSeq (a b : MS) : MS := fun δ μ => match a δ μ with
  | .nx δ' μ' => b δ' μ'
  | r => r
theorem sims_seq {t u : TS} {a b : MS} (ha : SimS c W t a) (hb : SimS c W u b) : SimS c W (tSeq t u) (msSeq a b) := by
  intro as H σ δ μ st env D w
  refine ha as H σ δ μ st env { D with nx := u D } ?_
  unfold msSeq at w
  cases hr : a δ μ with
  | nx δ' μ' =>
    rw [hr] at w
    exact fun σ' as' H' e s env' => hb as' H' σ' δ' μ' s env' D (w.mono e)
  | rt d μ' => rw [hr] at w; exact w
  | bk δ' μ' => rw [hr] at w; exact w
  | ct δ' μ' => rw [hr] at w; exact w
  | raise n δ' μ' => rw [hr] at w; exact w
  | stuck => rw [hr] at w; exact w
def msBreak : MS := fun δ μ => .bk δ μ
def msCont : MS := fun δ μ => .ct δ μ
theorem sims_break : SimS c W tBreak msBreak := fun as H σ δ μ st env D w => w σ as H .refl st env
theorem sims_cont : SimS c W tCont msCont := fun as H σ δ μ st env D w => w σ as H .refl st env
def msDrop (a : M Dat) : MS := fun δ μ => (a δ μ).toS δ fun _ μ1 => .nx δ μ1
theorem sims_drop {t : TE} {a : M Dat} (h : SimE c W t a) : SimS c W (tDrop t) (msDrop a) := by
  intro as H σ δ μ st env D w
  refine h as H σ δ μ st env _ ((want_toS (R := Rel c) env w).imp ?_)
  rintro v H1 ⟨as1, μ1, x, e, s1, r, w1⟩
  exact w1 σ as1 H1 .refl s1 (env.mono e)
def msRet (a : M Dat) : MS := fun δ μ => (a δ μ).toS δ fun d μ1 => .rt d μ1
theorem sims_ret {t : TE} {a : M Dat} (h : SimE c W t a) : SimS c W (tRet t) (msRet a) := by
  intro as H σ δ μ st env D w
  refine h as H σ δ μ st env _ ((want_toS (R := Rel c) env w).imp ?_)
  rintro v H1 ⟨as1, μ1, x, e, s1, r, w1⟩
  exact w1 v as1 H1 .refl s1 r
def msRetN : MS := fun _ μ => .rt .non μ
theorem sims_retN : SimS c W tRetN msRetN := fun as H σ δ μ st env D w => w .non as H .refl st .non
def msIf (q : M Bool) (a b : MS) : MS := fun δ μ => (q δ μ).toS δ fun k μ1 => if k = true then a δ μ1 else b δ μ1
theorem sims_if {q : TT} {t u : TS} {mq : M Bool} {a b : MS} (hq : SimT c W q mq) (ha : SimS c W t a) (hb : SimS c W u b) : SimS c W (tIfS q t u) (msIf mq a b) := by
  intro as H σ δ μ st env D w
  refine hq as H σ δ μ st env _ ((want_toS (R := fun _ _ b d => b = d) env w).imp ?_)
  rintro k H1 ⟨as1, μ1, x, e, s1, rfl, w1⟩
  cases k with
  | true => exact iteT (ha as1 H1 σ δ μ1 s1 (env.mono e) D w1)
  | false => exact iteF (hb as1 H1 σ δ μ1 s1 (env.mono e) D w1)
def msAsg (a : M Dat) (g : MG) : MS := fun δ μ => (a δ μ).toS δ fun d μ1 => match g d δ with
  | some δ' => .nx δ' μ1
  | none => .stuck
theorem sims_asg {t : TE} {g : TG} {a : M Dat} {m : MG} (h : SimE c W t a) (hg : SimG c g m) : SimS c W (tAsg t g) (msAsg a m) := by
  intro as H σ δ μ st env D w
  refine h as H σ δ μ st env _ ((want_toS (R := Rel c) env w).imp ?_)
  rintro v H1 ⟨as1, μ1, x, e, s1, r, w1⟩
  split at w1
  · rename_i δ' hd
    exact hg as1 H1 σ δ v x δ' (env.mono e) r hd _ fun σ' env' => w1 σ' as1 H1 .refl s1 env'
  · exact w1.elim
/-- d[k] = v -/
def msDPut (a b v : M Dat) : MS := fun δ μ => (v δ μ).toS δ fun z μ1 => (a δ μ1).toS δ fun x μ2 => (b δ μ2).toS δ fun y μ3 => match x, keyD y with
  | .cell k, some q => match μ3[k]? with
    | some (.dict kvs) => if kvs.length < sizeLine then .nx δ (μ3.set k (.dict (putD kvs q z))) else .stuck
    | _ => .stuck
  | _, _ => .stuck
theorem sims_dput {ta tb tv : TE} {a b v : M Dat} (ha : SimE c W ta a) (hb : SimE c W tb b) (hv : SimE c W tv v) : SimS c W (sDPut ta tb tv) (msDPut a b v) := by
  intro as H σ δ μ st env D w
  refine hv as H σ δ μ st env _ ((want_toS (R := Rel c) env w).imp ?_)
  rintro z H1 ⟨as1, μ1, dz, e1, s1, rz, w1⟩
  have env1 := env.mono e1
  refine ha as1 H1 σ δ μ1 s1 env1 _ ((want_toS (R := Rel c) env1 w1).imp ?_)
  rintro x H2 ⟨as2, μ2, dx, e2, s2, rx, w2⟩
  have env2 := env1.mono e2
  refine hb as2 H2 σ δ μ2 s2 env2 _ ((want_toS (R := Rel c) env2 w2).imp ?_)
  rintro y H3 ⟨as3, μ3, dy, e3, s3, ry, w3⟩
  split at w3
  · rename_i k q hq
    split at w3
    · rename_i kvs hk
      split at w3
      · rename_i hz
        have rx3 := rx.mono e3
        cases rx3 with
        | cell ha3 =>
          obtain ⟨ps, h1, h2⟩ := s3.cell_at hk ha3
          have ey := keyD_of ry hq
          subst ey
          have rz3 := rz.mono (e2.trans e3)
          have ee := ext_set (o := .dK (putK ps q z)) s3 hk ha3
          exact ⟨_, _, rfl, DPut.k h1 (by rw [h2.length]; exact hz), w3 σ as3 _ ee (s3.set (y := .dict (putD kvs q dz)) hk ha3 ⟨_, upd_same, (h2.put rz3).mono ee⟩) ((env2.mono e3).mono ee)⟩
      · exact w3.elim
    · exact w3.elim
  · exact w3.elim
/-- xs[i] = v -/
def mgSub (a b : M Dat) (v : M Dat) : MS := fun δ μ => (v δ μ).toS δ fun z μ1 => (a δ μ1).toS δ fun x μ2 => (b δ μ2).toS δ fun y μ3 => match x, y with
  | .cell k, .int i => match μ3[k]? with
    | some (.lst ds) => match ixN ds.length i with
      | some j => .nx δ (μ3.set k (.lst (ds.set j z)))
      | none => .stuck
    | _ => .stuck
  | _, _ => .stuck
theorem sims_sub {ta tb tv : TE} {a b v : M Dat} (ha : SimE c W ta a) (hb : SimE c W tb b) (hv : SimE c W tv v) : SimS c W (tAsg tv (gSub ta tb rSetL)) (mgSub a b v) := by
  intro as H σ δ μ st env D w
  refine hv as H σ δ μ st env _ ((want_toS (R := Rel c) env w).imp ?_)
  rintro z H1 ⟨as1, μ1, dz, e1, s1, rz, w1⟩
  have env1 := env.mono e1
  refine ha as1 H1 σ δ μ1 s1 env1 _ ((want_toS (R := Rel c) env1 w1).imp ?_)
  rintro x H2 ⟨as2, μ2, dx, e2, s2, rx, w2⟩
  have env2 := env1.mono e2
  refine hb as2 H2 σ δ μ2 s2 env2 _ ((want_toS (R := Rel c) env2 w2).imp ?_)
  rintro y H3 ⟨as3, μ3, dy, e3, s3, ry, w3⟩
  split at w3
  · rename_i k i
    split at w3
    · rename_i ds hk
      split at w3
      · rename_i j hj
        cases ry
        have rx3 := rx.mono e3
        cases rx3 with
        | cell ha3 =>
          obtain ⟨xs, h1, h2⟩ := s3.cell_at hk ha3
          have rz3 := rz.mono (e2.trans e3)
          have ee := ext_set (o := .lst (xs.set j z)) s3 hk ha3
          exact ⟨_, xs, i, j, rfl, rfl, h1, by rw [h2.length]; exact hj, w3 σ as3 _ ee (s3.set (y := .lst (ds.set j dz)) hk ha3 ⟨_, upd_same, (RelAll.set rz3 j h2).mono ee⟩) ((env2.mono e3).mono ee)⟩
      · exact w3.elim
    · exact w3.elim
  · exact w3.elim
/-! ### loops -/
def forLoop (s : Src) (g : MG) (b : MS) : Nat → Nat → Env → Store → SRes
  | 0, _, δ, μ => if s.fin μ = true then .nx δ μ else .stuck
  | r + 1, i, δ, μ => match (s.get i μ).bind fun d => g d δ with
    | none => .stuck
    | some δ1 => match b δ1 μ with
      | .nx δ' μ' => forLoop s g b r (i + 1) δ' μ'
      | .ct δ' μ' => forLoop s g b r (i + 1) δ' μ'
      | .bk δ' μ' => .nx δ' μ'
      | r => r
def msFor (src : M Src) (g : MG) (b : MS) : MS := fun δ μ => (src δ μ).toS δ fun s μ1 => forLoop s g b s.n 0 δ μ1
theorem sims_for {wi : TI} {g : TG} {tb : TS} {src : M Src} {mg : MG} {b : MS} (hi : SimI c W wi src) (hg : SimG c g mg) (hb : SimS c W tb b) : SimS c W (tFor wi g tb) (msFor src mg b) := by
  intro as H σ δ μ st env D w
  refine hi as H σ δ μ st env _ ((want_toS (R := JRel c) env w).imp ?_)
  rintro J H1 ⟨as1, μ1, s, e1, s1, jr, w1⟩
  have env1 := env.mono e1
  refine ⟨fun i m σ2 H2 => m = s.n - i ∧ i ≤ s.n ∧ ∃ as2 μ2 δ2, Ext as1 H1 as2 H2 ∧ StH c as2 H2 μ2 ∧ EnvR c as2 H2 σ2 δ2 ∧ WantS c (forLoop s mg b (s.n - i) i δ2 μ2) as2 H2 D W,
    ⟨s.n, rfl, Nat.zero_le _, as1, μ1, δ, .refl, s1, env1, w1⟩, ?_⟩
  rintro i m σ2 H2 ⟨rfl, hin, as2, μ2, δ2, e2, s2, env2, wl⟩
  obtain ⟨jg, js⟩ := jr as2 H2 μ2 e2 s2
  by_cases hlt : i < s.n
  · obtain ⟨r, hr⟩ : ∃ r, s.n - i = r + 1 := ⟨s.n - i - 1, by omega⟩
    have hr' : s.n - (i + 1) = r := by omega
    rw [hr] at wl
    unfold forLoop at wl
    split at wl
    · exact wl.elim
    · rename_i δ1 hd
      cases hq : s.get i μ2 with
      | none => rw [hq] at hd; cases hd
      | some d =>
        rw [hq] at hd
        obtain ⟨g1, g2⟩ := jg i d hlt hq
        refine .inr ⟨g1, fun σ3 H3 => s.n - (i + 1) = s.n - (i + 1) ∧ i + 1 ≤ s.n ∧ ∃ as2 μ2 δ2, Ext as1 H1 as2 H3 ∧ StH c as2 H3 μ2 ∧ EnvR c as2 H3 σ3 δ2 ∧ WantS c (forLoop s mg b (s.n - (i + 1)) (i + 1) δ2 μ2) as2 H3 D W,
          fun σ3 H3 z => ⟨s.n - (i + 1), by omega, z⟩, fun x H3 hy => ?_⟩
        obtain ⟨ex, s3, rx⟩ := g2 x H3 hy
        replace wl := WantS.mono ex wl
        replace e2 := e2.trans ex
        replace s2 := s3
        replace env2 := env2.mono ex
        refine hg as2 H3 σ2 δ2 x d δ1 env2 rx hd _ fun σ3 env3 => ?_
        refine hb as2 H3 σ3 δ1 μ2 s2 env3 _ ?_
        cases hbr : b δ1 μ2 with
        | nx δ' μ' =>
          rw [hbr] at wl
          exact fun σ' as' H' e s' env' => ⟨rfl, hlt, as', μ', δ', e2.trans e, s', env', by rw [hr']; exact WantS.mono (r := forLoop s mg b r (i + 1) δ' μ') e wl⟩
        | ct δ' μ' =>
          rw [hbr] at wl
          exact fun σ' as' H' e s' env' => ⟨rfl, hlt, as', μ', δ', e2.trans e, s', env', by rw [hr']; exact WantS.mono (r := forLoop s mg b r (i + 1) δ' μ') e wl⟩
        | bk δ' μ' => rw [hbr] at wl; exact wl
        | rt d' μ' => rw [hbr] at wl; exact wl
        | raise n δ' μ' => rw [hbr] at wl; exact wl
        | stuck => rw [hbr] at wl; exact wl
  · have ei : i = s.n := by omega
    subst ei
    rw [Nat.sub_self] at wl
    unfold forLoop at wl
    split at wl
    · rename_i hf
      exact .inl ⟨js hf, wl σ2 as2 H2 .refl s2 env2⟩
    · exact wl.elim
def whLoop (q : M Bool) (b : MS) : Nat → Env → Store → SRes
  | 0, _, _ => .stuck
  | r + 1, δ, μ => (q δ μ).toS δ fun k μ1 => if k = true then match b δ μ1 with
      | .nx δ' μ' => whLoop q b r δ' μ'
      | .ct δ' μ' => whLoop q b r δ' μ'
      | .bk δ' μ' => .nx δ' μ'
      | r => r
    else .nx δ μ1
def msWhile (n : Nat) (q : M Bool) (b : MS) : MS := fun δ μ => whLoop q b n δ μ
theorem sims_while (n : Nat) {tq : TT} {tb : TS} {q : M Bool} {b : MS} (hq : SimT c W tq q) (hb : SimS c W tb b) : SimS c W (tWhile tq tb) (msWhile n q b) := by
  intro as H σ δ μ st env D w
  refine ⟨fun m σ2 H2 => ∃ as2 μ2 δ2, Ext as H as2 H2 ∧ StH c as2 H2 μ2 ∧ EnvR c as2 H2 σ2 δ2 ∧ WantS c (whLoop q b m δ2 μ2) as2 H2 D W, ⟨n, as, μ, δ, .refl, st, env, w⟩, ?_⟩
  rintro m σ2 H2 ⟨as2, μ2, δ2, e2, s2, env2, wl⟩
  cases m with
  | zero => exact wl.elim
  | succ r =>
    unfold whLoop at wl
    refine hq as2 H2 σ2 δ2 μ2 s2 env2 _ ((want_toS (R := fun _ _ b d => b = d) env2 wl).imp ?_)
    rintro k H3 ⟨as3, μ3, _, e3, s3, rfl, w3⟩
    have env3 := env2.mono e3
    cases k with
    | false => exact iteF (w3 σ2 as3 H3 .refl s3 env3)
    | true =>
      refine iteT ⟨fun σ4 H4 => ∃ as2 μ2 δ2, Ext as H as2 H4 ∧ StH c as2 H4 μ2 ∧ EnvR c as2 H4 σ4 δ2 ∧ WantS c (whLoop q b r δ2 μ2) as2 H4 D W, fun σ4 H4 z => ⟨r, Nat.lt_succ_self r, z⟩, ?_⟩
      rw [if_pos rfl] at w3
      refine hb as3 H3 σ2 δ2 μ3 s3 env3 _ ?_
      cases hbr : b δ2 μ3 with
      | nx δ' μ' =>
        rw [hbr] at w3
        exact fun σ' as' H' e s' env' => ⟨as', μ', δ', (e2.trans e3).trans e, s', env', WantS.mono (r := whLoop q b r δ' μ') e w3⟩
      | ct δ' μ' =>
        rw [hbr] at w3
        exact fun σ' as' H' e s' env' => ⟨as', μ', δ', (e2.trans e3).trans e, s', env', WantS.mono (r := whLoop q b r δ' μ') e w3⟩
      | bk δ' μ' => rw [hbr] at w3; exact w3
      | rt d' μ' => rw [hbr] at w3; exact w3
      | raise n δ' μ' => rw [hbr] at w3; exact w3
      | stuck => rw [hbr] at w3; exact w3
/-! ### raise -/
def msRaise (n : Nat) : MS := fun δ μ => .raise n δ μ
theorem sims_raise (n : Nat) : SimS c W (fun _ σ H => W (.ref (c.cl n)) none σ H) (msRaise n) := fun as H σ δ μ st env D w => w σ as H .refl st env
/-! ### a def -/
def startD (N : Nat) (ds : List Dat) : Env := ds.map some ++ List.replicate (N - ds.length) none
def runB (N : Nat) (b : MS) : FA := fun ds μ => match b (startD N ds) μ with
  | .nx _ μ' => .ok .non μ'
  | .rt d μ' => .ok d μ'
  | .raise n _ μ' => .raise n μ'
  | _ => .stuck
theorem env_start {N : List Str} {vs : List V} {ds : List Dat} (r : RelAll c as H vs ds) : EnvR c as H (L2.start N vs) (startD N.length ds) := by
  unfold L2.start startD
  refine ⟨by simp [r.length], fun i d h => ?_⟩
  by_cases hi : i < ds.length
  · rw [List.getElem?_append_left (by simpa using hi), List.getElem?_map] at h
    rw [List.getElem?_append_left (by simpa [r.length] using hi), List.getElem?_map]
    cases hd : ds[i]? with
    | none => rw [hd] at h; cases h
    | some d' =>
      rw [hd] at h
      cases h
      obtain ⟨v, h1, h2⟩ := r.get hd
      exact ⟨v, by rw [h1]; rfl, h2⟩
  · rw [List.getElem?_append_right (by simpa using Nat.le_of_not_lt hi), List.getElem?_replicate] at h
    split at h <;> cases h
section
variable {P : Program} {w : World} {K : PySem.W.Frag} {mg : Str → Option Value} {base : Heap}
theorem want_run {N : List Str} {b : MS} {vs : List V} {ds : List Dat} {t : TS} {Q : VK} {E : XK} (hb : SimS c (fun cls d _ H => E cls d H) t b) (st : StH c as H μ) (rs : RelAll c as H vs ds)
    (h : Want c (Rel c) (runB N.length b ds μ) as H [] Q fun cls d _ H => E cls d H) : t { nx := fun _ H' => Q .non H', rt := Q } (L2.start N vs) H := by
  refine hb as H (L2.start N vs) _ μ st (env_start rs) _ ?_
  unfold runB at h
  cases hr : b (startD N.length ds) μ with
  | nx δ' μ' => rw [hr] at h; exact fun σ' as' H' e s _ => h .non as' H' e s .non
  | rt d μ' => rw [hr] at h; exact h
  | bk δ' μ' => rw [hr] at h; exact h.elim
  | ct δ' μ' => rw [hr] at h; exact h.elim
  | raise n δ' μ' => rw [hr] at h; exact fun σ' as' H' e s _ => h as' H' e s
  | stuck => rw [hr] at h; exact h.elim
/-- a def that may raise -/
theorem fn_simX {x qual : Str} {st : Stmt} {f : Addr} {fd : FuncData} {N ps : List Str} {k n : Nat} {b : MS} (F : Fun K x qual st f fd) (S : FnScope N ps (defScope st)) (hn : n = ps.length)
    (hbody : ∀ (cdv : Value) (A : Around) (outer : List PySem.Env) (s : Shared) (H : Hp) (E : XK), Room k (A.deeper (envOfC qual (defScope st) s.heap.objs.size f cdv)) →
      ∃ t, PSs (cxOf (L2.CX P w) P w K mg base N qual (defScope st) f cdv A outer s H E) (defBody st) t ∧ SimS c (fun cls d _ H => E cls d H) t b) :
    FnOk P w K mg base (L2.CX P w) (k + 1) f fd ps (spM c n (runB N.length b)) := by
  refine F.okX S (fun vs H Q E h => h.1.trans hn) (fun cdv A outer s H vs Q E hr h => ?_)
  obtain ⟨t, h1, h2⟩ := hbody cdv A outer s H E hr
  obtain ⟨_, as, μ, ds, st, rs, w⟩ := h
  exact ⟨t, h1, want_run h2 st rs w⟩
theorem want_nrE {R : List Addr → Hp → β → α → Prop} {f : FA} {ds : List Dat} {Q : VK} {W W' : WX} (w : Want c (Rel c) (nr f ds μ) as H σ Q W) : Want c (Rel c) (f ds μ) as H σ Q W' := by
  unfold nr at w
  cases h : f ds μ with
  | ok x μ' => rw [h] at w; exact w
  | raise n μ' => rw [h] at w; exact w.elim
  | stuck => rw [h] at w; exact w
/-- a def that raises nothing -/
theorem fn_sim0 {x qual : Str} {st : Stmt} {f : Addr} {fd : FuncData} {N ps : List Str} {k n : Nat} {b : MS} (F : Fun K x qual st f fd) (S : FnScope N ps (defScope st)) (hn : n = ps.length)
    (hbody : ∀ (cdv : Value) (A : Around) (outer : List PySem.Env) (s : Shared) (H : Hp) (E : XK), Room k (A.deeper (envOfC qual (defScope st) s.heap.objs.size f cdv)) →
      ∃ t, PSs (cxOf CX0 P w K mg base N qual (defScope st) f cdv A outer s H E).nox (defBody st) t ∧ SimS c (fun _ _ _ _ => False) t b) :
    FnOk P w K mg base CX0 (k + 1) f fd ps (spM c n (nr (runB N.length b))) := by
  refine F.ok S (fun vs H Q E h => h.1.trans hn) (fun cdv A outer s H vs Q E hr h => ?_)
  obtain ⟨t, h1, h2⟩ := hbody cdv A outer s H E hr
  obtain ⟨_, as, μ, ds, st, rs, w⟩ := h
  exact ⟨t, h1, want_run (E := fun _ _ _ => False) h2 st rs (want_nrE (R := Rel c) w)⟩
end
end
end Nh

namespace Nh
open PySem PySem.Spec PyProof.Rows L2
def ExOd (cls : Value) (d : Option Addr) (a : Addr) : HO := .ext fun h => ∃ oe vs, h.get? a = some oe ∧ Zc cls d oe ∧ oe.data = .fields vs
section
variable {X : Cx} {pins : List (Addr × Obj)} {σ : L2.St} {H : Hp} {s : Shared}
/-- behind an except suite the exception is an object that we know -/
theorem inv_keep {a : Addr} {oe : Obj} {cls : Value} {d : Option Addr} (J : Inv (X.suite a ((a, oe) :: (X.pn ++ pins))) [] σ H s) (ok : X.Ok) (hz : Zc cls d oe) (hd : ∃ vs, oe.data = .fields vs)
    (hex : X.ex = []) (fresh : X.s_0.heap.get? a = none) (apart : ∀ p ∈ X.pn ++ pins, p.1 ≠ a) : Inv X pins σ (upd H a (ExOd cls d a)) s := by
  obtain ⟨vs, hv⟩ := hd
  have I := J.unsuite ok
  obtain ⟨ga, na, nl, nf, _⟩ := J.pin (a, oe) (List.mem_append_left _ List.mem_cons_self)
  have other : ∀ {b : Addr} {o : HO}, H b = some o → b ≠ a := fun e => ne_of_none e na
  refine ⟨ok, I.os, I.bare, ⟨I.base.keep, I.base.slot, ?free, I.base.there, ?tups, ?frzs, ?tbls⟩, I.loc, I.cell, ?frame, ?cells, ?pins, ?hok, I.len⟩
  case free =>
    intro b o e n hb
    have ne : b ≠ a := by
      rintro rfl
      rw [fresh] at e
      cases e
    rw [upd_ne ne]
    exact I.base.free b o e n hb
  case tups =>
    intro b xs e
    have q := I.base.tups b xs e
    rw [upd_ne (other q)]
    exact q
  case frzs =>
    intro b o u e
    have q := I.base.frzs b o u e
    rw [upd_ne (other q)]
    exact q
  case tbls =>
    intro b ps e
    obtain ⟨more, q⟩ := I.base.tbls b ps e
    exact ⟨more, by rw [upd_ne (other q)]; exact q⟩
  case frame =>
    rw [upd_ne (fun z => nl z.symm)]
    exact I.free
  case cells =>
    intro x c e
    have ne : c ≠ a := by
      rintro rfl
      obtain ⟨v, o, ho, hw⟩ := I.cell x c e
      rw [ga] at ho
      cases ho
      rw [hv] at hw
      cases hw
    rw [upd_ne ne]
    exact I.freeC x c e
  case pins =>
    intro p hp
    obtain ⟨q1, q2, q3, q4, q5⟩ := I.pin p hp
    exact ⟨q1, by rw [upd_ne (apart p hp)]; exact q2, q3, q4, q5⟩
  case hok =>
    intro b o e
    by_cases hb : b = a
    · subst hb
      rw [upd_same] at e
      cases e
      exact ⟨⟨oe, vs, ga, hz, hv⟩, ⟨oe, ga⟩, fun h1 h2 z k => by
        obtain ⟨o1, v1, e1, z1, d1⟩ := z
        exact ⟨o1, v1, k _ e1, z1, d1⟩⟩
    · rw [upd_ne hb] at e
      exact (I.hok b o e).stay (fun _ _ _ q => q) (fun _ q => by rw [upd_ne (other q)]; exact q) fun _ _ q => by rw [upd_ne (other q)]; exact q
/-- what «except x as n: suite» wishes of an exception, which is kept: slot i is n's -/
def wKeep (K : PySem.W.Frag) (cv : Value) (i : Nat) (ts : Addr → Value → Option Addr → TS) (Wout : WX) (D : Ends) : WX := fun cls d σ H =>
  ∃ b, PySem.W.exmOne K cls cv = some b ∧ (b = true → ∀ a, H a = none → ts a cls d
    ⟨fun σ1 H1 => H1 a = none → D.nx (σ1.set i none) (upd H1 a (ExOd cls d a)), D.rt, fun σ1 H1 => D.bk (σ1.set i none) H1, fun σ1 H1 => D.ct (σ1.set i none) H1⟩ (σ.set i (some (.ref a))) H) ∧
    (b = false → Wout cls d σ H)
variable {x n : Str} {cv : Value} {i : Nat} {body suite : List Stmt} {st0 : Stmt} {np pos hpos : Pos} {tb : WX → TS} {ts : Addr → Value → Option Addr → TS} {Wout : WX}
theorem ps_try_keep (hstk : X.stack = X.env :: X.outer) (hfrm : X.env.frame = some X.env.locals) (hex : X.ex = []) (hN : X.N.Nodup) (hi : X.N[i]? = some n) (hln : X.env.kindOf n = some .local) (hcl : Names X x cv) (tk : Takes X Wout)
    (hbody : ∀ (W : WX) (pn : List (Addr × Obj)) (xe : Value → Shared → Prop), Takes (X.tr pn xe) W → PassesOwn (model X.prog X.w) X.A X.env xe → PSs (X.tr pn xe) body (tb W))
    (hsuite : ∀ (a : Addr) (oe : Obj) (cls : Value) (d : Option Addr) (pn : List (Addr × Obj)), Zc cls d oe → (∃ vs, oe.data = .fields vs) → PSs (X.suite a ((a, oe) :: pn)) (st0 :: suite) (ts a cls d)) :
    PS X (.Try body [.ExceptHandler (some (.Name x np)) (some n) (st0 :: suite) hpos] [] [] pos) (fun D σ H => tb (wKeep X.K cv i ts Wout D) D σ H) := by
  constructor
  intro pins s σ H D I h
  have ok := I.ok
  have frames : X.A.frames = some (X.env :: X.outer) := ok.frames.trans (congrArg some hstk)
  apply wpAny_Try_except
  have run := (hbody (wKeep X.K cv i ts Wout D) (X.pn ++ pins) (fun e s₁ => wpAny (model X.prog X.w) X.A (noteFrame e X.env)
    (fun _ s₂ => wpAny (model X.prog X.w) X.A (setFlight e none)
      (fun _ s₃ => wpAny (model X.prog X.w) X.A (handleBy e X.env [.ExceptHandler (some (.Name x np)) (some n) (st0 :: suite) hpos]) (SP X pins D) X.xe s₃) X.xe s₂) X.xe s₁)
    (fun u s' flying => ?caught) PassesOwn.looking).run [] s σ H D (I.toTry _) h
  refine wpAny_mono run (fun f s1 q => ?ended) fun _ _ z => z
  case ended =>
    cases f with
    | next =>
      obtain ⟨σ1, H1, J, q⟩ := q
      exact wpAny_execs_nil ⟨σ1, H1, J.ofTry ok, q⟩
    | brk =>
      obtain ⟨σ1, H1, J, q⟩ := q
      exact ⟨σ1, H1, J.ofTry ok, q⟩
    | cont =>
      obtain ⟨σ1, H1, J, q⟩ := q
      exact ⟨σ1, H1, J.ofTry ok, q⟩
    | ret u =>
      obtain ⟨v, σ1, H1, J, r, q⟩ := q
      exact ⟨v, σ1, H1, J.ofTry ok, r, q⟩
  case caught =>
    obtain ⟨a, G, sI, pins2, τ, L, cls, d, rfl, Jt, ground, up, sky, na, hos, gens, b, hmatch, yes, no⟩ := flying
    have J : Inv X pins τ L sI := Jt.ofTry ok
    have sky2 : Sky G (X.env :: X.outer) a (Zc cls d) X.env.locals s'.heap := hstk ▸ sky
    show wpAny (model X.prog X.w) X.A (noteFrame (.ref a) X.env) _ _ _
    refine sky2.land Zc.steady frames hfrm fun g3 fl3 up3 => ?_
    have J3 : Inv X pins τ L { s' with heap := g3 } := J.landed ground fl3.1 (up.trans up3) hos gens
    have apartF : a ∉ frs (X.env :: X.outer) := fun hm => by
      obtain ⟨oe, vs, he, _, hw⟩ := fl3.there
      obtain ⟨_, o2, e2, nofields⟩ := fl3.2.2.1.mem hm
      rw [he] at e2
      cases e2
      exact nofields _ hw
    have notLocals : a ≠ X.env.locals := fun z => apartF (List.mem_filterMap.mpr ⟨X.env, List.mem_cons_self, by rw [hfrm, z]⟩)
    have notOuter : a ∉ X.fs := fun hm => by
      obtain ⟨e, he, q⟩ := List.mem_filterMap.mp hm
      exact apartF (List.mem_filterMap.mpr ⟨e, List.mem_cons_of_mem _ he, q⟩)
    have unborn : sI.heap.get? a = none := by
      cases q : sI.heap.get? a with
      | none => rfl
      | some o =>
        have z := ground a o q (by rw [hstk]; exact apartF)
        rw [fl3.2.1] at z
        cases z
    have fresh : X.s_0.heap.get? a = none := by
      cases q : X.s_0.heap.get? a with
      | none => rfl
      | some o =>
        obtain ⟨o2, z⟩ := J.base.there a o q (by rw [hex]; exact List.not_mem_nil)
        rw [unborn] at z
        cases z
    have apart : ∀ p ∈ X.pn ++ pins, p.1 ≠ a := fun p hp z => by
      have q := (J.pin p hp).1
      rw [z, unborn] at q
      cases q
    obtain ⟨oe3, vs3, he3, hz3, hd3⟩ := fl3.there
    have S3 := J3.suite he3 hd3 na notLocals notOuter
    refine wpAny_handleBy_cons (codeAny_handlers_test ?_) fun z => nomatch z
    have kind : PySem.W.Looks (model X.prog X.w) g3 (typeOf (.ref a)) cls := fun A Q E t k q => wpAny_typeOf_ref (k _ _ he3) (by rw [hz3.1]; exact q)
    have test : ∀ {Q : Value → Shared → Prop} {E : Value → Shared → Prop}, Q cv { s' with heap := g3 } → wpAny (model X.prog X.w) (X.A.mark (some (.ref a))) (eval (.Name x np) X.env) Q E { s' with heap := g3 } := by
      intro Q E q
      obtain ⟨hg, hdb, hm | ⟨hm, hv, hnn⟩⟩ := hcl
      · exact ld_glob (X := X.suite a ((a, oe3) :: (X.pn ++ pins))) S3 hg hm q hdb
      · exact ld_blt (X := X.suite a ((a, oe3) :: (X.pn ++ pins))) S3 hg hm hv q hnn hdb
    refine test ((PySem.W.exm_one (M := model X.prog X.w) J3.kIn kind hmatch).here ?_)
    cases b with
    | true =>
      refine codeAny_handlers_suite_as (HandSPX.lands_againZ fl3 fun g4 fl4 up4 => ?_)
      have J4 : Inv X pins τ L { s' with heap := g4 } := J.landed ground fl4.1 ((up.trans up3).trans up4) hos gens
      obtain ⟨oe4, vs4, he4, hz4, hd4⟩ := fl4.there
      have S4 := J4.suite he4 hd4 na notLocals notOuter
      refine store_ok (X := X.suite a ((a, oe4) :: (X.pn ++ pins))) (v := .ref a) S4 hN hi (.inl hln) rfl (fun s5 S5 => ?_) (.inr hln)
      refine wpAny_mono ((hsuite a oe4 cls d (X.pn ++ pins) hz4 ⟨_, hd4⟩).run [] s5 _ L _ S5 (yes rfl a na)) (fun f s6 q => ?_) fun _ _ z => False.elim z
      have fin : ∀ {τ6 : L2.St} {L6 : Hp} {Q : Shared → Prop}, Inv (X.suite a ((a, oe4) :: (X.pn ++ pins))) [] τ6 L6 s6 → (∀ s7, Inv X pins (τ6.set i none) L6 s7 → Q s7) →
          wpAny (model X.prog X.w) X.A (do bindName X.env n .none; unbindBehindTheSuite X.env n hpos) (fun _ s7 => Q s7) X.xe s6 := fun S hq => gone_ok (S.unsuite ok) hN hi hln hq
      cases f with
      | next =>
        obtain ⟨τ6, L6, S6, q6⟩ := q
        have nL : L6 a = none := (S6.pin (a, oe4) (List.mem_append_left _ List.mem_cons_self)).2.1
        exact gone_ok (inv_keep S6 ok hz4 ⟨_, hd4⟩ hex fresh apart) hN hi hln fun s7 J7 => ⟨_, _, J7, q6 nL⟩
      | brk =>
        obtain ⟨τ6, L6, S6, q6⟩ := q
        exact fin S6 fun s7 J7 => ⟨_, _, J7, q6⟩
      | cont =>
        obtain ⟨τ6, L6, S6, q6⟩ := q
        exact fin S6 fun s7 J7 => ⟨_, _, J7, q6⟩
      | ret u =>
        obtain ⟨v6, τ6, L6, S6, r6, q6⟩ := q
        exact fin S6 fun s7 J7 => ⟨_, _, _, J7, r6, q6⟩
    | false =>
      show wpAny _ X.A (handleBy (.ref a) X.env []) _ _ _
      refine wpAny_handleBy_nil ?_
      obtain ⟨k1, k2, k3, oe, vs, T, oT, ts', he, hz, hd, h1, hr⟩ := id fl3
      unfold PySem.passOn
      refine wpAny_bind (wpAny_field he hd h1 ?_)
      have hT : ¬ ((Value.ref T == Value.none) = true) := by simp
      rw [if_neg hT]
      have fin : wpAny (model X.prog X.w) X.A (setFlight (.ref a) X.env.frame) (fun _ s4 => wpAny (model X.prog X.w) X.A (throw (.ref a) : Sem Flow) (SP X pins D) X.xe s4) X.xe { s' with heap := g3 } := by
        rw [hfrm]
        refine HandSPX.setFlight_upZ fl3 fun g4 held up4 => wpAny_throw (tk _ _ ?_)
        exact ⟨a, G, sI, pins, τ, L, cls, d, rfl, J, ground, (up.trans up3).trans up4, .inr (.inr (hstk.symm ▸ held)), na, hos, gens, no rfl⟩
      first
        | exact wpAny_bind (wpAny_pure (wpAny_bind fin))
        | exact wpAny_bind fin
end
end Nh

namespace Nh
open PySem PySem.Spec PyProof.Rows L2
/-! ### isinstance of data and of kept exceptions -/
inductive TyE (K : PySem.W.Frag) (H : Hp) : V → Value → Prop where
  | x {v : V} {t : Value} (h : TyX K H v t) : TyE K H v t
  | exc {a B : Addr} (h : H a = some (ExOd (.ref B) none a)) (k : ExcC K B) : TyE K H (.ref a) (.ref B)
section
variable {X : Cx} {pins : List (Addr × Obj)} {σ : L2.St} {H : Hp} {s : Shared}
theorem kit_ofE {v : V} {u t : Value} (I : Inv X pins σ H s) (rv : RelV v u) (ty : TyE X.K H v t) : ∃ P : Heap → Prop, PySem.W.KitX X.K u t P ∧ P s.heap ∧ u ≠ .builtin "__main__.__loader__#opaque" := by
  cases ty with
  | x h => exact kit_of I rv h
  | @exc a B h k =>
    obtain rfl : u = Value.ref a := rv
    obtain ⟨⟨oe, vs, ge, hz, hv⟩, _, _⟩ := (show ObjOk X.prog X.w H s.heap a (ExOd (.ref B) none a) from I.hok a _ h)
    obtain ⟨oc, od, oda, osl⟩ := oe
    obtain ⟨z1, z2⟩ := hz
    dsimp only at z1 z2 hv
    subst z1 z2 hv
    exact ⟨_, PySem.W.handS_kitx_exc k.hg k.hk k.hs k.hd k.ha k.hn k.ht k.hm, (show PySem.W.InstAt s.heap a _ B none from ⟨ge, rfl, rfl, trivial⟩), fun z => nomatch z⟩
end
def rIsA (K : PySem.W.Frag) : List V → Hp → VK → Prop := fun xs H Q =>
  (∃ (v k : V) (t u : Value) (b : Bool), xs = [v, k] ∧ ClsV k u ∧ TyE K H v t ∧ PySem.W.kitOne K t u = some b ∧ Q (.bl b) H) ∨
  ∃ (v : V) (tp : Addr) (cs : List V) (t : Value) (us : List Value) (b : Bool), xs = [v, .ref tp] ∧ SqT K H tp cs ∧ Paired ClsV cs us ∧ TyE K H v t ∧ PySem.W.kitAny K t us = some b ∧ Q (.bl b) H
theorem call_isA {X : Cx} : CallR X (.builtin "isinstance") (rIsA X.K) := by
  intro pins s σ H xs us Q I r h
  rcases h with ⟨v, k, t, u, b, rfl, kc, ty, e, q⟩ | ⟨v, tp, cs, t, ws, b, rfl, hT, kc, ty, e, q⟩
  · obtain ⟨u1, u2, rfl, r1, r2⟩ := vals2 r
    obtain rfl := kc.eq r2
    obtain ⟨P, Z, p, hx⟩ := kit_ofE I r1 ty
    exact PySem.W.kia_one Z I.kIn p e hx fun tk => ⟨.bl b, H, I.tok tk, rfl, q⟩
  · obtain ⟨u1, u2, rfl, r1, r2⟩ := vals2 r
    cases (show u2 = Value.ref tp from r2)
    obtain ⟨P, Z, p, hx⟩ := kit_ofE I r1 ty
    obtain ⟨its, rv, ⟨o, h1, h2, n, h3⟩, _⟩ := I.tuple hT
    have e3 := ClsV.all kc rv
    subst e3
    obtain ⟨oc, od, dt, sl⟩ := o
    dsimp only at h2 h3
    subst h2 h3
    exact PySem.W.kia_tup Z I.kIn p h1 e hx fun tk => ⟨.bl b, H, I.tok tk, rfl, q⟩
/-- what is known of the program's classes -/
structure Tab where
  sub : Nat → Nat → Option Bool
  subTy : Nat → String → Option Bool
  kc : String → Nat → Option Bool
structure TabOk (c : Cfg) (tb : Tab) : Prop where
  sub : ∀ n m b, tb.sub n m = some b → PySem.W.kitOne c.K (.ref (c.cl n)) (.ref (c.cl m)) = some b
  subTy : ∀ n m b, tb.subTy n m = some b → PySem.W.kitOne c.K (.ref (c.cl n)) (.type m) = some b
  kc : ∀ n m b, tb.kc n m = some b → PySem.W.kitOne c.K (.type n) (.ref (c.cl m)) = some b
  exc : ∀ n, tb.sub n n = some true → ExcC c.K (c.cl n)
section
variable {c : Cfg} {as as' : List Addr} {H H' : Hp} {σ : L2.St} {δ : Env} {μ : Store} {W : WX} {tb : Tab}
def tyD (μ : Store) : Dat → Option (Sum String Nat)
  | .cell k => match μ[k]? with
    | some (.exc n) => some (.inr n)
    | _ => (kindD μ (.cell k)).map .inl
  | d => (kindD μ d).map .inl
def tyVal (c : Cfg) : Sum String Nat → Value
  | .inl k => .type k
  | .inr n => .ref (c.cl n)
def tabHas (tb : Tab) : Sum String Nat → Bool
  | .inl _ => true
  | .inr n => tb.sub n n == some true
theorem tyD_of {v : V} {d : Dat} {t : Sum String Nat} (ok : TabOk c tb) (st : StH c as H μ) (r : Rel c as H v d) (h : tyD μ d = some t) (hb : tabHas tb t = true) : TyE c.K H v (tyVal c t) := by
  have plain : ∀ {d : Dat} {t : Sum String Nat}, Rel c as H v d → (kindD μ d).map Sum.inl = some t → TyE c.K H v (tyVal c t) := by
    intro d t r h
    cases hk : kindD μ d with
    | none => rw [hk] at h; cases h
    | some k => rw [hk] at h; cases h; exact .x (kindD_of st r hk)
  unfold tyD at h
  split at h
  · split at h
    · rename_i k n hk
      cases h
      cases r with
      | cell ha =>
        have e := st.cell_at hk ha
        exact .exc e (ok.exc n (by simpa [tabHas] using hb))
    · exact plain r h
  · exact plain r h
def oneD (tb : Tab) (t : Sum String Nat) : Dat → Option Bool
  | .ty s => match t with
    | .inl k => kitB k s
    | .inr n => tb.subTy n s
  | .cls m => match t with
    | .inl k => tb.kc k m
    | .inr n => tb.sub n m
  | _ => none
theorem oneD_of {v : V} {d : Dat} {t : Sum String Nat} {b : Bool} (ok : TabOk c tb) (r : Rel c as H v d) (h : oneD tb t d = some b) : ∃ u, ClsV v u ∧ PySem.W.kitOne c.K (tyVal c t) u = some b := by
  cases r with
  | ty n =>
    refine ⟨.type n, .ty n, ?_⟩
    cases t with
    | inl k => exact kit_ty h
    | inr m => exact ok.subTy m n b h
  | cls m =>
    refine ⟨.ref (c.cl m), .own _, ?_⟩
    cases t with
    | inl k => exact ok.kc k m b h
    | inr n => exact ok.sub n m b h
  | _ => cases h
def anyD (tb : Tab) (t : Sum String Nat) : List Dat → Option Bool
  | [] => some false
  | d :: r => match oneD tb t d, anyD tb t r with
    | some a, some b => some (a || b)
    | _, _ => none
theorem anyD_of {t : Sum String Nat} (ok : TabOk c tb) : ∀ {ds : List Dat} {vs : List V} {b : Bool}, RelAll c as H vs ds → anyD tb t ds = some b → ∃ us, Paired ClsV vs us ∧ PySem.W.kitAny c.K (tyVal c t) us = some b
  | [], _, _, r, h => by cases h; cases r; exact ⟨[], .nil, kitAny_nil⟩
  | d :: ds, _, b, r, h => by
    cases r with
    | cons h1 t1 =>
      unfold anyD at h
      split at h
      · rename_i p q e1 e2
        cases h
        obtain ⟨u, k1, k2⟩ := oneD_of ok h1 e1
        obtain ⟨us, k3, k4⟩ := anyD_of ok t1 e2
        refine ⟨u :: us, .cons k1 k3, kitAny_cons k2 (fun hp => ?_) fun hp => ?_⟩
        · subst hp
          exact k4
        · subst hp
          rfl
      · cases h
def fIsA (tb : Tab) : FA := fun ds μ => match ds with
  | [d, .tup cs] => match tyD μ d with
    | some t => if tabHas tb t = true then match anyD tb t cs with
      | some b => .ok (.bl b) μ
      | none => .stuck else .stuck
    | none => .stuck
  | [d, k] => match tyD μ d with
    | some t => if tabHas tb t = true then match oneD tb t k with
      | some b => .ok (.bl b) μ
      | none => .stuck else .stuck
    | none => .stuck
  | _ => .stuck
theorem simc_isA (ok : TabOk c tb) : SimC c (rIsA c.K) (fIsA tb) := by
  intro as H μ vs ds st rs σ W Q h
  unfold fIsA at h
  split at h
  · split at h
    · rename_i t ht
      split at h
      · rename_i hb
        split at h
        · rename_i b hy
          obtain ⟨v, w, rfl, r, rn⟩ := rel2 rs
          cases rn with
          | tup h1 h2 =>
            obtain ⟨us, k3, k4⟩ := anyD_of ok h2 hy
            exact .inr ⟨v, _, _, tyVal c t, us, b, rfl, h1.sq, k3, tyD_of ok st r ht hb, k4, h _ as H .refl st (.bl _)⟩
        · exact h.elim
      · exact h.elim
    · exact h.elim
  · split at h
    · rename_i t ht
      split at h
      · rename_i hb
        split at h
        · rename_i b hy
          obtain ⟨v, w, rfl, r, rn⟩ := rel2 rs
          obtain ⟨u, k1, k2⟩ := oneD_of ok rn hy
          exact .inl ⟨v, w, tyVal c t, u, b, rfl, k1, tyD_of ok st r ht hb, k2, h _ as H .refl st (.bl _)⟩
        · exact h.elim
      · exact h.elim
    · exact h.elim
  · exact h.elim
/-! ### try: body; except x as n: suite, the exception kept -/
/-- the clause names class m; its name has slot i; the suite stores it in slot j -/
def msTry (tb : Tab) (m i j : Nat) (b : MS) : MS := fun δ μ => match b δ μ with
  | .raise n δ' μ' => match tb.sub n m with
    | some true => if i < δ'.length then .nx (((δ'.set i (some (.cell μ'.length))).set j (some (.cell μ'.length))).set i none) (μ' ++ [.exc n]) else .stuck
    | some false => .raise n δ' μ'
    | none => .stuck
  | r => r
theorem sims_try {m i j : Nat} {tbd : WX → TS} {b : MS} (hs : ∀ n k, tb.sub n m = some k → PySem.W.exmOne c.K (.ref (c.cl n)) (.ref (c.cl m)) = some k) (hb : ∀ W, SimS c W (tbd W) b) :
    SimS c W (fun D σ H => tbd (wKeep c.K (.ref (c.cl m)) i (fun _ _ _ => tAsg (tVar i) (gName j)) W D) D σ H) (msTry tb m i j b) := by
  intro as H σ δ μ st env D w
  refine hb _ as H σ δ μ st env D ?_
  unfold msTry at w
  cases hr : b δ μ with
  | nx δ' μ' => rw [hr] at w; exact w
  | rt d μ' => rw [hr] at w; exact w
  | bk δ' μ' => rw [hr] at w; exact w
  | ct δ' μ' => rw [hr] at w; exact w
  | stuck => rw [hr] at w; exact w
  | raise n δ' μ' =>
    rw [hr] at w
    intro σ1 as1 H1 e1 s1 env1
    dsimp only at w
    split at w
    · rename_i hk
      split at w
      · rename_i hlt
        refine ⟨true, hs n true hk, fun _ a na => ?_, fun z => absurd z.symm Bool.false_ne_true⟩
        have hi1 : i < σ1.length := by rw [env1.len]; exact hlt
        refine ⟨.ref a, by rw [List.getElem?_set_self hi1], fun nb => ?_⟩
        have ea : Ext as1 H1 (as1 ++ [a]) (upd H1 a (ExOd (.ref (c.cl n)) none a)) := ext_alloc na
        have sa := s1.alloc (o := ExOd (.ref (c.cl n)) none a) (x := .exc n) na upd_same
        have ra : Rel c (as1 ++ [a]) (upd H1 a (ExOd (.ref (c.cl n)) none a)) (.ref a) (.cell μ'.length) := rel_alloc s1
        exact w _ _ _ (e1.trans ea) sa ((((env1.mono ea).set i ra).set j ra).setN i)
      · exact w.elim
    · rename_i hk
      exact ⟨false, hs n false hk, (fun z => absurd z Bool.false_ne_true), fun _ => w σ1 as1 H1 e1 s1 env1⟩
    · exact w.elim
end
end Nh

namespace Nh
open PySem PySem.Spec PyProof.Rows L2
/-- a text some times over -/
def rMulS : R2 := fun x y H Q => ∃ (z : Str) (n : Int), x = .str z ∧ y = .int n ∧ (0 ≤ n ∧ n ≤ 1000 ∧ z.length ≤ 1000) ∧ Q (.str (Txt.mul z n)) H
theorem mulOk_small {z : Str} {n : Int} (h : 0 ≤ n ∧ n ≤ 1000 ∧ z.length ≤ 1000) : MulOk z n := by
  obtain ⟨h0, h1, h2⟩ := h
  refine ⟨?_, fun hn _ => ?_, fun hn _ => ?_⟩
  · rw [decide_eq_false (by omega : ¬ n < -(2 ^ 63 : Int)), decide_eq_false (by omega : ¬ n ≥ 2 ^ 63)]
    rfl
  · have hz : (z.length : Int) ≤ 1000 := by omega
    have hq : (1000 : Int) ≤ (2 ^ 63 - 1) / n := by
      refine (Int.le_ediv_iff_mul_le (by omega)).mpr ?_
      omega
    omega
  · unfold Builtin.Str.tooLong
    have hm : z.length * n.toNat ≤ 1000 * 1000 := Nat.mul_le_mul h2 (by omega)
    have hs : sizeLine = 16777216 := sizeLine_eq
    simp only [decide_eq_false_iff_not, Nat.not_lt, gt_iff_lt]
    omega
theorem op_mulS {X : Cx} : OpR X (binaryOp .Mult) rMulS := by
  intro pins s σ H x y v u Q I rx ry h
  obtain ⟨z, n, rfl, rfl, hok, q⟩ := h
  obtain ⟨t, rfl⟩ := rx
  obtain ⟨t2, rfl⟩ := ry
  exact PySem.SB.mul (mulOk_small hok) fun t' k => ⟨.str _, H, I.tok k, ⟨t', rfl⟩, q⟩
section
variable {c : Cfg}
def fMulS : F2 := fun x y μ => match x, y with
  | .str z, .int n => if 0 ≤ n ∧ n ≤ 1000 ∧ z.length ≤ 1000 then .ok (.str (Txt.mul z n)) μ else .stuck
  | _, _ => .stuck
theorem simr_mulS : SimR c rMulS fMulS := by
  intro as H μ v w x y st rx ry σ W Q h
  unfold fMulS at h
  split at h
  · split at h
    · rename_i hz
      cases rx
      cases ry
      exact ⟨_, _, rfl, rfl, hz, h _ as H .refl st (.str _)⟩
    · exact h.elim
  · exact h.elim
end
end Nh

namespace Nh
open PySem PySem.Spec PyProof.Rows L2
/-! ### isinstance and except over own classes, from what the top has written -/
theorem kit_one {K : PySem.W.Frag} {A C : Addr} {b : Bool} (ci : PySem.W.isClsIn K C = true) (ty : PySem.W.typeIn K (.ref C) = some (.type "type")) (self : PySem.W.subIn K (.ref C) (.ref C) = some true)
    (s : PySem.W.subIn K (.ref A) (.ref C) = some b) : PySem.W.kitOne K (.ref A) (.ref C) = some b := by
  unfold PySem.W.kitOne
  by_cases e : ((Value.ref A) == (Value.ref C)) = true
  · rw [if_pos e]
    have e2 : A = C := Value.ref.inj (beq_iff_eq.mp e)
    subst e2
    exact self.symm.trans s
  · rw [if_neg e]
    show (if ((PySem.W.clsIn K C).isSome && PySem.W.typeIn K (.ref C) == some (.type "type")) = true then PySem.W.subIn K (.ref A) (.ref C) else none) = some b
    have ci' : (PySem.W.clsIn K C).isSome = true := ci
    rw [ci', ty, if_pos (by rfl)]
    exact s
theorem exm_one_ {K : PySem.W.Frag} {A C : Addr} {b : Bool} (bs : PySem.W.subIn K (.ref C) (.type "BaseException") = some true) (ci : PySem.W.isClsIn K C = true) (ty : PySem.W.typeIn K (.ref C) = some (.type "type"))
    (s : PySem.W.subIn K (.ref A) (.ref C) = some b) : PySem.W.exmOne K (.ref A) (.ref C) = some b := by
  unfold PySem.W.exmOne
  rw [bs, if_pos (by rfl)]
  show (if ((PySem.W.clsIn K C).isSome && PySem.W.typeIn K (.ref C) == some (.type "type")) = true then PySem.W.subIn K (.ref A) (.ref C) else none) = some b
  have ci' : (PySem.W.clsIn K C).isSome = true := ci
  rw [ci', ty, if_pos (by rfl)]
  exact s
theorem kit_val {K : PySem.W.Frag} {A : Addr} {t : String} {b : Bool} (s : PySem.W.subIn K (.ref A) (.type t) = some b) (hm : PySem.W.kitMeta t = true) : PySem.W.kitOne K (.ref A) (.type t) = some b := by
  unfold PySem.W.kitOne
  have ne : ¬ ((Value.ref A == Value.type t) = true) := fun e => Value.noConfusion (beq_iff_eq.mp e)
  rw [if_neg ne]
  show (if PySem.W.kitMeta t = true then PySem.W.subIn K (.ref A) (.type t) else none) = some b
  rw [if_pos hm]
  exact s
/-! ### the law itself -/
theorem fn_mono {P : Program} {w : World} {K : PySem.W.Frag} {mg : Str → Option Value} {base : Heap} {CX : CXT} {k : Nat} {f : Addr} {fd : FuncData} {ps : List Str} {sp sp' : Sp}
    (F : FnOk P w K mg base CX k f fd ps sp) (h : ∀ vs H Q E, sp' vs H Q E → sp vs H Q E) (hl : ∀ vs H Q E, sp' vs H Q E → vs.length = 1 → True) : FnOk P w K mg base CX k f fd ps sp' :=
  ⟨fun vs H Q E z => F.len vs H Q E (h vs H Q E z), fun A outer s H args us vs Q E hr e0 hb r z => F.run A outer s H args us vs Q E hr e0 hb r (h vs H Q E z)⟩
def spLaw (K : PySem.W.Frag) : Sp := fun vs H Q _ => ∃ (a : Addr) (ns : List Int), vs = [.ref a] ∧ ns.length ≤ 63 ∧ Only H ∧ SqL K H a (ns.map V.int) ∧ ∀ H', Q (.bl true) H'
theorem sp_law (c : Cfg) (f : FA) (law : ∀ ns : List Int, ns.length ≤ 63 → ∃ μ, f [.ro ns] [] = .ok (.bl true) μ) {vs : List V} {H : Hp} {Q : VK} {E : XK} (h : spLaw c.K vs H Q E) : spM c 1 f vs H Q E := by
  obtain ⟨a, ns, rfl, hl, hO, hS, q⟩ := h
  obtain ⟨μ, e⟩ := law ns hl
  have ro : RoL c.K H a (ns.map V.int) := by
    rcases hS with (z | z) | z
    · rcases hO a with y | ⟨o, xs, y⟩
      · rw [y] at z; cases z
      · rw [y] at z; cases z
    · exact .inl z
    · obtain ⟨o, its, n, h1, h2, h3⟩ := id z
      exact .inr ⟨fun _ => .inr z, o, h1, h2⟩
  refine ⟨rfl, [], [], [.ro ns], ⟨List.nodup_nil, rfl, fun k x z => nomatch z⟩, .cons (.ro ro) .nil, ?_⟩
  rw [e]
  intro v as' H' _ _ r
  cases r
  exact q H'
end Nh

namespace Nh
open PySem PySem.Spec PyProof.Rows L2
theorem fm_congr {α β : Type} {f g : α → Option β} : ∀ {l : List α}, (∀ a ∈ l, f a = g a) → l.filterMap f = l.filterMap g
  | [], _ => rfl
  | a :: r, h => by
    rw [List.filterMap_cons, List.filterMap_cons, h a List.mem_cons_self, fm_congr fun b hb => h b (List.mem_cons_of_mem _ hb)]
/-! ### x[::-1] of a tuple, of a list -/
section
variable {prog : Program} {w : World} {A : Around} {E : Value → Shared → Prop} {s : Shared}
theorem back_places (n : Nat) : Builtin.Slice.slicePlaces ((n : Int) - 1) (-1) (-1) = n := by
  unfold Builtin.Slice.slicePlaces
  rw [if_neg (by decide)]
  by_cases h : (n : Int) - 1 > -1
  · rw [if_pos h, show (- -1 : Int) = 1 by decide, Int.ediv_one]
    omega
  · rw [if_neg h]
    omega
theorem back_applied {sl : Addr} {tk : Tok} {n : Nat} {Q : Int × Int × Nat → Shared → Prop} (hs : s.heap.IsSliceOf sl .none .none (.int (-1) tk)) (q : Q ((n : Int) - 1, -1, n) s) :
    wpAny (model prog w) A (Builtin.Slice.sliceApplied (.ref sl) (pure (n : Int))) Q E s := by
  obtain ⟨os, e1, _, e2⟩ := id hs
  unfold Builtin.Slice.sliceApplied Builtin.Slice.sliceFields
  refine wpAny_bind (wpAny_bind (wpAny_field e1 e2 (x := .none) rfl (wpAny_bind (wpAny_field e1 e2 (x := .none) rfl (wpAny_bind (wpAny_field e1 e2 (x := .int (-1) tk) rfl (wpAny_pure ?_)))))))
  refine wpAny_bind (HT.slicePart_ (.int (-1) tk) ?_)
  show wpAny _ _ (if ((-1 : Int) == 0) = true then _ else _) _ _ s
  rw [if_neg (by decide)]
  refine wpAny_bind (HT.slicePart_ .none (wpAny_bind (HT.slicePart_ .none (wpAny_bind (wpAny_pure ?_)))))
  show wpAny _ _ (pure ((n : Int) - 1, (-1 : Int), Builtin.Slice.slicePlaces ((n : Int) - 1) (-1) (-1))) _ _ s
  rw [back_places]
  exact wpAny_pure q
theorem back_pick (xs : Array Value) : ((List.range xs.size).filterMap fun (j : Nat) => xs[(((xs.size : Nat) : Int) - 1 + (j : Int) * (-1)).toNat]?).toArray = xs.toList.reverse.toArray := by
  congr 1
  have e : ∀ j ∈ List.range xs.size, xs[(((xs.size : Nat) : Int) - 1 + (j : Int) * (-1)).toNat]? = xs[xs.size - 1 - j]? := fun j hj => by
    have := List.mem_range.mp hj
    rw [show (((xs.size : Nat) : Int) - 1 + (j : Int) * (-1)).toNat = xs.size - 1 - j by omega]
  have e2 : (List.range xs.size).filterMap (fun (j : Nat) => xs[(((xs.size : Nat) : Int) - 1 + (j : Int) * (-1)).toNat]?) = (List.range xs.size).filterMap (fun j => xs[xs.size - 1 - j]?) := fm_congr e
  rw [e2]
  apply List.ext_getElem?
  intro i
  have e3 : (List.range xs.size).filterMap (fun j => xs[xs.size - 1 - j]?) = (List.range xs.size).map (fun j => (xs[xs.size - 1 - j]?).getD .none) := by
    rw [← List.filterMap_eq_map]
    refine fm_congr fun j hj => ?_
    have := List.mem_range.mp hj
    show xs[xs.size - 1 - j]? = some ((xs[xs.size - 1 - j]?).getD .none)
    rw [Array.getElem?_eq_getElem (by omega)]
    rfl
  rw [e3, List.getElem?_map]
  by_cases hi : i < xs.size
  · rw [List.getElem?_range hi, List.getElem?_reverse (by rw [Array.length_toList]; exact hi), Array.length_toList, Array.getElem?_toList]
    show some ((xs[xs.size - 1 - i]?).getD .none) = _
    rw [Array.getElem?_eq_getElem (by omega)]
    rfl
  · rw [List.getElem?_eq_none (by rw [List.length_range]; omega), List.getElem?_eq_none (by rw [List.length_reverse, Array.length_toList]; omega)]
    rfl
theorem back_tuple {t sl : Addr} {xs : Array Value} {tk : Tok} {Q : Value → Shared → Prop} (ht : IsTup s.heap t xs) (hs : s.heap.IsSliceOf sl .none .none (.int (-1) tk)) (hz : xs.size ≤ sizeLine)
    (q : Q (.ref s.heap.objs.size) { s with heap := s.heap.push { cls := .type "tuple", data := .seq xs.toList.reverse.toArray } }) : wpAny (model prog w) A (getItem (.ref t) (.ref sl)) Q E s := by
  have fit : sizeOk (.seq xs.toList.reverse.toArray) := by
    show xs.toList.reverse.toArray.size ≤ sizeLine
    rw [List.size_toArray, List.length_reverse, Array.length_toList]
    exact hz
  obtain ⟨os, e1, e2, _⟩ := id hs
  have kind : s.TypeIs (.ref sl) "slice" := ⟨os, e1, e2⟩
  unfold getItem
  try with_reducible refine wpAny_holding ?_
  first | refine wpAny_bind (wpAny_pure ?_) | skip
  refine wpAny_bind (wpAny_sequenceKey ht.typeIs (by decide) ?_)
  refine wpAny_bind (wpAny_callSpecial?_slot (name := Str.ofString "__getitem__") ht.typeIs PyProof.Rows.slot_tuple_getitem (wpAny_call_entry PyProof.Rows.slot_tuple_getitem ht.typeIs entry_tuple_getitem ?_ (args_tuple_getitem _ _)))
  show wpAny _ _ (Builtin.Tuple.tupleItemsOf (.ref t) >>= fun _ => _) _ _ s
  refine wpAny_bind (tupleItemsOf_ ht ?_)
  refine wpAny_bind (wpAny_typeOf kind ?_)
  rw [if_pos (by decide)]
  refine wpAny_bind (back_applied hs ?_)
  have no : ¬ ((((xs.size : Nat) : Int) - 1 == 0 && (-1 : Int) == 1 && xs.size == xs.size) = true) := by
    intro z
    rw [Bool.and_eq_true, Bool.and_eq_true] at z
    exact absurd (eq_of_beq z.1.2) (by decide)
  show wpAny _ _ (if (((xs.size : Nat) : Int) - 1 == 0 && (-1 : Int) == 1 && xs.size == xs.size) = true then _ else _) _ _ s
  rw [if_neg no, back_pick]
  first
    | exact wpAny_bind (m := Builtin.Tuple.tupleExact _) (wpAny_newObj_type (wpAny_pure ⟨_, rfl, wpAny_pure q⟩) fit)
    | exact wpAny_bind (m := Builtin.Tuple.tupleExact _) (wpAny_newObj_type (wpAny_bind (wpAny_pure (wpAny_pure ⟨_, rfl, wpAny_pure q⟩))) fit)
    | exact wpAny_bind (wpAny_bind (m := Builtin.Tuple.tupleExact _) (wpAny_newObj_type (wpAny_pure (wpAny_pure ⟨_, rfl, wpAny_pure q⟩)) fit))
    | exact wpAny_bind (wpAny_bind (m := Builtin.Tuple.tupleExact _) (wpAny_newObj_type (wpAny_pure ⟨_, rfl, wpAny_pure q⟩) fit))
end
/-- a reading of x[::-1] -/
def BackR (X : Cx) (r : V → Hp → VK → Prop) : Prop :=
  ∀ (pins : List (Addr × Obj)) (s : Shared) (σ : L2.St) (H : Hp) (x : V) (v : Value) (tk : Tok) (sl : Addr) (Q : VK), Inv X pins σ H s → RelV x v → s.heap.IsSliceOf sl .none .none (.int (-1) tk) → r x H Q →
    ∃ T id, typeLookup (.type T) "__getitem__" = pure (some (.builtin id)) ∧ s.TypeIs v T ∧ wpAny (model X.prog X.w) X.A (getItem v (.ref sl)) (EP X pins σ Q) X.xe s
def tBack (r : V → Hp → VK → Prop) (te : TE) (tl : TO) : TE := fun σ H Q => te σ H fun x H1 => tl σ H1 fun o H2 => o = some (-1) ∧ r x H2 Q
theorem pe_back {X : Cx} {e c : Expr} {p2 pos : Pos} {te : TE} {tl : TO} {r : V → Hp → VK → Prop} (hr : BackR X r) (he : PE X e te) (hc : PO X (some c) tl)
    (hb : ∀ (v : Value) (d : Addr), ∃ ops, subscripted (.Slice none none (some c) p2) false v (.ref d) = operate ops (getItem v (.ref d)) := by intro v d; exact ⟨_, by with_unfolding_all rfl⟩) : PE X (.Subscript e (.Slice none none (some c) p2) pos) (tBack r te tl) := by
  refine ⟨fun pins s σ H Q I h => ?_⟩
  refine Subscript_ (thn (he.run pins s σ H _ I h) fun v s1 ⟨x, H1, I1, r1, q1⟩ => ?_)
  refine wpAny_Slice (wpAny_pure (wpAny_pure ?_))
  refine thn (hc.run pins s1 σ H1 _ I1 q1) fun u s2 ⟨o, H2, I2, pu, ho, q2⟩ => ?_
  subst ho
  cases pu with
  | int _ tk =>
    have I3 : Inv X pins σ H2 { s2 with heap := s2.heap.push { cls := .type "slice", data := .fields #[.none, .none, .int (-1) tk] } } := I2.kept (t' := s2.toks) fun _ _ z => Heap.get?_push_of_some _ z
    obtain ⟨T, id, hT, ht, hg⟩ := hr pins _ σ H2 x v tk s2.heap.objs.size Q I3 r1 (Heap.IsSliceOf.new ..) q2
    obtain ⟨ops, eo⟩ := hb v s2.heap.objs.size
    exact tail_any (ops := ops) ht hT hg eo
def rBackT (K : PySem.W.Frag) : V → Hp → VK → Prop := fun x H Q => ∃ a xs, x = .ref a ∧ SqT K H a xs ∧ ∀ p, H p = none → Q (.ref p) (upd H p (.tup xs.reverse))
def rBackL (K : PySem.W.Frag) : V → Hp → VK → Prop := fun x H Q => ∃ a xs, x = .ref a ∧ SqL K H a xs ∧ ∀ p, H p = none → Q (.ref p) (upd H p (.lst xs.reverse))
theorem vals_back : ∀ {xs : List V} {us : List Value}, Vals xs us → Vals xs.reverse us.reverse
  | _, _, .nil => .nil
  | _, _, .cons h t => by
    rw [List.reverse_cons, List.reverse_cons]
    exact (vals_back t).append (.cons h .nil)
theorem back_tup {X : Cx} : BackR X (rBackT X.K) := by
  intro pins s σ H x v tk sl Q I rx hs h
  obtain ⟨a, xs, rfl, hx, q⟩ := h
  cases rx
  obtain ⟨us, r, ht, hz⟩ := I.tuple hx
  have hl : us.length = xs.length := r.length.symm
  refine ⟨"tuple", _, PyProof.Rows.slot_tuple_getitem.lookup, ht.typeIs, ?_⟩
  refine back_tuple ht hs (by rw [List.size_toArray, hl]; exact hz) ?_
  exact ⟨.ref s.heap.objs.size, _, I.laid (t' := s.toks) (o := .tup xs.reverse) (fun _ _ z => Heap.get?_push_of_some _ z) (Nat.le_refl _) ⟨by rw [List.length_reverse]; exact hz, _, vals_back r, IsTup.new _ _⟩, rfl, q _ (I.hok.fresh (Nat.le_refl _))⟩
theorem back_lst {X : Cx} : BackR X (rBackL X.K) := by
  intro pins s σ H x v tk sl Q I rx hs h
  obtain ⟨a, xs, rfl, hx, q⟩ := h
  cases rx
  obtain ⟨us, r, hl, hz⟩ := I.list hx
  have hn : us.length = xs.length := r.length.symm
  refine ⟨"list", _, slot_list_getitem.lookup, hl.isList.typeIs, ?_⟩
  refine wpAny_getItem_list_slice hl.isList hs .none .none (.int (-1) tk) (by decide) ?_ (by rw [List.size_toArray, hn]; exact hz)
  rw [PySem.W.krv_pick]
  exact ⟨.ref s.heap.objs.size, _, I.laid (t' := s.toks) (o := .lst xs.reverse) (fun _ _ z => Heap.get?_push_of_some _ z) (Nat.le_refl _) ⟨by rw [List.length_reverse]; exact hz, _, 0, vals_back r, Heap.get?_push_size _ rfl⟩, rfl, q _ (I.hok.fresh (Nat.le_refl _))⟩
/-! ### as plain functions -/
section
variable {c : Cfg} {W : WX} {as as' : List Addr} {H H' : Hp} {μ : Store}
theorem RelAll.back {vs : List V} {ds : List Dat} (r : RelAll c as H vs ds) : RelAll c as H vs.reverse ds.reverse := by
  induction vs generalizing ds with
  | nil => cases r; exact .nil
  | cons v vs ih =>
    cases r with
    | cons h t =>
      rw [List.reverse_cons, List.reverse_cons]
      exact (ih t).append (.cons h .nil)
def mBack (f : F1) (a : M Dat) (l : M (Option Int)) : M Dat := fun δ μ => (a δ μ).bind fun x μ1 => (l δ μ1).bind fun o μ2 => if o = some (-1) then f x μ2 else .stuck
def SimB (c : Cfg) (r : V → Hp → VK → Prop) (f : F1) : Prop := ∀ as H μ v x, StH c as H μ → Rel c as H v x → ∀ σ W Q, Want c (Rel c) (f x μ) as H σ Q W → r v H Q
theorem sim_back {r : V → Hp → VK → Prop} {f : F1} {te : TE} {tl : TO} {a : M Dat} {l : M (Option Int)} (hr : SimB c r f) (ha : SimE c W te a) (hl : SimO c W tl l) : SimE c W (tBack r te tl) (mBack f a l) := by
  intro as H σ δ μ st env Q w
  refine ha as H σ δ μ st env _ ((want_bind (R1 := Rel c) w).imp ?_)
  rintro v H1 ⟨as1, μ1, x, e, s1, rx, w1⟩
  refine hl as1 H1 σ δ μ1 s1 (env.mono e) _ ((want_bind (R1 := fun _ _ b d => b = d) w1).imp ?_)
  rintro o H2 ⟨as2, μ2, y, e2, s2, ry, w2⟩
  subst ry
  split at w2
  · rename_i ho
    exact ⟨ho, hr as2 H2 μ2 v x s2 (rx.mono e2) σ W Q w2⟩
  · exact w2.elim
def fBackT : F1 := fun x μ => match x with
  | .tup ds => .ok (.tup ds.reverse) μ
  | _ => .stuck
theorem simb_backT : SimB c (rBackT c.K) fBackT := by
  intro as H μ v x st rx σ W Q h
  unfold fBackT at h
  split at h
  · cases rx with
    | tup h1 h2 => exact ⟨_, _, rfl, h1.sq, fun p hp => h _ as _ (ext_new hp) (st.tup hp) (.tup upd_same ((RelAll.back h2).mono (ext_new hp)))⟩
  · exact h.elim
def fBackL : F1 := fun x μ => match lstAt μ x with
  | some ds => allocR (.lst ds.reverse) μ
  | none => .stuck
theorem simb_backL : SimB c (rBackL c.K) fBackL := by
  intro as H μ v x st rx σ W Q h
  unfold fBackL at h
  split at h
  · rename_i ds hd
    obtain ⟨a, xs, rfl, h1, h2⟩ := lstAt_of st rx hd
    exact ⟨a, xs, rfl, h1, fun p hp => h _ _ _ (ext_alloc hp) (st.alloc hp ⟨_, upd_same, (RelAll.back h2).mono (ext_alloc hp)⟩) (rel_alloc st)⟩
  · exact h.elim
/-! ### xs.insert(i, y) -/
def rIns : V → List V → Hp → VK → Prop := fun x vs H Q => ∃ (l : Addr) (xs : List V) (i : Int) (y : V), x = .ref l ∧ vs = [.int i, y] ∧ H l = some (.lst xs) ∧ xs.length < sizeLine ∧ 0 ≤ i ∧ i < 2 ^ 63 ∧
  Q .non (upd H l (.lst (xs.take i.toNat ++ [y] ++ xs.drop i.toNat)))
def fInsert : Dat → FA := fun x ds μ => match x, ds with
  | .cell k, [.int i, y] => match μ[k]? with
    | some (.lst es) => if es.length < sizeLine ∧ 0 ≤ i ∧ i < 2 ^ 63 then .ok .non (μ.set k (.lst (es.take i.toNat ++ [y] ++ es.drop i.toNat))) else .stuck
    | _ => .stuck
  | _, _ => .stuck
theorem simb_insert : SimBM c rIns fInsert := by
  intro as H μ v x vs ds st rx rs σ W Q h
  unfold fInsert at h
  split at h
  · rename_i k i y
    split at h
    · rename_i es hk
      split at h
      · rename_i hz
        obtain ⟨u1, u2, rfl, r1, r2⟩ := rel2 rs
        cases r1
        cases rx with
        | @cell _ a ha =>
          obtain ⟨xs, h1, h2⟩ := st.cell_at hk ha
          have ee := ext_set (o := .lst (xs.take i.toNat ++ [u2] ++ xs.drop i.toNat)) st hk ha
          exact ⟨a, xs, i, u2, rfl, rfl, h1, by rw [h2.length]; exact hz.1, hz.2.1, hz.2.2, h _ as _ ee (st.set hk ha ⟨_, upd_same, (((h2.take _).append (.cons r2 .nil)).append (h2.drop _)).mono ee⟩) .non⟩
      · exact h.elim
    · exact h.elim
  · exact h.elim
end
end Nh

namespace Nh
open PySem PySem.Spec PySem.W PyProof.Rows PySem.SeqAt PySem.Calls
section
variable {prog : Program} {w : World} {A : Around} {E : Value → Shared → Prop} {s : Shared}
theorem call_tup_lt {l b : Addr} {us vs : Array Value} {e r : Nat → Bool} {Q : Value → Shared → Prop} (hl : s.heap.IsTuple l us) (hb : s.heap.IsTuple b vs)
    (he : ∀ j (h1 : j < us.size) (h2 : j < vs.size), EqAt A.in1 s us[j] vs[j] (e j)) (hr : ∀ j (h1 : j < us.size) (h2 : j < vs.size), e j = false → RcLt A.in1 s us[j] vs[j] (r j))
    (q : Q (.bool (firstLt e r (decide (us.size < vs.size)) (List.range (min us.size vs.size)))) s) : wpAny (model prog w) A (call (.builtin "tuple.__lt__") [.ref l, .ref b]) Q E s := by
  obtain ⟨⟨c1, d1, x1, s1⟩, o1, k1, n1, z1⟩ := id hl
  obtain ⟨⟨c2, d2, x2, s2⟩, o2, k2, n2, z2⟩ := id hb
  dsimp only at k1 z1 k2 z2
  subst k1 z1 k2 z2
  exact call_meets F.slot_tuple_lt ⟨_, o1, rfl⟩ F.entry_tuple_lt (F.args_tuple_lt_2 _ _) (tuple_ltAt l b us vs n1 n2 d1 d2 s1 s2 e r) ⟨o1, o2, he, hr, q⟩
/-- tuples that are alike, one against the other, in either way of comparing -/
theorem oneLt_tups {f : Bool} {xs ys : List PyData} {a b : Value} {as bs : List Addr} {Q : Bool → Shared → Prop} (ra : Reads s.heap a (.tuple xs) as) (rb : Reads s.heap b (.tuple ys) bs) (h : alike (.tuple xs) (.tuple ys) = true)
    (hu : A.units + min (PyData.depth (.tuple xs)) (PyData.depth (.tuple ys)) < cLine) (q : Q (dataLt (.tuple xs) (.tuple ys)) s) : wpAny (model prog w) A (oneLt' f a b) Q E s := by
  cases f with
  | false => exact oneLt_alike (fun z => nomatch z) ra rb h (fun z => nomatch z) hu q
  | true =>
    have hal : alikeAll xs ys = true := by simpa [alike] using h
    cases ra with
    | @tuple l o us n _ _ h1 h2 h3 h4 =>
      cases rb with
      | @tuple l' o' vs n' _ _ k1 k2 k3 k4 =>
        have e1 : us.size = xs.length := by simpa using ReadsAll.length _ _ _ h4
        have e2 : vs.size = ys.length := by simpa using ReadsAll.length _ _ _ k4
        rw [dataLt_tuple, ← firstLt_toks xs ys hal, ← e1, ← e2] at q
        rw [oneLt'_eq]
        simp only [if_true]
        refine wpAny_bind (wpAny_cRoomFor (room_here hu) ?_)
        refine wpAny_bind (wpAny_callSpecialIfBound?_slot (T := "tuple") ⟨_, h1, h2⟩ F.slot_tuple_lt (call_tup_lt (e := pairEq xs ys) (r := fun j => dataLt (xs.getD j .none) (ys.getD j .none)) ⟨_, h1, h2, _, h3⟩ ⟨_, k1, k2, _, k3⟩ (fun j j1 j2 => ?_) (fun j j1 j2 hj => ?_) ?_))
        · have z := eqAt_alikeAll xs ys A.in1 s us.toList vs.toList _ _ h4 k4 hal (room_in hu) j (by simpa using j1) (by simpa using j2)
          simpa using z
        · have z := rcLt_alikeAll xs ys A.in1 s us.toList vs.toList _ _ h4 k4 hal (room_in hu) j (by simpa using j1) (by simpa using j2) hj
          simpa using z
        · exact wpAny_truthy_bool q
theorem mapM_each {M : Model} {α β : Type} {f : α → Sem β} {g : α → β} : ∀ (l : List α) {Q : List β → Shared → Prop}, (∀ v ∈ l, ∀ (Q' : β → Shared → Prop), Q' (g v) s → wpAny M A (f v) Q' E s) → Q (l.map g) s → wpAny M A (l.mapM f) Q E s
  | [], _, _, q => by
    rw [List.mapM_nil]
    exact wpAny_pure q
  | v :: l, Q, hf, q => by
    rw [List.mapM_cons]
    refine wpAny_bind (hf v List.mem_cons_self _ (wpAny_bind ?_))
    exact mapM_each l (Q := fun bs s' => wpAny M A (pure (g v :: bs)) Q E s') (fun u hu => hf u (List.mem_cons_of_mem _ hu)) (wpAny_pure q)
def firstIn (h : Heap) : Value → Option Value
  | .ref a => match h.get? a with
    | some o => match o.data with
      | .seq xs _ => xs[0]?
      | _ => none
    | none => none
  | _ => none
theorem first_here {M : Model} {a : Addr} {o : Obj} {us : Array Value} {n : Nat} {Q : Option Value → Shared → Prop} (ho : s.heap.get? a = some o) (hc : o.cls = .type "tuple") (hd : o.data = .seq us n) (q : Q (firstIn s.heap (.ref a)) s) :
    wpAny M A (firstOfTuple' (.ref a)) Q E s := by
  rw [kas_first_eq]
  refine wpAny_bind (wpAny_typeOf ⟨o, ho, hc⟩ ?_)
  rw [if_neg (by decide)]
  refine wpAny_bind (listItems_at ho hd (wpAny_pure ?_))
  unfold firstIn at q
  dsimp only at q
  rw [ho] at q
  dsimp only at q
  rw [hd] at q
  exact q
theorem kind_tups {M : Model} {vs : List Value} {Q : SortKind → Shared → Prop} (h2 : 2 ≤ vs.length) (ht : ∀ v ∈ vs, ∃ a o us n, v = .ref a ∧ s.heap.get? a = some o ∧ o.cls = .type "tuple" ∧ o.data = .seq us n) (he : ∃ v ∈ vs, firstIn s.heap v = none)
    (q : Q (if ((vs.map (firstIn s.heap))[0]?.bind id).isSome = true then general' else oneType') s) : wpAny M A (keyKind' vs.toArray) Q E s := by
  rw [keyKind'_eq, List.mapM_toArray, map_eq_pure_bind]
  refine wpAny_bind (wpAny_bind (mapM_each (g := firstIn s.heap) vs (fun v hv Q' q' => ?_) (wpAny_pure ?_)))
  · obtain ⟨a, o, us, n, rfl, h1, h3, h4⟩ := ht v hv
    exact first_here h1 h3 h4 q'
  · have no : ¬ ((vs.map (firstIn s.heap)).toArray.all fun x => x.isSome) = true := by
      intro z
      obtain ⟨v, hv, e⟩ := he
      simp only [List.all_toArray, List.all_map, List.all_eq_true] at z
      have := z v hv
      simp only [Function.comp_apply, e] at this
      cases this
    rw [if_neg no]
    have e0 : (vs.map (firstIn s.heap)).toArray[0]? = (vs.map (firstIn s.heap))[0]? := by simp
    rw [e0]
    by_cases hf : ((vs.map (firstIn s.heap))[0]?.bind id).isSome = true
    · rw [if_pos hf] at q ⊢
      exact wpAny_pure q
    · rw [if_neg hf] at q ⊢
      rw [oneTypeOnly'_eq, List.mapM_toArray, map_eq_pure_bind]
      refine wpAny_bind (wpAny_bind (wpAny_bind (mapM_each (g := fun _ => Value.type "tuple") vs (fun v hv Q' q' => ?_) (wpAny_pure ?_))))
      · obtain ⟨a, o, us, n, rfl, h1, h3, h4⟩ := ht v hv
        exact wpAny_typeOf ⟨o, h1, h3⟩ q'
      · obtain ⟨v0, r, rfl⟩ : ∃ v0 r, vs = v0 :: r := by
          cases vs with
          | nil => simp at h2
          | cons v0 r => exact ⟨v0, r, rfl⟩
        have ea : ((v0 :: r).map fun _ => Value.type "tuple").toArray[0]? = some (Value.type "tuple") := by simp
        have eb : (((v0 :: r).map fun _ => Value.type "tuple").toArray.all fun x => x == Value.type "tuple") = true := by
          simp only [List.all_toArray, List.all_map, List.all_eq_true]
          intro _ _
          exact beq_self_eq_true (Value.type "tuple")
        rw [ea]
        simp only [eb, if_true]
        exact wpAny_pure (wpAny_pure q)
theorem reads_tup {h : Heap} {v : Value} {xs : List PyData} {as : List Addr} (r : Reads h v (.tuple xs) as) : ∃ a o us n, v = .ref a ∧ h.get? a = some o ∧ o.cls = .type "tuple" ∧ o.data = .seq us n ∧ us.size = xs.length := by
  cases r with
  | @tuple a o us n _ _ h1 h2 h3 h4 => exact ⟨a, o, us, n, rfl, h1, h2, h3, by simpa using ReadsAll.length _ _ _ h4⟩
theorem each_right {α β : Type} {R : α → β → Prop} : ∀ {vs : List α} {ds : List β}, EachIs R vs ds → ∀ {d : β}, d ∈ ds → ∃ v, v ∈ vs ∧ R v d
  | _, _, .nil, _, h => nomatch h
  | _, _, .cons (a := v) hr t, d, h => by
    rcases List.mem_cons.mp h with rfl | h
    · exact ⟨v, List.mem_cons_self, hr⟩
    · obtain ⟨u, hu, r⟩ := each_right t h
      exact ⟨u, List.mem_cons_of_mem _ hu, r⟩
theorem sorts_tups {vs : List Value} {ds : List PyData} (e : EachIs (fun v d => ∃ as, Reads s.heap v d as) vs ds) (hal : AllAlike ds) (ht : ∀ d ∈ ds, ∃ xs, d = .tuple xs) (hu : ∀ d, d ∈ ds → A.units + d.depth < cLine) : SortsAt prog w A s (dataKind s.heap ds) vs := by
  by_cases hne : ∀ d ∈ ds, d ≠ .tuple []
  · refine SortsAt.data e hal (.inl fun d hd => ?_) hu
    obtain ⟨xs, rfl⟩ := ht d hd
    cases xs with
    | nil => exact (hne _ hd rfl).elim
    | cons x r => exact ⟨x, r, rfl⟩
  · have room : ∀ {d d' : PyData}, d ∈ ds → A.units + min d.depth d'.depth < cLine := fun {d d'} hd => Nat.lt_of_le_of_lt (Nat.add_le_add_left (Nat.min_le_left _ _) _) (hu d hd)
    refine ⟨fun v hv => ?_, if ((vs.map (firstIn s.heap))[0]?.bind id).isSome = true then general' else oneType', ?_, fun h2 E Q q => ?_⟩
    · obtain ⟨d, hd, as, r⟩ := e.left v hv
      exact ⟨_, dataKind_some hal hd r⟩
    · intro E x y a b Q ha hb q
      obtain ⟨d, as, hd, ra, rfl⟩ := dataKind_inv ha
      obtain ⟨d', as', hd', rb, rfl⟩ := dataKind_inv hb
      have hdd := hal d hd d' hd'
      have hroom := room (d' := d') hd
      obtain ⟨xs, rfl⟩ := ht d hd
      obtain ⟨ys, rfl⟩ := ht d' hd'
      split
      · exact oneLt_tups (f := false) ra rb hdd hroom q
      · rw [keyLt'_oneType]
        exact oneLt_tups (f := true) ra rb hdd hroom q
    · refine kind_tups h2 (fun v hv => ?_) ?_ q
      · obtain ⟨d, hd, as, r⟩ := e.left v hv
        obtain ⟨xs, rfl⟩ := ht d hd
        obtain ⟨a, o, us, n, h1, h3, h4, h5, _⟩ := reads_tup r
        exact ⟨a, o, us, n, h1, h3, h4, h5⟩
      · have hex : ∃ d ∈ ds, d = .tuple [] := Classical.byContradiction fun z => hne fun d hd ed => z ⟨d, hd, ed⟩
        obtain ⟨d, hd, rfl⟩ := hex
        obtain ⟨v, hv, as, r⟩ := each_right e hd
        obtain ⟨a, o, us, n, rfl, h3, h4, h5, h6⟩ := reads_tup r
        refine ⟨_, hv, ?_⟩
        unfold firstIn
        dsimp only
        rw [h3]
        dsimp only
        rw [h5]
        exact Array.getElem?_eq_none (by rw [h6]; exact Nat.le_refl _)
end
/-! ### keys that are alike as far as they are equal -/
def stepAll : List PyData → List PyData → Bool
  | x :: xs, y :: ys => alike x y && (!PyData.eqv x y || stepAll xs ys)
  | _, _ => true
def stepOk : PyData → PyData → Bool
  | .tuple (x :: xs), .tuple (y :: ys) => stepAll (x :: xs) (y :: ys)
  | _, _ => false
section
variable {prog : Program} {w : World} {A : Around} {E : Value → Shared → Prop} {s : Shared}
theorem katLex_step {b fin : Bool} {Q : Bool → Shared → Prop} : ∀ (xs ys : List PyData) (i : Nat) (us vs : List Value) (as bs : List Addr), ReadsAll s.heap us xs as → ReadsAll s.heap vs ys bs → stepAll xs ys = true →
    A.units + min (PyData.depthAll xs) (PyData.depthAll ys) < cLine → (b = true → i = 0 → ∀ x r t, xs = x :: r → x ≠ .tuple t) → fin = decide (xs.length < ys.length) → Q (PyProof.Rows.lexLt itemOrd (keyToksAll xs) (keyToksAll ys)) s → KatLex prog w A b fin Q (us.zip vs) i s
  | [], ys, i, us, vs, as, bs, ra, rb, _, hu, hb, hf, q => katLex_alike [] ys i us vs as bs ra rb (by cases ys <;> simp [alikeAll]) hu hb hf q
  | x :: xs, [], i, us, vs, as, bs, ra, rb, _, hu, hb, hf, q => katLex_alike (x :: xs) [] i us vs as bs ra rb (by simp [alikeAll]) hu hb hf q
  | x :: xs, y :: ys, i, _, _, _, _, ra, rb, h, hu, hb, hf, q => by
    unfold stepAll at h
    rw [Bool.and_eq_true] at h
    obtain ⟨h1, h2⟩ := h
    cases ra with
    | cons r1 r2 =>
      cases rb with
      | cons t1 t2 =>
        rw [List.zip_cons_cons]
        refine kat_cons (eqAt_alike x y A s _ _ _ _ r1 t1 h1 (room_head hu) prog w _ _ ?_)
        cases hx : PyData.eqv x y with
        | true =>
          rw [hx] at h2
          rw [dataLt_all_yes h1 hx] at q
          exact kat_yes (katLex_step xs ys (i + 1) _ _ _ _ r2 t2 (by simpa using h2) (room_tail hu) (fun _ z => absurd z (Nat.succ_ne_zero i)) (by rw [hf, List.length_cons, List.length_cons]; exact decide_eq_decide.mpr (by omega)) q)
        | false =>
          rw [dataLt_all_no h1 hx] at q
          refine kat_no (oneLt_alike (fun z t ez => ?_) r1 t1 h1 (ne_none_of h1 hx) (room_head hu) q)
          rw [Bool.and_eq_true] at z
          exact hb z.1 (eq_of_beq z.2) x xs t rfl ez
end

section
variable {prog : Program} {w : World} {A : Around} {E : Value → Shared → Prop} {s : Shared}
theorem key_of {h : Heap} {ds : List PyData} {v : Value} {d : PyData} {as : List Addr} (hd : d ∈ ds) (r : Reads h v d as) : (dataKind h ds).keyOf v = some (keyToks d) := by
  have q : ∃ d, d ∈ ds ∧ ∃ as, Reads h v d as := ⟨d, hd, as, r⟩
  show (open Classical in if q : ∃ d, d ∈ ds ∧ ∃ as, Reads h v d as then some (keyToks q.choose) else none) = _
  rw [dif_pos q]
  obtain ⟨_, bs, r2⟩ := q.choose_spec
  rw [(PySem.Reads.unique r2 _ _ r).1]
theorem each_key {h : Heap} {ds : List PyData} {vs : List Value} (e : EachIs (fun v d => ∃ as, Reads h v d as) vs ds) : EachIs (fun v d => (dataKind h ds).keyOf v = some (keyToks d)) vs ds :=
  (each_mem e).mono fun _ _ ⟨⟨_, r⟩, hd⟩ => key_of hd r
theorem stepOk_of {d d' : PyData} (h : stepOk d d' = true) : ∃ x xs y ys, d = .tuple (x :: xs) ∧ d' = .tuple (y :: ys) ∧ stepAll (x :: xs) (y :: ys) = true ∧ alike x y = true := by
  cases d with
  | tuple xs =>
    cases xs with
    | nil => cases h
    | cons x xs =>
      cases d' with
      | tuple ys =>
        cases ys with
        | nil => cases h
        | cons y ys =>
          have h' : stepAll (x :: xs) (y :: ys) = true := h
          have h2 := h'
          unfold stepAll at h2
          exact ⟨x, xs, y, ys, rfl, rfl, h', (Bool.and_eq_true_iff.mp h2).1⟩
      | _ => cases h
  | _ => cases h
theorem sorts_step {vs : List Value} {ds : List PyData} (e : EachIs (fun v d => ∃ as, Reads s.heap v d as) vs ds) (hs : ∀ d ∈ ds, ∀ d' ∈ ds, stepOk d d' = true) (hu : ∀ d, d ∈ ds → A.units + d.depth < cLine) : SortsAt prog w A s (dataKind s.heap ds) vs := by
  have room : ∀ {d d' : PyData}, d ∈ ds → A.units + min d.depth d'.depth < cLine := fun {d d'} hd => Nat.lt_of_le_of_lt (Nat.add_le_add_left (Nat.min_le_left _ _) _) (hu d hd)
  refine ⟨fun v hv => ?_, ?_⟩
  · obtain ⟨d, hd, as, r⟩ := e.left v hv
    exact ⟨_, key_of hd r⟩
  · cases ds with
    | nil =>
      cases e
      refine ⟨general', fun E x y a b Q ha _ _ => ?_, fun h2 => by simp at h2⟩
      obtain ⟨d, _, hd, _⟩ := dataKind_inv ha
      simp at hd
    | cons d0 r0 =>
      obtain ⟨x0, t0, _, _, e0, _, _, _⟩ := stepOk_of (hs d0 List.mem_cons_self d0 List.mem_cons_self)
      have first : ∀ x r, PyData.tuple (x :: r) ∈ d0 :: r0 → alike x x0 = true := by
        intro x r hm
        obtain ⟨a, _, b, _, ea, eb, _, hal⟩ := stepOk_of (hs _ hm d0 List.mem_cons_self)
        rw [e0] at eb
        cases ea
        cases eb
        exact hal
      have tup : ∀ d, d ∈ d0 :: r0 → ∃ x r, d = .tuple (x :: r) := fun d hd => by
        obtain ⟨x, r, _, _, ea, _⟩ := stepOk_of (hs d hd d hd)
        exact ⟨x, r, ea⟩
      refine ⟨tuples' (dataType x0 != Value.type "tuple"), ?_, fun h2 E Q q => ?_⟩
      · intro E x y a b Q ha hb q
        obtain ⟨d, as, hd, ra, rfl⟩ := dataKind_inv ha
        obtain ⟨d', as', hd', rb, rfl⟩ := dataKind_inv hb
        have hroom := room (d' := d') hd
        obtain ⟨x1, r1, x2, r2, rfl, rfl, hst, _⟩ := stepOk_of (hs d hd d' hd')
        have q' : Q (dataLt (.tuple (x1 :: r1)) (.tuple (x2 :: r2))) s := q
        rw [dataLt_tuple] at q'
        cases ra with
        | @tuple l o us n _ _ h1 h2 h3 h4 =>
          cases rb with
          | @tuple l' o' ws n' _ _ k1 k2 k3 k4 =>
            have n1 : us.size = (x1 :: r1).length := by simpa using ReadsAll.length _ _ _ h4
            have n2 : ws.size = (x2 :: r2).length := by simpa using ReadsAll.length _ _ _ k4
            refine kat_lt h1 h3 k1 k3 (katLex_step (x1 :: r1) (x2 :: r2) 0 _ _ _ _ h4 k4 hst (by have z := room_in hroom; omega) (fun hb _ x r t ex => ?_) (by rw [n1, n2]) q')
            obtain ⟨rfl, rfl⟩ := List.cons.inj ex
            have z := dataType_alike (first _ _ hd)
            rw [← z] at hb
            exact dataType_tuple hb t
      · obtain ⟨fs, t1, t2, t3⟩ := each_katTups e tup
        refine kat_kind (T := dataType x0) t1 (by omega) (fun f hf => ?_) (beq_self_eq_true _) q
        obtain ⟨x, r, as, m1, m2⟩ := t3 f hf
        rw [← dataType_alike (first x r m1)]
        exact looks_reads m2
def KeysGood (ds : List PyData) : Prop := (AllAlike ds ∧ ∀ d ∈ ds, ∃ ys, d = .tuple ys) ∨ ∀ d ∈ ds, ∀ d' ∈ ds, stepOk d d' = true
theorem sorts_good {vs : List Value} {ds : List PyData} (e : EachIs (fun v d => ∃ as, Reads s.heap v d as) vs ds) (hg : KeysGood ds) (hu : ∀ d, d ∈ ds → A.units + d.depth < cLine) : SortsAt prog w A s (dataKind s.heap ds) vs := by
  rcases hg with ⟨h1, h2⟩ | h
  · exact sorts_tups e h1 h2 hu
  · exact sorts_step e h hu
end
end Nh

namespace Nh
open PySem PySem.Spec PySem.W PyProof.Rows PySem.SeqAt L2
/-- a heap without one object -/
def hole (h : Heap) (k : Addr) : Heap := { h with objs := h.objs.setIfInBounds k ⟨.none, none, .freed, #[]⟩ }
theorem hole_at (h : Heap) (k : Addr) : (hole h k).get? k = none := by
  unfold hole Heap.get?
  dsimp only
  by_cases hk : k < h.objs.size
  · rw [Array.getElem?_setIfInBounds_self_of_lt hk]
  · rw [Array.getElem?_eq_none (by rw [Array.size_setIfInBounds]; exact Nat.le_of_not_lt hk)]
theorem hole_ne {h : Heap} {k b : Addr} (hb : b ≠ k) : (hole h k).get? b = h.get? b := by
  unfold hole Heap.get?
  dsimp only
  rw [Array.getElem?_setIfInBounds_ne hb.symm]
theorem hole_old {h : Heap} {k b : Addr} {o : Obj} (e : (hole h k).get? b = some o) : b ≠ k ∧ h.get? b = some o := by
  by_cases hb : b = k
  · subst hb
    rw [hole_at] at e
    cases e
  · rw [hole_ne hb] at e
    exact ⟨hb, e⟩
/-- a def called of each, one behind the other -/
def keysT (sp : Sp) : List V → Hp → (List V → Hp → Prop) → Prop
  | [], H, G => G [] H
  | x :: r, H, G => sp [x] H (fun k H1 => keysT sp r H1 fun ks H2 => G (k :: ks) H2) L2.E0
def sortedBy {α : Type} (ds : List PyData) (xs : List α) : List α := ((ds.zip xs).mergeSort (dataLe false Prod.fst)).map Prod.snd
def rSortKey (K : PySem.W.Frag) (f : Addr) (sp : Sp) : List V → List V → Hp → VK → Prop := fun vs zs H Q => ∃ (a : Addr) (xs : List V), vs = [.ref a] ∧ zs = [.ref f] ∧ SqL K H a xs ∧
  keysT sp xs H fun ks H2 => ∃ ds, DpAll K H2 ks ds ∧ KeysGood ds ∧ (∀ d ∈ ds, d.depth ≤ 8) ∧ ∀ p, H2 p = none → Q (.ref p) (upd H2 p (.lst (sortedBy ds xs)))
section
variable {X : Cx} {pins : List (Addr × Obj)} {σ : L2.St} {H : Hp} {s : Shared}
theorem fp_again {H' : Hp} {b : Addr} (f : FpOk X pins H b) (n : H' b = none) : FpOk X pins H' b := ⟨n, f.2⟩
theorem each_reads (I : L2.Inv X pins σ H s) : ∀ {ks : List V} {us : List Value} {ds : List PyData}, Vals ks us → DpAll X.K H ks ds → EachIs (fun v d => ∃ as, Reads s.heap v d as) us ds
  | _, _, _, .nil, h => by
    cases h
    exact .nil
  | _, _, _, .cons r t, h => by
    cases h with
    | cons h1 h2 => exact .cons (Dp.reads I _ _ _ h1 r) (each_reads I t h2)
theorem dpAll_len {K : PySem.W.Frag} : ∀ {ks : List V} {ds : List PyData}, DpAll K H ks ds → ks.length = ds.length
  | _, _, .nil => rfl
  | _, _, .cons _ t => by rw [List.length_cons, List.length_cons, dpAll_len t]
theorem vals_zip : ∀ {ds : List PyData} {xs : List V} {vs : List Value}, Vals xs vs → ds.length = xs.length → EachIs (fun v (b : PyData × V) => RelV b.2 v) vs (ds.zip xs)
  | [], _, _, .nil, _ => .nil
  | d :: ds, _, _, .cons r t, h => .cons r (vals_zip t (by simpa using h))
  | [], _, _, .cons r t, h => by simp at h
  | d :: ds, _, _, .nil, h => by simp at h
theorem vals_of_each : ∀ {vs : List Value} {bs : List (PyData × V)}, EachIs (fun v (b : PyData × V) => RelV b.2 v) vs bs → Vals (bs.map Prod.snd) vs
  | _, _, .nil => .nil
  | _, _, .cons r t => .cons r (vals_of_each t)
theorem sort_rest {k : Nat} {f : Addr} {fd : FuncData} {p : Str} {sp : Sp} (F : FnOk X.prog X.w X.K X.mg X.base CX0 k f fd [p] sp) (hr : Room k X.A.in1.in1) (hb : Binds X.K fd [p] []) (I : L2.Inv X pins σ H s) {a kS : Addr} {e1 : Nat}
    (fa : FpOk X pins H a) (fk : FpOk X pins H kS) (hka : kS ≠ a) (na : s.heap.get? a = some (seqObj "list" #[] e1)) (nk : s.heap.get? kS = some (seqObj "list" #[] 0)) {xs : List V} {vs : List Value} (rv : Vals xs vs) (hz : xs.length ≤ sizeLine) {Q : VK} {E : Value → Shared → Prop}
    (q : keysT sp xs H fun ks H2 => ∃ ds, DpAll X.K H2 ks ds ∧ KeysGood ds ∧ (∀ d ∈ ds, d.depth ≤ 8) ∧ ∀ p, H2 p = none → Q (.ref p) (upd H2 p (.lst (sortedBy ds xs)))) :
    wpAny (model X.prog X.w) X.A.in1.in1 (ksk_rest a (.ref f) false vs.toArray e1 (.ref kS)) (fun r s' => r = .done (.ret .none) ∧ EP X pins σ Q (.ref a) s') E s := by
  have hlen := rv.length
  unfold ksk_rest
  refine wpAny_bind (wpAny_rule ?_)
  first
    | rw [List.forIn_toArray]
    | (rw [← Array.forIn_toList]; simp only [List.toList_toArray])
    | rw [← Array.forIn_toList]
  generalize hG : (fun (ks : List V) (H2 : Hp) => ∃ ds, DpAll X.K H2 ks ds ∧ KeysGood ds ∧ (∀ d ∈ ds, d.depth ≤ 8) ∧ ∀ p, H2 p = none → Q (.ref p) (upd H2 p (.lst (sortedBy ds xs)))) = G at q
  refine wpAny_bind (ksk_fold (fun i s' => ∃ (Hi : Hp) (ks : List V) (kA : Array Value) (e : Nat), L2.Inv X pins σ Hi s' ∧ Hi a = none ∧ Hi kS = none ∧ s'.heap.get? kS = some (seqObj "list" kA e) ∧ s'.heap.get? a = some (seqObj "list" #[] e1) ∧ Vals ks kA.toList ∧ kA.size = i ∧
      keysT sp (xs.drop i) Hi fun rest H2 => G (ks ++ rest) H2) vs 0 s ⟨H, [], #[], 0, I, fa.1, fk.1, nk, na, .nil, rfl, q⟩ ?turn ?done)
  case turn =>
    rintro j x s' hx ⟨Hi, ks, kA, e, Ii, ha, hk, nk', na', rk, hsz, qk⟩
    simp only [Nat.zero_add] at hsz qk ⊢
    have hj : j < vs.length := (List.getElem?_eq_some_iff.mp hx).1
    have hj' : j < xs.length := by omega
    have hxy : RelV xs[j] x := by
      have e2 : vs[j]'hj = x := (List.getElem?_eq_some_iff.mp hx).2
      have := rv.get (i := j) (x := xs[j]) (List.getElem?_eq_getElem hj')
      obtain ⟨u, h1, h2⟩ := this
      rw [List.getElem?_eq_getElem hj] at h1
      cases h1
      rw [← e2]
      exact h2
    rw [List.drop_eq_getElem_cons hj'] at qk
    have Ip : L2.Inv X (pins ++ [(a, seqObj "list" #[] e1), (kS, seqObj "list" kA e)]) σ Hi s' := Ii.pins_of fun z hm => by
      rcases List.mem_append.mp hm with hm | hm
      · exact Ii.pin z (List.mem_append_right _ hm)
      · simp only [List.mem_cons, List.not_mem_nil, or_false] at hm
        rcases hm with rfl | rfl
        · exact ⟨na', ha, fa.2.1, fa.2.2.1, fun v z => nomatch z⟩
        · exact ⟨nk', hk, fk.2.1, fk.2.2.1, fun v z => nomatch z⟩
    refine wpAny_bind (wpAny_attempt (wpAny_mono (wpAny_call (Q := EP X (pins ++ [(a, seqObj "list" #[] e1), (kS, seqObj "list" kA e)]) σ fun k H1 => keysT sp (xs.drop (j + 1)) H1 fun rest H2 => G (ks ++ k :: rest) H2) (E := fun _ _ => False)
      (codeAny_mono (F.run X.A.in1.in1 X.stack s' Hi ⟨[x], []⟩ [x] [xs[j]] _ L2.E0 hr Ip.env0.in1.in1 (hb s' [x] Ip.kIn rfl) (.cons hxy .nil) qk) fun r s'' hq => ?_)) (fun u s'' hu => ?_) fun _ _ z => z.elim))
    · cases r with
      | error z => exact False.elim hq
      | ok fl =>
        cases fl with
        | ret u => exact Ip.after hq
        | next => exact False.elim hq
        | brk => exact False.elim hq
        | cont => exact False.elim hq
    · obtain ⟨v, H1, I1, ru, qv⟩ := hu
      obtain ⟨ga, ha1, _⟩ := I1.pin (a, seqObj "list" #[] e1) (by simp)
      obtain ⟨gk, hk1, _⟩ := I1.pin (kS, seqObj "list" kA e) (by simp)
      dsimp only at ga ha1 gk hk1
      try dsimp only
      have sb := Heap.SameBut.update s''.heap kS (Obj.mapSeq (·.push u))
      obtain ⟨c2, hc2⟩ : ∃ c2, (s''.heap.update kS (Obj.mapSeq (·.push u))).get? kS = some (seqObj "list" (kA.push u) c2) := ⟨_, get?_update_seq gk (·.push u)⟩
      have hzA : kA.size ≤ sizeLine := by omega
      refine wpAny_bind (listUpdate_at gk rfl ?_ hzA (Nat.le_trans (Nat.le_of_eq (Array.size_push ..)) (Nat.succ_le_succ hzA)))
      have fk1 := fp_again fk hk1
      refine wpAny_pure ⟨rfl, H1, ks ++ [v], kA.push u, c2, I1.unpinned.turned (it := kS) (t' := s''.toks) (fun b o hbk eo => (sb.2 b hbk).trans eo) hk1 fk1.2.1 fk1.2.2.2.1 fk1.2.2.2.2.1 fk1.2.2.2.2.2, ha1, hk1, hc2, (sb.2 a hka.symm).trans ga, ?_, ?_, ?_⟩
      · rw [Array.toList_push]
        exact rk.append (.cons ru .nil)
      · rw [Array.size_push, hsz]
      · simp only [List.append_assoc, List.singleton_append]
        exact qv
  case done =>
    rintro s' ⟨Hn, ks, kA, e, In, ha, hk, nk', na', rk, hsz, qk⟩
    simp only [Nat.zero_add] at hsz qk
    rw [List.drop_eq_nil_of_le (by omega)] at qk
    have qk' : G ks Hn := by
      have z : G (ks ++ []) Hn := qk
      rwa [List.append_nil] at z
    rw [← hG] at qk'
    obtain ⟨ds, hd, hal, hdep, hq⟩ := qk'
    try dsimp only
    refine wpAny_bind (listItems_at nk' rfl ?_)
    have hkl : kA.toList.length = ks.length := rk.length.symm
    have hdl : ds.length = xs.length := by
      have := dpAll_len hd
      rw [Array.length_toList] at hkl
      omega
    have er := each_reads In rk hd
    have S : SortsAt X.prog X.w X.A.in1.in1 s' (dataKind s'.heap ds) kA.toList := sorts_good er hal fun d hm => by
      have := hdep d hm
      have := hr.un
      omega
    refine keyH_end (h₁ := hole s'.heap kS) (fun b o _ z => (hole_old z).2) (hole_at _ _) nk' na' hka S (by omega) (by omega) fun h3 tk3 c k3 n3 => ⟨rfl, ?_⟩
    have EK : EachIs (fun v (b : PyData × V) => (dataKind s'.heap ds).keyOf v = some (keyToks b.1)) kA.toList (ds.zip xs) := by
      have z := each_key er
      have e1 : ds = (ds.zip xs).map Prod.fst := (List.map_fst_zip (by omega)).symm
      have z2 : EachIs (fun v d => (dataKind s'.heap ds).keyOf v = some (keyToks d)) kA.toList ((ds.zip xs).map Prod.fst) := by
        rw [← e1]
        exact z
      exact each_of_map Prod.fst z2
    have RV : Vals (sortedBy ds xs) (sortVals (dataKind s'.heap ds) false kA.toList vs) := vals_of_each (sortVals_each (κ := dataKind s'.heap ds) (fun b : PyData × V => keyToks b.1) (vals_zip rv hdl) EK)
    have keep : ∀ b o, b ∉ [a, kS] → s'.heap.get? b = some o → h3.get? b = some o := fun b o hn z => k3 b o (fun y => hn (by simp [y])) (by rw [hole_ne (fun y => hn (by simp [y]))]; exact z)
    have fan := fp_again fa ha
    have fkn := fp_again fk hk
    have I3 : L2.Inv X pins σ Hn { s' with heap := h3, toks := tk3 } := In.turnedL (ch := [a, kS]) keep fun b hm => by
      simp only [List.mem_cons, List.not_mem_nil, or_false] at hm
      rcases hm with rfl | rfl
      · exact fan
      · exact fkn
    have hsl : (sortedBy ds xs).length ≤ sizeLine := by
      unfold sortedBy
      rw [List.length_map, List.length_mergeSort, List.length_zip]
      omega
    have I4 : L2.Inv X pins σ (upd Hn a (.lst (sortedBy ds xs))) { s' with heap := h3, toks := tk3 } := I3.take (h' := h3) (t' := tk3) (fun b ob _ z => z) fan ⟨hsl, _, c, RV, n3⟩
    exact ⟨.ref a, _, I4, rfl, hq a ha⟩
theorem cr_sortKey {k : Nat} {f : Addr} {fd : FuncData} {p : Str} {sp : Sp} (F : FnOk X.prog X.w X.K X.mg X.base CX0 k f fd [p] sp) (hr : Room k X.A.in1.in1) (hb : Binds X.K fd [p] []) : CallRK X (.builtin "sorted") [Str.ofString "key"] (rSortKey X.K f sp) := by
  intro pins s σ H vs zs us ws Q I r rz h
  obtain ⟨l, xs, rfl, rfl, hs, q⟩ := h
  obtain rfl := Vals.ref1 r
  obtain ⟨w1, rfl, e1⟩ := vals1 rz
  obtain rfl : w1 = Value.ref f := e1
  obtain ⟨its, rv, hl, hz⟩ := I.list hs
  have hlen := rv.length
  refine sorted_of_sort hl.isList (by omega) (ksk_s1 _ _) (fun _ => ksk_l1 _ _) fun E' => ?_
  have ho := copyHeap_at s.heap its
  have ha : s.heap.objs.size + 1 < (copyHeap s.heap its).objs.size := Heap.lt_size ho
  show wpAny _ _ (Builtin.«list.sort» ⟨[.ref (s.heap.objs.size + 1)], [(Str.ofString "key", .ref f)]⟩) _ _ _
  rw [ksk_t1]
  obtain ⟨e1, ho1⟩ : ∃ e1, ((copyHeap s.heap its).update (s.heap.objs.size + 1) (Obj.mapSeq fun _ => (#[] : Array Value))).get? (s.heap.objs.size + 1) = some (seqObj "list" #[] e1) := ⟨_, get?_update_seq ho fun _ => #[]⟩
  have hkS : (((copyHeap s.heap its).update (s.heap.objs.size + 1) (Obj.mapSeq fun _ => (#[] : Array Value))).push (seqObj "tuple" its.toArray 0)).objs.size = (copyHeap s.heap its).objs.size + 1 := by rw [size_push', Heap.size_update]
  unfold ksk_tree
  refine wpAny_bind (listItems_at ho rfl ?_)
  refine wpAny_bind (listUpdate_at ho rfl ?_ (by rw [List.size_toArray]; omega) (Nat.zero_le _))
  refine wpAny_bind (seqEpoch_at ho1 rfl ?_)
  refine wpAny_bind (wpAny_newTuple ?_ (by show its.length ≤ _; omega))
  refine wpAny_bind (wpAny_newList ?_ (Nat.zero_le _))
  refine wpAny_holding ?_
  have I2 : L2.Inv X pins σ H { s with heap := sortingHeap (copyHeap s.heap its) (s.heap.objs.size + 1) its } := I.kept (t' := s.toks) fun b o z => sorting_copy_old z
  have n1 : H (s.heap.objs.size + 1) = none := I.hok.fresh (Nat.le_succ _)
  have big : s.heap.objs.size ≤ (((copyHeap s.heap its).update (s.heap.objs.size + 1) (Obj.mapSeq fun _ => (#[] : Array Value))).push (seqObj "tuple" its.toArray 0)).objs.size := by rw [hkS]; omega
  exact wpAny_mono (sort_rest F hr hb I2 (I.fpOk (Nat.le_succ _) n1) (I.fpOk big (I.hok.fresh big)) (by rw [hkS]; exact Nat.ne_of_gt (Nat.lt_succ_of_lt ha)) (Heap.get?_push_of_some _ (Heap.get?_push_of_some _ ho1)) (Heap.get?_push_size _ rfl) rv hz q) (fun r s' z => z) fun _ _ z => z
end
end Nh

namespace Nh
open PySem PySem.Spec PySem.W PyProof.Rows L2
theorem room_in {k : Nat} {A : Around} (r : Room (k + 1) A) : Room k A.in1.in1 := ⟨r.hd, by
  have := r.dp
  show A.depth + 3 * k + 5 < recursionLimit
  omega, by
  have := r.un
  show A.units + 1 + 1 + 16 * k + 200 < cLine
  omega⟩
section
variable {c : Cfg} {W : WX} {as as' : List Addr} {H H' : Hp} {μ : Store}
def mKeys (fm : FA) : List Dat → Store → Res (List Dat)
  | [], μ => .ok [] μ
  | d :: r, μ => (nr fm [d] μ).bind fun k μ1 => (mKeys fm r μ1).bind fun ks μ2 => .ok (k :: ks) μ2
def isTupP : PyData → Bool
  | .tuple _ => true
  | _ => false
def keysOk (ps : List PyData) : Bool := (ps.all fun d => ps.all fun e => PySem.W.alike d e) && (ps.all isTupP && ps.all fun d => decide (d.depth ≤ 8))
def keysStep (ps : List PyData) : Bool := (ps.all fun d => ps.all fun e => stepOk d e) && ps.all fun d => decide (d.depth ≤ 8)
def fSortKey (fm : FA) : FA := fun ds μ => match ds with
  | [d] => match lstAt μ d with
    | some es => (mKeys fm es μ).bind fun ks μ1 => match pyAll (py μ1 12) ks with
      | some ps => if (keysOk ps || keysStep ps) = true then allocR (.lst (sortedBy ps es)) μ1 else .stuck
      | none => .stuck
    | none => .stuck
  | _ => .stuck
theorem mKeys_len {fm : FA} : ∀ {ds : List Dat} {μ μ' : Store} {ks : List Dat}, mKeys fm ds μ = .ok ks μ' → ks.length = ds.length
  | [], _, _, _, h => by cases h; rfl
  | d :: r, μ, μ', ks, h => by
    unfold mKeys at h
    cases h1 : nr fm [d] μ with
    | ok k μ1 =>
      rw [h1] at h
      dsimp only [Res.bind] at h
      cases h2 : mKeys fm r μ1 with
      | ok ks2 μ2 =>
        rw [h2] at h
        cases h
        rw [List.length_cons, List.length_cons, mKeys_len h2]
      | raise n μ2 => rw [h2] at h; cases h
      | stuck => rw [h2] at h; cases h
    | raise n μ1 => rw [h1] at h; cases h
    | stuck => rw [h1] at h; cases h
theorem sim_keys {fm : FA} {σ : L2.St} {W : WX} : ∀ {ds : List Dat} {xs : List V} {as : List Addr} {H : Hp} {μ : Store}, StH c as H μ → RelAll c as H xs ds → ∀ G, Want c (RelAll c) (mKeys fm ds μ) as H σ G W → keysT (spM c 1 (nr fm)) xs H G
  | [], _, as, H, μ, st, r, G, w => by
    cases r
    exact w [] as H .refl st .nil
  | d :: ds, _, as, H, μ, st, r, G, w => by
    cases r with
    | @cons x xs _ _ h t =>
      refine ⟨rfl, as, μ, [d], st, .cons h .nil, ?_⟩
      unfold mKeys at w
      cases h1 : nr fm [d] μ with
      | ok k μ1 =>
        rw [h1] at w
        intro v as1 H1 e1 s1 rv
        refine sim_keys (σ := σ) (W := W) s1 (t.mono e1) _ ?_
        have w1 : Want c (RelAll c) ((mKeys fm ds μ1).bind fun ks μ2 => Res.ok (k :: ks) μ2) as1 H1 σ G W := Want.mono (r := (mKeys fm ds μ1).bind fun ks μ2 => Res.ok (k :: ks) μ2) e1 w
        refine (want_bind (R1 := RelAll c) w1).imp ?_
        rintro ks H2 ⟨as2, μ2, y, e2, s2, r2, w2⟩
        exact w2 _ as2 H2 .refl s2 (.cons (rv.mono e2) r2)
      | raise n μ1 => exact (nr_ne fm [d] μ n μ1 h1).elim
      | stuck => rw [h1] at w; exact w.elim
theorem keysOk_of {ps : List PyData} (h : (keysOk ps || keysStep ps) = true) : KeysGood ps ∧ ∀ d ∈ ps, d.depth ≤ 8 := by
  rw [Bool.or_eq_true] at h
  rcases h with h | h
  · unfold keysOk at h
    rw [Bool.and_eq_true, Bool.and_eq_true, List.all_eq_true, List.all_eq_true, List.all_eq_true] at h
    refine ⟨.inl ⟨fun d hd e he => List.all_eq_true.mp (h.1 d hd) e he, fun d hd => ?_⟩, fun d hd => of_decide_eq_true (h.2.2 d hd)⟩
    have := h.2.1 d hd
    cases d with
    | tuple ys => exact ⟨ys, rfl⟩
    | _ => cases this
  · unfold keysStep at h
    rw [Bool.and_eq_true, List.all_eq_true, List.all_eq_true] at h
    exact ⟨.inr fun d hd e he => List.all_eq_true.mp (h.1 d hd) e he, fun d hd => of_decide_eq_true (h.2 d hd)⟩
theorem relAll_mem {vs : List V} {ds : List Dat} (r : RelAll c as H vs ds) : ∀ {p : V × Dat}, p ∈ vs.zip ds → Rel c as H p.1 p.2 := by
  induction vs generalizing ds with
  | nil => intro p hp; simp at hp
  | cons v vs ih =>
    cases r with
    | cons h t =>
      intro p hp
      rw [List.zip_cons_cons] at hp
      rcases List.mem_cons.mp hp with rfl | hp
      · exact h
      · exact ih t hp
theorem relAll_of : ∀ {l : List (V × Dat)}, (∀ p ∈ l, Rel c as H p.1 p.2) → RelAll c as H (l.map Prod.fst) (l.map Prod.snd)
  | [], _ => .nil
  | p :: l, h => .cons (h p List.mem_cons_self) (relAll_of fun q hq => h q (List.mem_cons_of_mem _ hq))
theorem sortedBy_map {α β : Type} (f : α → β) (ps : List PyData) (l : List α) : (sortedBy ps l).map f = sortedBy ps (l.map f) := by
  unfold sortedBy
  have e : ps.zip (l.map f) = (ps.zip l).map fun q => (q.1, f q.2) := by
    rw [List.zip_map_right]
    rfl
  have m : ((ps.zip l).mergeSort (dataLe false Prod.fst)).map (fun q : PyData × α => (q.1, f q.2)) = ((ps.zip l).map fun q : PyData × α => (q.1, f q.2)).mergeSort (dataLe false Prod.fst) := List.map_mergeSort (fun a _ b _ => rfl)
  rw [e, ← m, List.map_map, List.map_map]
  rfl
theorem sortedBy_mem {α : Type} {ps : List PyData} {l : List α} {x : α} (h : x ∈ sortedBy ps l) : x ∈ l := by
  unfold sortedBy at h
  obtain ⟨q, hq, rfl⟩ := List.mem_map.mp h
  have := (List.mergeSort_perm _ _).mem_iff.mp hq
  exact (List.of_mem_zip this).2
theorem rel_sorted {vs : List V} {ds : List Dat} (r : RelAll c as H vs ds) (ps : List PyData) : RelAll c as H (sortedBy ps vs) (sortedBy ps ds) := by
  have hl := r.length
  have e1 : sortedBy ps vs = (sortedBy ps (vs.zip ds)).map Prod.fst := by
    rw [sortedBy_map, List.map_fst_zip (by omega)]
  have e2 : sortedBy ps ds = (sortedBy ps (vs.zip ds)).map Prod.snd := by
    rw [sortedBy_map, List.map_snd_zip (by omega)]
  rw [e1, e2]
  exact relAll_of fun p hp => relAll_mem r (sortedBy_mem hp)
theorem sim_sortKey {fm : FA} {f : Addr} {t : TA} {a : M (List Dat)} (ha : SimA c W t a) : SimE c W (tCKw (rSortKey c.K f (spM c 1 (nr fm))) t (tCons (tC (.ref f)) tNil)) (mCB (fSortKey fm) a) := by
  intro as H σ δ μ st env Q w
  refine ha as H σ δ μ st env _ ((want_bind (R1 := RelAll c) w).imp ?_)
  rintro vs H1 ⟨as1, μ1, ds, e, s1, rs, w1⟩
  show rSortKey c.K f (spM c 1 (nr fm)) vs [.ref f] H1 Q
  unfold fSortKey at w1
  split at w1
  · rename_i d
    split at w1
    · rename_i es he
      obtain ⟨v, rfl, rv⟩ := rel1 rs
      obtain ⟨l, xs, rfl, h1, h2⟩ := lstAt_of s1 rv he
      refine ⟨l, xs, rfl, rfl, h1, ?_⟩
      refine sim_keys (σ := σ) (W := W) s1 h2 _ ((want_bind (R1 := RelAll c) w1).imp ?_)
      rintro ks H2 ⟨as2, μ2, kd, e2, s2, r2, w2⟩
      split at w2
      · rename_i ps hp
        split at w2
        · rename_i hk
          obtain ⟨k1, k3⟩ := keysOk_of hk
          refine ⟨ps, pyAll_of (fun r hy => py_of s2 12 r hy) r2 hp, k1, k3, fun p hn => ?_⟩
          exact w2 _ _ _ (ext_alloc hn) (s2.alloc hn ⟨_, upd_same, (rel_sorted (h2.mono e2) ps).mono (ext_alloc hn)⟩) (rel_alloc s2)
        · exact w2.elim
      · exact w2.elim
    · exact w1.elim
  · exact w1.elim
end
end Nh

namespace Nh
open PySem PySem.Spec PyProof.Rows L2
section
variable {c : Cfg}
/-! ### texts in order -/
def fLtS : F2 := fun x y μ => match x, y with
  | .str i, .str j => .ok (.bl (decide (i.cps.toList < j.cps.toList))) μ
  | _, _ => .stuck
theorem simr_ltS : SimR c (fun x y H Q => ∃ i j, x = .str i ∧ y = .str j ∧ Q (.bl (decide (i.cps.toList < j.cps.toList))) H) fLtS := by
  intro as H μ v w x y st rx ry σ W Q h
  unfold fLtS at h
  split at h
  · cases rx
    cases ry
    exact ⟨_, _, rfl, rfl, h _ as H .refl st (.bl _)⟩
  · exact h.elim
end
end Nh

namespace Nh
open PySem PySem.Spec PyProof.Rows L2
/-! ### sorted of texts, of numbers; the text of a number -/
def leT (a b : Str) : Bool := !decide (b.cps.toList < a.cps.toList)
theorem natL_tri : ∀ (a b : List Nat), ¬ a < b → ¬ b < a → a = b
  | [], [], _, _ => rfl
  | [], b :: bs, h, _ => (h (List.nil_lt_cons _ _)).elim
  | a :: as, [], _, h => (h (List.nil_lt_cons _ _)).elim
  | a :: as, b :: bs, h1, h2 => by
    rw [List.cons_lt_cons_iff] at h1 h2
    have e : a = b := by omega
    subst e
    rw [natL_tri as bs (fun z => h1 (.inr ⟨rfl, z⟩)) (fun z => h2 (.inr ⟨rfl, z⟩))]
theorem leT_iff {a b : Str} : leT a b = true ↔ ¬ b.cps.toList < a.cps.toList := by
  unfold leT
  rw [Bool.not_eq_true', decide_eq_false_iff_not]
theorem leT_anti {a b : Str} (h1 : leT a b = true) (h2 : leT b a = true) : a = b := by
  have e := natL_tri _ _ (leT_iff.mp h2) (leT_iff.mp h1)
  obtain ⟨x⟩ := a
  obtain ⟨y⟩ := b
  exact congrArg Str.mk (Array.toList_inj.mp e)
theorem leT_total (a b : Str) : (leT a b || leT b a) = true := by
  unfold leT
  by_cases h : b.cps.toList < a.cps.toList
  · rw [decide_eq_false (List.lt_asymm h)]
    simp
  · rw [decide_eq_false h]
    simp
theorem leT_trans (a b c : Str) (h1 : leT a b = true) (h2 : leT b c = true) : leT a c = true := by
  rw [leT_iff] at h1 h2 ⊢
  intro h
  by_cases hb : c.cps.toList < b.cps.toList
  · exact h2 hb
  · by_cases e : b.cps.toList < c.cps.toList
    · exact h1 (List.lt_trans e h)
    · have := natL_tri _ _ e hb
      rw [this] at h1
      exact h1 h
section
variable {c : Cfg} {as : List Addr} {H : Hp} {μ : Store}
def intsD : List Dat → Option (List Int)
  | [] => some []
  | .int i :: r => (intsD r).map (i :: ·)
  | _ :: _ => none
theorem intsD_of : ∀ {ds : List Dat} {is : List Int} {vs : List V}, intsD ds = some is → RelAll c as H vs ds → vs = is.map V.int
  | [], _, _, h, r => by cases h; cases r; rfl
  | d :: ds, is, vs, h, r => by
    cases r with
    | cons h1 t1 =>
      cases d with
      | int i =>
        unfold intsD at h
        cases e : intsD ds with
        | none => rw [e] at h; cases h
        | some js =>
          rw [e] at h
          cases h
          cases h1
          rw [List.map_cons, intsD_of e t1]
      | _ => cases h
def fSortedI : FA := fun ds μ => match ds with
  | [d] => match (lstAt μ d).bind intsD with
    | some is => if is.length < 64 then allocR (.lst ((is.mergeSort fun a b => decide (a ≤ b)).map .int)) μ else .stuck
    | none => .stuck
  | _ => .stuck
theorem simc_sortedI : SimC c (rSorted c.K) fSortedI := by
  intro as H μ vs ds st rs σ W Q h
  unfold fSortedI at h
  split at h
  · rename_i d
    split at h
    · rename_i is he
      split at h
      · rename_i hz
        obtain ⟨v, rfl, r⟩ := rel1 rs
        cases hl : lstAt μ d with
        | none => rw [hl] at he; cases he
        | some es =>
          rw [hl] at he
          obtain ⟨a, xs, rfl, h1, h2⟩ := lstAt_of st r hl
          have e2 : intsD es = some is := he
          obtain rfl := intsD_of e2 h2
          refine ⟨a, is, rfl, h1, hz, fun ys p hp hs hn => ?_⟩
          have e : ys = is.mergeSort fun a b => decide (a ≤ b) := by
            refine List.Perm.eq_of_pairwise (le := fun a b : Int => a ≤ b) (fun a b _ _ x y => Int.le_antisymm x y) hs ?_ (hp.trans (List.mergeSort_perm is _).symm)
            have := List.pairwise_mergeSort (le := fun a b : Int => decide (a ≤ b)) (fun a b c x y => decide_eq_true (Int.le_trans (of_decide_eq_true x) (of_decide_eq_true y))) (fun a b => by
              rcases Int.le_total a b with z | z
              · simp [z]
              · simp [z]) is
            exact this.imp fun z => of_decide_eq_true z
          subst e
          exact h _ _ _ (ext_alloc hn) (st.alloc hn ⟨_, upd_same, relInts _⟩) (rel_alloc st)
      · exact h.elim
    · exact h.elim
  · exact h.elim
theorem rising_le : ∀ (r : List Str) (p : Str), risingS p r = true → (∀ x ∈ r, leT p x = true) ∧ r.Pairwise fun a b => leT a b = true
  | [], _, _ => ⟨(fun _ h => nomatch h), List.Pairwise.nil⟩
  | x :: r, p, h => by
    unfold risingS at h
    rw [Bool.and_eq_true, ltCps_eq] at h
    obtain ⟨h1, h2⟩ := h
    have hpx : leT p x = true := h1
    obtain ⟨z1, z2⟩ := rising_le r x h2
    refine ⟨fun y hy => ?_, .cons z1 z2⟩
    rcases List.mem_cons.mp hy with rfl | hy
    · exact hpx
    · exact leT_trans _ _ _ hpx (z1 y hy)
theorem sortedS_le {l : List Str} (h : sortedS l = true) : l.Pairwise fun a b => leT a b = true := by
  cases l with
  | nil => exact .nil
  | cons x r =>
    obtain ⟨z1, z2⟩ := rising_le r x h
    exact .cons z1 z2
def fSortedS : FA := fun ds μ => match ds with
  | [d] => match (lstAt μ d).bind strsD with
    | some ss => if ss.length < 64 then allocR (.lst ((ss.mergeSort leT).map .str)) μ else .stuck
    | none => .stuck
  | _ => .stuck
theorem simc_sortedS : SimC c (rSortedS c.K) fSortedS := by
  intro as H μ vs ds st rs σ W Q h
  unfold fSortedS at h
  split at h
  · rename_i d
    split at h
    · rename_i ss he
      split at h
      · rename_i hz
        obtain ⟨v, rfl, r⟩ := rel1 rs
        cases hl : lstAt μ d with
        | none => rw [hl] at he; cases he
        | some es =>
          rw [hl] at he
          obtain ⟨a, xs, rfl, h1, h2⟩ := lstAt_of st r hl
          have e2 : strsD es = some ss := he
          obtain rfl := strsD_of e2 h2
          refine ⟨a, ss, rfl, h1, hz, fun ys p hp hs hn => ?_⟩
          have e : ys = ss.mergeSort leT := List.Perm.eq_of_pairwise (le := fun a b => leT a b = true) (fun a b _ _ x y => leT_anti x y) (sortedS_le hs) (List.pairwise_mergeSort leT_trans leT_total ss) (hp.trans (List.mergeSort_perm ss _).symm)
          subst e
          exact h _ _ _ (ext_alloc hn) (st.alloc hn ⟨_, upd_same, relStrs _⟩) (rel_alloc st)
      · exact h.elim
    · exact h.elim
  · exact h.elim
def fStrI : FA := fun ds μ => match ds with
  | [.int i] => if i.natAbs.log2 < 1920 then .ok (.str (toString i)) μ else .stuck
  | _ => .stuck
theorem simc_strI : SimC c (fun xs H Q => ∃ i : Int, xs = [.int i] ∧ i.natAbs.log2 < 1920 ∧ Q (.str (toString i)) H) fStrI := by
  intro as H μ vs ds st rs σ W Q h
  unfold fStrI at h
  split at h
  · split at h
    · rename_i hz
      obtain ⟨v, rfl, r⟩ := rel1 rs
      cases r
      exact ⟨_, rfl, hz, h _ as H .refl st (.str _)⟩
    · exact h.elim
  · exact h.elim
end
end Nh

namespace Nh
open PySem PySem.Spec PyProof.Rows L2 RZ
section
variable {c : Cfg} {W : WX} {as as' : List Addr} {H H' : Hp} {μ : Store}
/-! ### zip of two tuples -/
def pairAt (ds es : List Dat) (i : Nat) : Option Dat := match ds[i]?, es[i]? with
  | some d, some e => some (.tup [d, e])
  | _, _ => none
def srcZ (ds es : List Dat) : Src := ⟨min ds.length es.length, fun i _ => pairAt ds es i, fun _ => true⟩
theorem jrel_zipT {a b : Addr} {xs ys : List V} {ds es : List Dat} (ha : RoT c.K H a xs) (ra : RelAll c as H xs ds) (hb : RoT c.K H b ys) (rb : RelAll c as H ys es) : JRel c as H (ItzT c.K a b) (srcZ ds es) := fun as' H' μ' e st => by
  refine ⟨fun i d hi hg => ?_, fun _ => ⟨xs, ys, (ha.mono e).sq, (hb.mono e).sq, ?_⟩⟩
  · have hg' : pairAt ds es i = some d := hg
    unfold pairAt at hg'
    split at hg'
    · rename_i d1 d2 e1 e2
      cases hg'
      obtain ⟨x, hx, rx⟩ := (ra.mono e).get e1
      obtain ⟨y, hy, ry⟩ := (rb.mono e).get e2
      refine ⟨⟨xs, ys, x, y, (ha.mono e).sq, (hb.mono e).sq, hx, hy⟩, fun v H2 z => ?_⟩
      obtain ⟨T, x', y', rfl, hn, rfl, q1, q2⟩ := z
      have z1 := q1 xs (ha.mono e).sq
      have z2 := q2 ys (hb.mono e).sq
      rw [hx] at z1
      rw [hy] at z2
      cases z1
      cases z2
      exact ⟨ext_new hn, st.tup hn, .tup upd_same (.cons (rx.mono (ext_new hn)) (.cons (ry.mono (ext_new hn)) .nil))⟩
    · cases hg'
  · show xs.length ≤ min ds.length es.length ∨ ys.length ≤ min ds.length es.length
    have h1 := ra.length
    have h2 := rb.length
    omega
def miZipT (a : M (List Dat)) : M Src := fun δ μ => (a δ μ).bind fun ds μ1 => match ds with
  | [.tup ds, .tup es] => .ok (srcZ ds es) μ1
  | _ => .stuck
theorem simi_zipT {t : TA} {a : M (List Dat)} (h : SimA c W t a) : SimI c W (iZipA c.K t) (miZipT a) := by
  intro as H σ δ μ st env Q w
  refine h as H σ δ μ st env _ ((want_bind (R1 := RelAll c) w).imp ?_)
  rintro vs H1 ⟨as1, μ1, ds, e, s1, rs, w1⟩
  split at w1
  · obtain ⟨v, u, rfl, r1, r2⟩ := rel2 rs
    cases r1 with
    | @tup p xs _ h1 h2 =>
      cases r2 with
      | @tup q ys _ h3 h4 => exact ⟨p, q, xs, ys, rfl, .inr ⟨h1.sq, h3.sq, w1 _ as1 H1 .refl s1 (jrel_zipT h1 h2 h3 h4)⟩⟩
  · exact w1.elim
end
end Nh

namespace Nh
open PySem PySem.Spec PyProof.Rows L2
section
variable {c : Cfg} {W : WX} {as as' : List Addr} {H H' : Hp} {μ : Store} {α β : Type}
/-! ### this or that: the first that gives an answer -/
def fAlt (f g : F2) : F2 := fun x y μ => match f x y μ with
  | .stuck => g x y μ
  | r => r
theorem simr_alt {r r' : R2} {f g : F2} (h : SimR c r f) (k : SimR c r' g) : SimR c (fun x y H Q => r x y H Q ∨ r' x y H Q) (fAlt f g) := by
  intro as H μ v w x y st rx ry σ W Q q
  unfold fAlt at q
  cases e : f x y μ with
  | ok d μ' => rw [e] at q; exact .inl (h as H μ v w x y st rx ry σ W Q (by rw [e]; exact q))
  | raise n μ' => rw [e] at q; exact .inl (h as H μ v w x y st rx ry σ W Q (by rw [e]; exact q))
  | stuck => rw [e] at q; exact .inr (k as H μ v w x y st rx ry σ W Q q)
def fAlt3 (f g : F3) : F3 := fun x l h μ => match f x l h μ with
  | .stuck => g x l h μ
  | r => r
theorem sims_alt3 {r r' : V → Option Int → Option Int → Hp → VK → Prop} {f g : F3} (h : SimSl c r f) (k : SimSl c r' g) : SimSl c (fun x lo hi H Q => r x lo hi H Q ∨ r' x lo hi H Q) (fAlt3 f g) := by
  intro as H μ v x lo hi st rx σ W Q q
  unfold fAlt3 at q
  cases e : f x lo hi μ with
  | ok d μ' => rw [e] at q; exact .inl (h as H μ v x lo hi st rx σ W Q (by rw [e]; exact q))
  | raise n μ' => rw [e] at q; exact .inl (h as H μ v x lo hi st rx σ W Q (by rw [e]; exact q))
  | stuck => rw [e] at q; exact .inr (k as H μ v x lo hi st rx σ W Q q)
def mAlt (m n : M α) : M α := fun δ μ => match m δ μ with
  | .stuck => n δ μ
  | r => r
theorem sim_alt {R : List Addr → Hp → β → α → Prop} {t u : L2.St → Hp → (β → Hp → Prop) → Prop} {m n : M α} (h : Sim c W R t m) (k : Sim c W R u n) : Sim c W R (fun σ H Q => t σ H Q ∨ u σ H Q) (mAlt m n) := by
  intro as H σ δ μ st env Q q
  unfold mAlt at q
  cases e : m δ μ with
  | ok d μ' => rw [e] at q; exact .inl (h as H σ δ μ st env Q (by rw [e]; exact q))
  | raise n μ' => rw [e] at q; exact .inl (h as H σ δ μ st env Q (by rw [e]; exact q))
  | stuck => rw [e] at q; exact .inr (k as H σ δ μ st env Q q)
theorem pe_or2 {X : Cx} {e : Expr} {t u : TE} (h : PE X e t) (k : PE X e u) : PE X e (fun σ H Q => t σ H Q ∨ u σ H Q) :=
  ⟨fun pins s σ H Q I q => q.elim (h.run pins s σ H Q I) (k.run pins s σ H Q I)⟩
theorem pi_or2 {X : Cx} {tg e : Expr} {t u : TI} (h : PI X tg e t) (k : PI X tg e u) : PI X tg e (fun σ H R => t σ H R ∨ u σ H R) :=
  ⟨fun pins s σ H R I q => q.elim (h.run pins s σ H R I) (k.run pins s σ H R I)⟩
/-! ### operators of any kind -/
theorem op_addU {X : Cx} : OpR X (binaryOp .Add) (fun x y H Q => rI0 (fun i j => V.int (i + j)) x y H Q ∨ (∃ i j, x = V.str i ∧ y = V.str j ∧ i.length + j.length ≤ sizeLine ∧ Q (V.str (i ++ j)) H) ∨ rCatA X.K x y H Q ∨ rCat x y H Q) :=
  op_add.or (op_add_str.or (op_catA.or op_cat))
def fAddU : F2 := fAlt fAdd (fAlt fAddS (fAlt fCatT fCat))
theorem simr_addU : SimR c (fun x y H Q => rI0 (fun i j => V.int (i + j)) x y H Q ∨ (∃ i j, x = V.str i ∧ y = V.str j ∧ i.length + j.length ≤ sizeLine ∧ Q (V.str (i ++ j)) H) ∨ rCatA c.K x y H Q ∨ rCat x y H Q) fAddU :=
  simr_alt simr_add (simr_alt simr_addS (simr_alt simr_catT simr_cat))
theorem op_mulU {X : Cx} : OpR X (binaryOp .Mult) (fun x y H Q => rI CMul (fun i j => V.int (i * j)) x y H Q ∨ rMulS x y H Q ∨ rRepT X.K x y H Q) := op_mul.or (op_mulS.or op_repT)
def fMulU : F2 := fAlt fMul (fAlt fMulS fRepT)
theorem simr_mulU : SimR c (fun x y H Q => rI CMul (fun i j => V.int (i * j)) x y H Q ∨ rMulS x y H Q ∨ rRepT c.K x y H Q) fMulU := simr_alt simr_mul (simr_alt simr_mulS simr_repT)
theorem ix_U {X : Cx} : IxR X (fun x y H Q => rIxL X.K x y H Q ∨ rIxT X.K x y H Q ∨ rIxS x y H Q) := ix_list.or (ix_tup.or ix_str)
def fIxU : F2 := fAlt fIxL (fAlt fIxT fIxS)
theorem simr_ixU : SimR c (fun x y H Q => rIxL c.K x y H Q ∨ rIxT c.K x y H Q ∨ rIxS x y H Q) fIxU := simr_alt simr_ixL (simr_alt simr_ixT simr_ixS)
theorem sl_U {X : Cx} : SlR X (fun x lo hi H Q => rSlL X.K x lo hi H Q ∨ rSlA X.K x lo hi H Q ∨ rSlS x lo hi H Q) := sl_list.or (sl_tupA.or sl_str)
def fSlU : F3 := fAlt3 fSlL (fAlt3 fSlT fSlS)
theorem sims_U : SimSl c (fun x lo hi H Q => rSlL c.K x lo hi H Q ∨ rSlA c.K x lo hi H Q ∨ rSlS x lo hi H Q) fSlU := sims_alt3 sims_lst (sims_alt3 sims_tup sims_str)
/-! ### < of texts; the other comparisons of texts -/
def fLeS : F2 := fun x y μ => match x, y with
  | .str i, .str j => .ok (.bl (!decide (j.cps.toList < i.cps.toList))) μ
  | _, _ => .stuck
def fGtS : F2 := fun x y μ => match x, y with
  | .str i, .str j => .ok (.bl (decide (j.cps.toList < i.cps.toList))) μ
  | _, _ => .stuck
theorem simr_leS : SimR c (fun x y H Q => ∃ i j, x = .str i ∧ y = .str j ∧ Q (.bl (!decide (j.cps.toList < i.cps.toList))) H) fLeS := by
  intro as H μ v w x y st rx ry σ W Q h
  unfold fLeS at h
  split at h
  · cases rx
    cases ry
    exact ⟨_, _, rfl, rfl, h _ as H .refl st (.bl _)⟩
  · exact h.elim
theorem simr_gtS : SimR c (fun x y H Q => ∃ i j, x = .str i ∧ y = .str j ∧ Q (.bl (decide (j.cps.toList < i.cps.toList))) H) fGtS := by
  intro as H μ v w x y st rx ry σ W Q h
  unfold fGtS at h
  split at h
  · cases rx
    cases ry
    exact ⟨_, _, rfl, rfl, h _ as H .refl st (.bl _)⟩
  · exact h.elim
theorem op_ltU {X : Cx} : OpR X (compareOp .Lt) (fun x y H Q => rI0 (fun i j => V.bl (decide (i < j))) x y H Q ∨ ∃ i j, x = V.str i ∧ y = V.str j ∧ Q (V.bl (decide (i.cps.toList < j.cps.toList))) H) := op_lt.or op_lt_str
def fLtU : F2 := fAlt fLt fLtS
theorem simr_ltU : SimR c (fun x y H Q => rI0 (fun i j => V.bl (decide (i < j))) x y H Q ∨ ∃ i j, x = V.str i ∧ y = V.str j ∧ Q (V.bl (decide (i.cps.toList < j.cps.toList))) H) fLtU := simr_alt simr_lt simr_ltS
/-! ### in, of any kind -/
def rInDict (neg : Bool) : R2 := fun x y H Q => ∃ (a : Addr) (o : Option V), y = .ref a ∧ DGet H a x o ∧ Q (.bl (if neg then !o.isSome else o.isSome)) H
theorem op_inDict {X : Cx} (hu : X.A.units + 1 < cLine) : OpR X (compareOp .In) (rInDict false) := by
  intro pins s σ H x y v u Q I rx ry h
  obtain ⟨a, o, rfl, g, q⟩ := h
  obtain rfl : u = Value.ref a := ry
  exact d_in hu I g rx fun s3 I3 => ⟨.bl o.isSome, H, I3, rfl, q⟩
theorem op_notInDict {X : Cx} (hu : X.A.units + 1 < cLine) : OpR X (compareOp .NotIn) (rInDict true) := by
  intro pins s σ H x y v u Q I rx ry h
  obtain ⟨a, o, rfl, g, q⟩ := h
  obtain rfl : u = Value.ref a := ry
  exact d_notIn hu I g rx fun s3 I3 => ⟨.bl (!o.isSome), H, I3, rfl, q⟩
def allKeys : List Dat → Option (List Key)
  | [] => some []
  | d :: r => match keyD d, allKeys r with
    | some k, some ks => some (k :: ks)
    | _, _ => none
theorem allKeys_of : ∀ {ds : List Dat} {ks : List Key} {vs : List V}, allKeys ds = some ks → RelAll c as H vs ds → vs = ks.map kV
  | [], _, _, h, r => by cases h; cases r; rfl
  | d :: ds, ks, _, h, r => by
    cases r with
    | cons h1 t =>
      unfold allKeys at h
      split at h
      · rename_i k ks' e1 e2
        cases h
        rw [keyD_of h1 e1, allKeys_of e2 t]
        rfl
      · cases h
def lookP {κ : Type} [DecidableEq κ] (kvs : List (κ × Dat)) (k : κ) : Option Dat := (kvs.find? fun kv => decide (kv.1 = k)).map (·.2)
theorem RelP.look {κ : Type} [DecidableEq κ] {ps : List (κ × V)} {kvs : List (κ × Dat)} (r : RelP c as H ps kvs) (k : κ) : match lookP kvs k with
    | some d => ∃ v, valV ps k = some v ∧ Rel c as H v d
    | none => valV ps k = none := by
  induction r with
  | nil => rfl
  | @cons p q ps qs h1 t ih =>
    unfold lookP
    rw [List.find?_cons]
    by_cases e : q.1 = k
    · rw [decide_eq_true e]
      exact ⟨p.2, valV_pos (h1.1.trans e), h1.2⟩
    · rw [decide_eq_false e]
      rw [valV_neg (by rw [h1.1]; exact e)]
      exact ih
end
end Nh

namespace Nh
open PySem PySem.Spec PyProof.Rows L2
section
variable {c : Cfg} {W : WX} {as as' : List Addr} {H H' : Hp} {μ : Store} {σ : L2.St} {δ : Env}
/-! ### fields -/
def putG {β : Type} (f : Str) (v : β) : List (Str × β) → List (Str × β)
  | [] => [(f, v)]
  | q :: r => if q.1 = f then (q.1, v) :: r else q :: putG f v r
theorem putG_V (f : Str) (v : V) : ∀ fs : List (Str × V), putG f v fs = putF f v fs
  | [] => rfl
  | (g, x) :: r => by
    unfold putG putF
    by_cases h : g = f
    · rw [if_pos h, if_pos h]
    · rw [if_neg h, if_neg h, putG_V f v r]
theorem RelP.len {κ : Type} {ps : List (κ × V)} {kvs : List (κ × Dat)} (r : RelP c as H ps kvs) : ps.length = kvs.length := Paired.length r
theorem RelP.putG {ps : List (Str × V)} {fs : List (Str × Dat)} {f : Str} {v : V} {d : Dat} (r : RelP c as H ps fs) (h : Rel c as H v d) : RelP c as H (Nh.putG f v ps) (Nh.putG f d fs) := by
  induction r with
  | nil => exact .cons ⟨rfl, h⟩ .nil
  | @cons p q ps qs h1 t ih =>
    unfold Nh.putG
    by_cases e : q.1 = f
    · rw [if_pos e, if_pos (h1.1.trans e)]
      exact .cons ⟨h1.1, h⟩ t
    · rw [if_neg e, if_neg (by rw [h1.1]; exact e)]
      exact .cons h1 ih
theorem RelP.lookF {ps : List (Str × V)} {fs : List (Str × Dat)} (r : RelP c as H ps fs) (f : Str) : match fs.lookup f with
    | some d => ∃ v, ps.lookup f = some v ∧ Rel c as H v d
    | none => ps.lookup f = none := by
  induction r with
  | nil => rfl
  | @cons p q ps qs h1 t ih =>
    obtain ⟨a, v⟩ := p
    obtain ⟨b, d⟩ := q
    obtain ⟨e1, e2⟩ := h1
    dsimp only at e1 e2
    subst e1
    rw [List.lookup_cons, List.lookup_cons]
    cases e : f == a with
    | true => exact ⟨v, rfl, e2⟩
    | false => exact ih
/-- which fields a class's instances may have -/
abbrev FldT := Nat → Str → Bool
structure FldOk (c : Cfg) (ok : FldT) : Prop where
  cls : ∀ n f, ok n f = true → Cls c.K (c.cl n)
  no : ∀ n f, ok n f = true → NoAttr c.K (c.cl n) f
def insAt (μ : Store) : Dat → Option (Nat × Nat × List (Str × Dat))
  | .cell k => match μ[k]? with
    | some (.ins n fs) => some (k, n, fs)
    | _ => none
  | _ => none
theorem insAt_of {v : V} {d : Dat} {k n : Nat} {fs : List (Str × Dat)} (st : StH c as H μ) (r : Rel c as H v d) (h : insAt μ d = some (k, n, fs)) :
    ∃ a dx vs, d = .cell k ∧ v = .ref a ∧ μ[k]? = some (.ins n fs) ∧ as[k]? = some a ∧ H a = some (.ins (c.cl n) dx vs) ∧ RelP c as H vs fs := by
  unfold insAt at h
  split at h
  · split at h
    · rename_i hk
      cases h
      cases r with
      | cell ha =>
        obtain ⟨dx, vs, h1, h2⟩ := st.cell_at hk ha
        exact ⟨_, dx, vs, rfl, rfl, hk, ha, h1, h2⟩
    · cases h
  · cases h
def mFld (ok : FldT) (f : Str) (a : M Dat) : M Dat := fun δ μ => (a δ μ).bind fun x μ1 => match insAt μ1 x with
  | some (_, n, fs) => if ok n f = true then match fs.lookup f with
    | some d => .ok d μ1
    | none => .stuck else .stuck
  | none => .stuck
theorem sim_fld {ok : FldT} (hok : FldOk c ok) {f : Str} {t : TE} {a : M Dat} (h : SimE c W t a) : SimE c W (tFld c.K t f) (mFld ok f a) := by
  intro as H σ δ μ st env Q w
  refine h as H σ δ μ st env _ ((want_bind (R1 := Rel c) w).imp ?_)
  rintro v H1 ⟨as1, μ1, x, e, s1, r, w1⟩
  split at w1
  · rename_i k n fs hx
    obtain ⟨p, dx, vs, rfl, rfl, hk, ha, h1, h2⟩ := insAt_of s1 r hx
    split at w1
    · rename_i hf
      have q := h2.lookF f
      split at w1
      · rename_i d hd
        rw [hd] at q
        obtain ⟨v, h3, h4⟩ := q
        exact ⟨p, _, dx, vs, v, rfl, h1, hok.cls n f hf, hok.no n f hf, h3, w1 _ as1 H1 .refl s1 h4⟩
      · exact w1.elim
    · exact w1.elim
  · exact w1.elim
/-- o.f = v -/
def msFld (ok : FldT) (f : Str) (a v : M Dat) : MS := fun δ μ => (v δ μ).toS δ fun z μ1 => (a δ μ1).toS δ fun x μ2 => match insAt μ2 x with
  | some (k, n, fs) => if ok n f = true ∧ fs.length < 1000 then .nx δ (μ2.set k (.ins n (putG f z fs))) else .stuck
  | none => .stuck
theorem sims_fld {ok : FldT} (hok : FldOk c ok) {f : Str} {ta tv : TE} {a v : M Dat} (ha : SimE c W ta a) (hv : SimE c W tv v) : SimS c W (sFld c.K ta tv f) (msFld ok f a v) := by
  intro as H σ δ μ st env D w
  refine hv as H σ δ μ st env _ ((want_toS (R := Rel c) env w).imp ?_)
  rintro z H1 ⟨as1, μ1, dz, e1, s1, rz, w1⟩
  have env1 := env.mono e1
  refine ha as1 H1 σ δ μ1 s1 env1 _ ((want_toS (R := Rel c) env1 w1).imp ?_)
  rintro x H2 ⟨as2, μ2, dx, e2, s2, rx, w2⟩
  have env2 := env1.mono e2
  split at w2
  · rename_i k n fs hx
    obtain ⟨p, dd, vs, rfl, rfl, hk, hp, h1, h2⟩ := insAt_of s2 rx hx
    split at w2
    · rename_i hf
      have rz2 := rz.mono e2
      have ee := ext_set (o := .ins (c.cl n) dd (putF f z vs)) s2 hk hp
      refine ⟨p, _, dd, vs, rfl, h1, hok.cls n f hf.1, hok.no n f hf.1, by rw [h2.len]; exact hf.2, ?_⟩
      have q := (h2.putG (f := f) rz2).mono ee
      rw [putG_V] at q
      exact w2 σ as2 _ ee (s2.set (y := .ins n (putG f dz fs)) hk hp ⟨dd, _, upd_same, q⟩) (env2.mono ee)
    · exact w2.elim
  · exact w2.elim
/-- o.f += v, whole numbers -/
def msFldAdd (ok : FldT) (f : Str) (a v : M Dat) : MS := fun δ μ => (a δ μ).toS δ fun x μ1 => match insAt μ1 x with
  | some (k, n, fs) => if ok n f = true then match fs.lookup f with
    | some (.int i) => (v δ μ1).toS δ fun y μ2 => match y, μ2[k]? with
      | .int j, some (.ins m gs) => if m = n ∧ gs.length < 1000 then .nx δ (μ2.set k (.ins n (putG f (.int (i + j)) gs))) else .stuck
      | _, _ => .stuck
    | _ => .stuck else .stuck
  | none => .stuck
theorem sims_fldAdd {ok : FldT} (hok : FldOk c ok) {f : Str} {ta tv : TE} {a v : M Dat} (ha : SimE c W ta a) (hv : SimE c W tv v) : SimS c W (sFldAug c.K ta tv rAdd f) (msFldAdd ok f a v) := by
  intro as H σ δ μ st env D w
  refine ha as H σ δ μ st env _ ((want_toS (R := Rel c) env w).imp ?_)
  rintro x H1 ⟨as1, μ1, dx, e1, s1, rx, w1⟩
  have env1 := env.mono e1
  split at w1
  · rename_i k n fs hx
    obtain ⟨p, dd, vs, rfl, rfl, hk, hp, h1, h2⟩ := insAt_of s1 rx hx
    split at w1
    · rename_i hf
      have q := h2.lookF f
      split at w1
      · rename_i i hi
        rw [hi] at q
        obtain ⟨u, h3, h4⟩ := q
        cases h4
        refine ⟨p, _, dd, vs, _, rfl, h1, hok.cls n f hf, hok.no n f hf, h3, ?_⟩
        refine hv as1 H1 σ δ μ1 s1 env1 _ ((want_toS (R := Rel c) env1 w1).imp ?_)
        rintro y H2 ⟨as2, μ2, dy, e2, s2, ry, w2⟩
        have env2 := env1.mono e2
        split at w2
        · rename_i j m gs hk2
          split at w2
          · rename_i hm
            obtain ⟨hm, hl⟩ := hm
            subst hm
            cases ry
            have hp2 := e2.pre _ _ hp
            obtain ⟨d2, vs2, h5, h6⟩ := s2.cell_at hk2 hp2
            have ee := ext_set (o := .ins (c.cl m) d2 (putF f (.int (i + j)) vs2)) s2 hk2 hp2
            refine ⟨i, j, rfl, rfl, d2, vs2, h5, by rw [h6.len]; exact hl, ?_⟩
            have q := (h6.putG (f := f) (v := .int (i + j)) (.int _)).mono ee
            rw [putG_V] at q
            exact w2 σ as2 _ ee (s2.set (y := .ins m (putG f (.int (i + j)) gs)) hk2 hp2 ⟨d2, _, upd_same, q⟩) (env2.mono ee)
          · exact w2.elim
        · exact w2.elim
      · exact w1.elim
    · exact w1.elim
  · exact w1.elim
/-! ### methods of own classes -/
def mMeth (n : Nat) (m : Str) (k : Nat) (f : FA) (a : M Dat) (b : M (List Dat)) : M Dat := fun δ μ => (a δ μ).bind fun x μ1 => match insAt μ1 x with
  | some (_, n', fs) => if n' = n ∧ fs.lookup m = none then (b δ μ1).bind fun ds μ2 => if ds.length + 1 = k then f (x :: ds) μ2 else .stuck else .stuck
  | none => .stuck
theorem sim_meth {n k : Nat} {m : Str} {f : FA} {E : XK} {ta : TE} {t : TA} {a : M Dat} {b : M (List Dat)} (ha : SimE c W ta a) (h : SimA c W t b)
    (hE : ∀ k μ', (∀ ds μ, f ds μ ≠ .raise k μ') ∨ ∀ σ cls H, W cls none σ H → E cls none H) : SimE c W (tMeth (c.cl n) m (spM c k f) [] E ta t) (mMeth n m k f a b) := by
  intro as H σ δ μ st env Q w
  refine ha as H σ δ μ st env _ ((want_bind (R1 := Rel c) w).imp ?_)
  rintro v H1 ⟨as1, μ1, x, e1, s1, rx, w1⟩
  split at w1
  · rename_i j n' fs hx
    obtain ⟨p, dd, vs, rfl, rfl, hk, hp, h1, h2⟩ := insAt_of s1 rx hx
    split at w1
    · rename_i hn
      obtain ⟨rfl, hm⟩ := hn
      have q := h2.lookF m
      rw [hm] at q
      refine ⟨p, dd, vs, rfl, h1, q, ?_⟩
      refine h as1 H1 σ δ μ1 s1 (env.mono e1) _ ((want_bind (R1 := RelAll c) w1).imp ?_)
      rintro us H2 ⟨as2, μ2, ds, e2, s2, rs, w2⟩
      split at w2
      · rename_i hl
        rw [List.append_nil]
        refine ⟨by rw [List.length_cons, rs.length]; exact hl, as2, μ2, _, s2, .cons (rx.mono e2) rs, ?_⟩
        cases hf : f (.cell j :: ds) μ2 with
        | ok x μ' => rw [hf] at w2; exact w2
        | raise k μ' =>
          rw [hf] at w2
          rcases hE k μ' with z | z
          · exact (z _ _ hf).elim
          · exact fun a' H' e' s' => z σ _ _ (w2 a' H' e' s')
        | stuck => rw [hf] at w2; exact w2
      · exact w2.elim
    · exact w1.elim
  · exact w1.elim
theorem sim_meth0 {n k : Nat} {m : Str} {f : FA} {ta : TE} {t : TA} {a : M Dat} {b : M (List Dat)} (ha : SimE c W ta a) (h : SimA c W t b) : SimE c W (tMeth (c.cl n) m (spM c k (nr f)) [] E0 ta t) (mMeth n m k (nr f) a b) :=
  sim_meth ha h fun k μ' => .inl fun ds μ => nr_ne f ds μ k μ'
theorem sim_methE {n k : Nat} {m : Str} {f : FA} {E : XK} {ta : TE} {t : TA} {a : M Dat} {b : M (List Dat)} (ha : SimE c (fun cls d _ H => E cls d H) ta a) (h : SimA c (fun cls d _ H => E cls d H) t b) :
    SimE c (fun cls d _ H => E cls d H) (tMeth (c.cl n) m (spM c k f) [] E ta t) (mMeth n m k f a b) := sim_meth ha h fun _ _ => .inr fun _ _ _ z => z
/-! ### new instances -/
def mkEnd (j : Nat) : Dat → Store → Res Dat := fun r μ => match r with
  | .non => .ok (.cell j) μ
  | _ => .stuck
def mMake (n k : Nat) (f : FA) (b : M (List Dat)) : M Dat := fun δ μ => (b δ μ).bind fun ds μ1 => if ds.length + 1 = k then
  (f (.cell μ1.length :: ds) (μ1 ++ [.ins n []])).bind (mkEnd μ1.length) else .stuck
theorem made_st {n : Nat} {x dx : Addr} (st : StH c as H μ) (hx : H x = none) (hd : H dx = none) (ne : dx ≠ x) :
    Ext as H (as ++ [x]) (upd (upd H dx (.own x)) x (.ins (c.cl n) dx [])) ∧ StH c (as ++ [x]) (upd (upd H dx (.own x)) x (.ins (c.cl n) dx [])) (μ ++ [.ins n []]) := by
  have hx2 : (upd H dx (.own x)) x = none := by rw [upd_ne (Ne.symm ne)]; exact hx
  have s1 := st.tup (o := .own x) hd
  exact ⟨(ext_new hd).trans (ext_alloc hx2), s1.alloc hx2 ⟨dx, [], upd_same, .nil⟩⟩
theorem want_made {f : FA} {n : Nat} {us : List V} {ds : List Dat} {x dx : Addr} {Q : VK} {E : XK} (hE : ∀ k μ', (∀ ds μ, f ds μ ≠ .raise k μ') ∨ ∀ σ cls H, W cls none σ H → E cls none H)
    (st : StH c as H μ) (rs : RelAll c as H us ds) (hx : H x = none) (hd : H dx = none) (ne : dx ≠ x)
    (w : Want c (Rel c) ((f (.cell μ.length :: ds) (μ ++ [.ins n []])).bind (mkEnd μ.length)) as H σ Q W) :
    spM c (ds.length + 1) f (.ref x :: us) (upd (upd H dx (.own x)) x (.ins (c.cl n) dx [])) (fun v H2 => v = .non ∧ Q (.ref x) H2) E := by
  obtain ⟨ee, s1⟩ := made_st (c := c) (n := n) st hx hd ne
  have ra : Rel c (as ++ [x]) (upd (upd H dx (.own x)) x (.ins (c.cl n) dx [])) (.ref x) (.cell μ.length) := rel_alloc st
  refine ⟨by rw [List.length_cons, rs.length], _, _, _, s1, .cons ra (rs.mono ee), ?_⟩
  replace w := Want.mono ee w
  cases hf : f (.cell μ.length :: ds) (μ ++ [.ins n []]) with
  | ok r μ' =>
    rw [hf] at w
    change Want c (Rel c) (mkEnd μ.length r μ') _ _ σ Q W at w
    unfold mkEnd at w
    split at w
    · intro v a' H' e' s' rv
      cases rv
      exact ⟨rfl, w _ a' H' e' s' (ra.mono e')⟩
    · exact w.elim
  | raise k μ' =>
    rw [hf] at w
    rcases hE k μ' with z | z
    · exact (z _ _ hf).elim
    · exact fun a' H' e' s' => z σ _ _ (w a' H' e' s')
  | stuck => rw [hf] at w; exact w
theorem sim_make {n k : Nat} {f : FA} {E : XK} {t : TA} {b : M (List Dat)} (h : SimA c W t b) (hE : ∀ k μ', (∀ ds μ, f ds μ ≠ .raise k μ') ∨ ∀ σ cls H, W cls none σ H → E cls none H) :
    SimE c W (tMake (c.cl n) (spM c k f) [] E t) (mMake n k f b) := by
  intro as H σ δ μ st env Q w
  refine h as H σ δ μ st env _ ((want_bind (R1 := RelAll c) w).imp ?_)
  rintro us H1 ⟨as1, μ1, ds, e1, s1, rs, w1⟩ x dx hx hd ne
  split at w1
  · rename_i hl
    subst hl
    rw [List.append_nil]
    exact want_made hE s1 rs hx hd ne w1
  · exact w1.elim
theorem sim_make0 {n k : Nat} {f : FA} {t : TA} {b : M (List Dat)} (h : SimA c W t b) : SimE c W (tMake (c.cl n) (spM c k (nr f)) [] E0 t) (mMake n k (nr f) b) :=
  sim_make h fun k μ' => .inl fun ds μ => nr_ne f ds μ k μ'
theorem sim_makeE {n k : Nat} {f : FA} {E : XK} {t : TA} {b : M (List Dat)} (h : SimA c (fun cls d _ H => E cls d H) t b) : SimE c (fun cls d _ H => E cls d H) (tMake (c.cl n) (spM c k f) [] E t) (mMake n k f b) :=
  sim_make h fun _ _ => .inr fun _ _ _ z => z
end
/-! ### within a try's body: what is raised is wished for at the slots -/
section
variable {X : Cx} {CX : CXT} {k : Nat} {g C : Addr} {fd : FuncData} {ps : List Str} {sp : Sp} {E : L2.St → XK} {x m : Str} {p pos apos : Pos} {e o : Expr} {es : List Expr} {ta : TE} {t : TA}
def tMethS (C : Addr) (m : Str) (sp : Sp) (E : L2.St → XK) (ta : TE) (t : TA) : TE := fun σ H Q => tMeth C m sp [] (E σ) ta t σ H Q
def tMakeS (C : Addr) (sp : Sp) (E : L2.St → XK) (t : TA) : TE := fun σ H Q => tMake C sp [] (E σ) t σ H Q
theorem make_at {pins : List (Addr × Obj)} {σ : L2.St} {H : Hp} {s : Shared} {Q : VK} {us : List Value} {vs : List V} (M : Mk X.K C g) (F : FnOk X.prog X.w X.K X.mg X.base CX k g fd ps sp) (hr : Room (k + 1) X.A) (hb : Binds X.K fd ps [])
    (hx : PassesAt CX X σ (E σ)) (J : L2.Inv X pins σ H s) (rv : Vals vs us)
    (want : ∀ x dx, H x = none → H dx = none → dx ≠ x → sp (.ref x :: vs) (upd (upd H dx (.own x)) x (.ins C dx [])) (fun v H2 => v = .non ∧ Q (.ref x) H2) (E σ)) :
    wpAny (model X.prog X.w) X.A (call (.ref C) us) (EP X pins σ Q) X.xe s := by
  have z := want (s.heap.objs.size + 1) s.heap.objs.size (J.hok.fresh (Nat.le_succ _)) (J.hok.fresh (Nat.le_refl _)) (Nat.ne_of_lt (Nat.lt_succ_self _))
  have J2 := Inv.made (C := C) J
  have rv2 : Vals (V.ref (s.heap.objs.size + 1) :: vs) (Value.ref (s.heap.objs.size + 1) :: us) := .cons rfl rv
  have hlen : (Value.ref (s.heap.objs.size + 1) :: us).length = ps.length := rv2.length.symm.trans (F.len _ _ _ _ z)
  have bound := hb _ (Value.ref (s.heap.objs.size + 1) :: us) J2.kIn (by rw [List.append_nil]; exact hlen)
  rw [List.append_nil] at bound
  have went := F.run _ X.stack _ _ ⟨Value.ref (s.heap.objs.size + 1) :: us, []⟩ (Value.ref (s.heap.objs.size + 1) :: us) _ _ (E σ) (hr.make C us []) (J2.env0.make C us []) bound rv2 z
  refine wpAny_call (make_map (f := g) J.kIn M.makes M.init (beq_iff_eq.mp M.fn) (codeAny_mono went fun res s2 fin => ?_))
  match res, fin with
  | .error err, fin => exact hx pins _ _ err s2 J2 fin
  | .ok (.ret u), fin =>
    obtain ⟨v, H3, J3, r3, q3⟩ := J2.after fin
    obtain ⟨hv, q4⟩ := q3
    rw [hv] at r3
    exact ⟨r3, ⟨V.ref (s.heap.objs.size + 1), H3, J3, rfl, q4⟩⟩
  | .ok .next, fin => exact fin.elim
  | .ok .brk, fin => exact fin.elim
  | .ok .cont, fin => exact fin.elim
end
end Nh

namespace Nh
open PySem PySem.Spec PyProof.Rows L2
/-! ### within a try's body: makes and methods -/
section
variable {X : Cx} {CX : CXT} {k : Nat} {g C : Addr} {fd : FuncData} {ps : List Str} {sp : Sp} {E : L2.St → XK} {x m : Str} {p pos apos : Pos} {e o : Expr} {es : List Expr} {ta : TE} {t : TA}
theorem pe_makeS (M : Mk X.K C g) (F : FnOk X.prog X.w X.K X.mg X.base CX k g fd ps sp) (hr : Room (k + 1) X.A) (hg : Gl X x) (hm : X.mg x = some (.ref C)) (hb : Binds X.K fd ps []) (hx : ∀ σ, PassesAt CX X σ (E σ)) (args : PA X (e :: es) t)
    (nodeb : (x == ("__debug__" : Str)) = false := by decide) (first : starEach (e :: es) X.env = (false, eval e X.env) :: starEach es X.env := by rfl) (plain : (backTo pos (starEach es X.env)).any (·.1) = false := by rfl) :
    PE X (.Call (.Name x p) (e :: es) [] pos) (tMakeS C sp E t) := by
  constructor
  intro pins s σ H Q J want
  apply wpAny_Call_Name_kw
  apply ld_glob J hg hm _ nodeb
  refine PySem.W.callWith_K (h₀ := X.base) J.ok.mod.kin M.kp (thn (args.run pos pins s σ H _ J want) fun us s1 got => ?_) first plain
  obtain ⟨vs, H1, J1, rv, q⟩ := got
  refine ⟨J1.kIn, make_at M F hr hb (hx σ) J1 rv fun y dy h1 h2 h3 => ?_⟩
  have z := q y dy h1 h2 h3
  rw [List.append_nil] at z
  exact z
theorem pe_methS {pl : Sem Bool} (recv : PE X o ta) (cls : Cls X.K C) (hm : Meth X.K C m g) (F : FnOk X.prog X.w X.K X.mg X.base CX k g fd ps sp) (hr : Room k X.A) (hb : Binds X.K fd ps []) (hx : ∀ σ, PassesAt CX X σ (E σ)) (args : PA X (e :: es) t)
    (first : starEach (e :: es) X.env = (false, eval e X.env) :: starEach es X.env := by rfl) (plain : (backTo pos (starEach es X.env)).any (·.1) = false := by rfl)
    (tree : eval (.Call (.Attribute o m apos) (e :: es) [] pos) X.env = (do
      let own ← eval o X.env; standAt apos.atName; let (fn, ahead) ← holding [own] (getMethod own m pl)
      callWith pos fn ahead (backTo pos (starEach (e :: es) X.env)) (backToKw pos (keywordEach [] X.env))) := by rfl) :
    PE X (.Call (.Attribute o m apos) (e :: es) [] pos) (tMethS C m sp E ta t) := by
  constructor
  intro pins s σ H Q J want
  refine PySem.W.methodCall_KW (pl := pl) (thn (recv.run pins s σ H _ J want) fun u s1 got => ?_) tree
  obtain ⟨x, H1, J1, rx, a, dx, fs, ex, ea, l, q⟩ := got
  rw [ex] at rx
  have eu : u = Value.ref a := rx
  rw [eu]
  refine getmeth_ok J1 ea cls hm l (PySem.W.callWith_K (first := [.ref a]) (h₀ := X.base) J.ok.mod.kin hm.kp (thn (args.run pos pins s1 σ H1 _ J1 q) fun us s2 got2 => ?_) first plain)
  obtain ⟨vs, H2, J2, rv, q2⟩ := got2
  rw [ex, List.append_nil] at q2
  exact ⟨J2.kIn, run_fnS (us := .ref a :: us) (vs := .ref a :: vs) F hr hb (hx σ) J2 (.cons rfl rv) q2⟩
theorem pe_methS0 {pl : Sem Bool} (recv : PE X o ta) (cls : Cls X.K C) (hm : Meth X.K C m g) (F : FnOk X.prog X.w X.K X.mg X.base CX k g fd ps sp) (hr : Room k X.A) (hb : Binds X.K fd ps []) (hx : ∀ σ, PassesAt CX X σ (E σ))
    (tree : eval (.Call (.Attribute o m apos) [] [] pos) X.env = (do
      let own ← eval o X.env; standAt apos.atName; let (fn, ahead) ← holding [own] (getMethod own m pl)
      callWith pos fn ahead (backTo pos (starEach [] X.env)) (backToKw pos (keywordEach [] X.env))) := by rfl) :
    PE X (.Call (.Attribute o m apos) [] [] pos) (tMethS C m sp E ta tNil) := by
  constructor
  intro pins s σ H Q J want
  refine PySem.W.methodCall_KW (pl := pl) (thn (recv.run pins s σ H _ J want) fun u s1 got => ?_) tree
  obtain ⟨x, H1, J1, rx, a, dx, fs, ex, ea, l, q⟩ := got
  rw [ex] at rx
  have eu : u = Value.ref a := rx
  rw [eu]
  have q2 : sp [.ref a] H1 Q (E σ) := by rw [← ex]; exact q
  exact getmeth_ok J1 ea cls hm l (PySem.W.callWith_K0 (first := [.ref a]) J1.kIn hm.kp (run_fnS (us := [.ref a]) (vs := [.ref a]) F hr hb (hx σ) J1 (.cons rfl .nil) q2))
end
section
variable {c : Cfg} {W : WX} {as as' : List Addr} {H H' : Hp} {μ : Store} {σ : L2.St} {δ : Env}
theorem sim_makeS {n k : Nat} {f : FA} {t : TA} {b : M (List Dat)} (h : SimA c W t b) : SimE c W (tMakeS (c.cl n) (spM c k f) (WE W) t) (mMake n k f b) := by
  intro as H σ δ μ st env Q w
  refine h as H σ δ μ st env _ ((want_bind (R1 := RelAll c) w).imp ?_)
  rintro us H1 ⟨as1, μ1, ds, e1, s1, rs, w1⟩ x dx hx hd ne
  split at w1
  · rename_i hl
    subst hl
    rw [List.append_nil]
    obtain ⟨ee, s2⟩ := made_st (c := c) (n := n) s1 hx hd ne
    have ra : Rel c (as1 ++ [x]) (upd (upd H1 dx (.own x)) x (.ins (c.cl n) dx [])) (.ref x) (.cell μ1.length) := rel_alloc s1
    refine ⟨by rw [List.length_cons, rs.length], _, _, _, s2, .cons ra (rs.mono ee), ?_⟩
    replace w1 := Want.mono ee w1
    cases hf : f (.cell μ1.length :: ds) (μ1 ++ [.ins n []]) with
    | ok r μ' =>
      rw [hf] at w1
      change Want c (Rel c) (mkEnd μ1.length r μ') _ _ σ Q W at w1
      unfold mkEnd at w1
      split at w1
      · intro v a' H' e' s' rv
        cases rv
        exact ⟨rfl, w1 _ a' H' e' s' (ra.mono e')⟩
      · exact w1.elim
    | raise j μ' => rw [hf] at w1; exact fun a' H' e' s' => w1 a' H' e' s'
    | stuck => rw [hf] at w1; exact w1
  · exact w1.elim
theorem sim_methS {n k : Nat} {m : Str} {f : FA} {ta : TE} {t : TA} {a : M Dat} {b : M (List Dat)} (ha : SimE c W ta a) (h : SimA c W t b) : SimE c W (tMethS (c.cl n) m (spM c k f) (WE W) ta t) (mMeth n m k f a b) := by
  intro as H σ δ μ st env Q w
  refine ha as H σ δ μ st env _ ((want_bind (R1 := Rel c) w).imp ?_)
  rintro v H1 ⟨as1, μ1, x, e1, s1, rx, w1⟩
  split at w1
  · rename_i j n' fs hx
    obtain ⟨p, dd, vs, rfl, rfl, hk, hp, h1, h2⟩ := insAt_of s1 rx hx
    split at w1
    · rename_i hn
      obtain ⟨rfl, hm⟩ := hn
      have q := h2.lookF m
      rw [hm] at q
      refine ⟨p, dd, vs, rfl, h1, q, ?_⟩
      refine h as1 H1 σ δ μ1 s1 (env.mono e1) _ ((want_bind (R1 := RelAll c) w1).imp ?_)
      rintro us H2 ⟨as2, μ2, ds, e2, s2, rs, w2⟩
      split at w2
      · rename_i hl
        rw [List.append_nil]
        refine ⟨by rw [List.length_cons, rs.length]; exact hl, as2, μ2, _, s2, .cons (rx.mono e2) rs, ?_⟩
        cases hf : f (.cell j :: ds) μ2 with
        | ok x μ' => rw [hf] at w2; exact w2
        | raise i μ' => rw [hf] at w2; exact fun a' H' e' s' => w2 a' H' e' s'
        | stuck => rw [hf] at w2; exact w2
      · exact w2.elim
    · exact w1.elim
  · exact w1.elim
/-! ### constants of the module: tuples, dicts with text keys -/
structure ConT (K : PySem.W.Frag) (a : Addr) (xs : List V) : Prop where
  ex : ∃ (o : Obj) (its : Array Value) (n : Nat), K.lookup a = some o ∧ o.cls = .type "tuple" ∧ o.dict = none ∧ o.data = .seq its n ∧ its.size ≤ sizeLine ∧ Vals xs its.toList
theorem ConT.roC {K : PySem.W.Frag} {a : Addr} {xs : List V} {H : Hp} (h : ConT K a xs) : RoC K H a xs := by
  obtain ⟨o, its, n, h1, h2, h0, h3, h4, h5⟩ := h.ex
  exact .inl ⟨fun _ => .inr ⟨o, its, n, h1, h2, h3, h4, h5⟩, o, h1, h2, h0⟩
theorem conT_mk {K : PySem.W.Frag} {a : Addr} {xs : List V} {its : Array Value} {n : Nat} {sl : Array (Option Value)} (l : K.lookup a = some ⟨.type "tuple", none, .seq its n, sl⟩) (z : its.size ≤ sizeLine) (r : Vals xs its.toList) : ConT K a xs :=
  ⟨⟨_, its, n, l, rfl, rfl, rfl, z, r⟩⟩
theorem sim_con {a : Addr} {xs : List V} {ds : List Dat} (h : ConT c.K a xs) (r : ∀ as H, RelAll c as H xs ds) : SimE c W (tC (.ref a)) (mC (.ct ds)) := sim_c fun as H => .ct h.roC (r as H)
/-- d[k], d a dict of the module with text keys -/
def mTab (tbl : List (Str × Dat)) (b : M Dat) : M Dat := fun δ μ => (b δ μ).bind fun y μ1 => match y with
  | .str z => match tbl.lookup z with
    | some d => .ok d μ1
    | none => .stuck
  | _ => .stuck
theorem sim_tab {w : World} {D : Addr} {tbl : List (Str × Dat)} {t : TE} {b : M Dat} (hd : ∀ z d, tbl.lookup z = some d → ∃ v, KDct c.K w D z v ∧ ∀ as H, Rel c as H v d) (h : SimE c W t b) : SimE c W (tOp (rIxD c.K w) (tC (.ref D)) t) (mTab tbl b) := by
  intro as H σ δ μ st env Q w0
  refine h as H σ δ μ st env _ ((want_bind (R1 := Rel c) w0).imp ?_)
  rintro y H1 ⟨as1, μ1, dy, e1, s1, ry, w1⟩
  split at w1
  · split at w1
    · rename_i d hz
      cases ry
      obtain ⟨v, h1, h2⟩ := hd _ d hz
      exact ⟨D, _, v, rfl, rfl, h1, w1 _ as1 H1 .refl s1 (h2 as1 H1)⟩
    · exact w1.elim
  · exact w1.elim
theorem kdct_mk {K : PySem.W.Frag} {w : World} {a : Addr} {x : Str} {v : V} {u : Value} {es : Array DictEntry} {n : Nat} (l : K.lookup a = some ⟨.type "dict", none, .dict es n, #[]⟩) (kl : PySem.W.KeysLit w.params es.toList)
    (e : PySem.W.nsIn K a x = some (some u)) (r : RelV v u) : KDct K w a x v := ⟨es, n, u, l, kl, e, r⟩
/-! ### a call of a local name that holds one of several defs: numbers of defs stand among the classes' -/
def mCallL (i k : Nat) (fs : List (Nat × FA)) (b : M (List Dat)) : M Dat := fun δ μ => match δ[i]? with
  | some (some (.cls n)) => match fs.lookup n with
    | some f => (b δ μ).bind fun ds μ1 => if ds.length = k then f ds μ1 else .stuck
    | none => .stuck
  | _ => .stuck
/-- what is known of each of the defs -/
def heldS (c : Cfg) (k : Nat) : List (Nat × FA) → Addr → Sp → Prop
  | [], _, _ => False
  | (n, f) :: r, a, sp => (a = c.cl n ∧ sp = spM c k (nr f)) ∨ heldS c k r a sp
def tCallB (i : Nat) (S : Addr → Sp → Prop) (t : TA) : TE := fun σ H Q => ∃ f sp, σ[i]? = some (some (.ref f)) ∧ S f sp ∧ t σ H fun vs H1 => sp vs H1 Q (fun _ _ _ => False)
theorem pe_callB2 {X : Cx} {k i : Nat} {S : Addr → Sp → Prop} {x : Str} {p pos : Pos} {e : Expr} {es : List Expr} {t : TA} (A : ∀ f sp, S f sp → Held X.prog X.w X.K X.mg X.base k f sp) (hr : Room k X.A) (hN : X.N[i]? = some x) (hv : Vis X.env.scope x) (ha : PA X (e :: es) t)
    (hdb : (x == ("__debug__" : Str)) = false := by decide) (hcd : (x == ("__classdict__" : Str)) = false := by decide)
    (he : starEach (e :: es) X.env = (false, eval e X.env) :: starEach es X.env := by rfl) (hpl : (backTo pos (starEach es X.env)).any (·.1) = false := by rfl) : PE X (.Call (.Name x p) (e :: es) [] pos) (tCallB i S t) :=
  ⟨fun pins s σ H Q I ⟨f, sp, hs, hS, ht⟩ => (pe_callA (S := fun a => open Classical in if a = f then some sp else none)
    (fun a sp' h => by
      open Classical in
      by_cases ea : a = f
      · rw [if_pos ea] at h
        cases h
        rw [ea]
        exact A f sp hS
      · rw [if_neg ea] at h
        cases h) hr hN hv ha hdb hcd he hpl).run pins s σ H Q I ⟨f, sp, hs, by show (open Classical in if f = f then some sp else none) = some sp; exact if_pos rfl, ht⟩⟩
theorem sim_callL {i k : Nat} {fs : List (Nat × FA)} {t : TA} {b : M (List Dat)} (h : SimA c W t b) :
    SimE c W (tCallB i (heldS c k fs) t) (mCallL i k (fs.map fun p => (p.1, nr p.2)) b) := by
  intro as H σ δ μ st env Q w
  unfold mCallL at w
  split at w
  · rename_i n hn
    obtain ⟨v, h1, h2⟩ := env.at_ i _ hn
    split at w
    · rename_i f hf
      cases h2
      have key : ∀ fs : List (Nat × FA), (fs.map fun p => (p.1, nr p.2)).lookup n = some f → heldS c k fs (c.cl n) (spM c k f) := by
        intro fs
        induction fs with
        | nil => intro z; cases z
        | cons q r ih =>
          intro z
          rw [List.map_cons, List.lookup_cons] at z
          cases e : n == q.1 with
          | true =>
            rw [e] at z
            cases z
            exact .inl ⟨by rw [beq_iff_eq.mp e], rfl⟩
          | false =>
            rw [e] at z
            exact .inr (ih z)
      refine ⟨c.cl n, spM c k f, h1, key fs hf, ?_⟩
      refine h as H σ δ μ st env _ ((want_bind (R1 := RelAll c) w).imp ?_)
      rintro vs H1 ⟨as1, μ1, ds, e1, s1, rs, w1⟩
      split at w1
      · rename_i hl
        refine ⟨by rw [rs.length]; exact hl, as1, μ1, ds, s1, rs, ?_⟩
        have nrf : ∀ ds μ k μ', f ds μ ≠ .raise k μ' := by
          have : ∀ fs : List (Nat × FA), (fs.map fun p => (p.1, nr p.2)).lookup n = some f → ∃ g, f = nr g := by
            intro fs
            induction fs with
            | nil => intro z; cases z
            | cons q r ih =>
              intro z
              rw [List.map_cons, List.lookup_cons] at z
              cases e : n == q.1 with
              | true => rw [e] at z; cases z; exact ⟨_, rfl⟩
              | false => rw [e] at z; exact ih z
          obtain ⟨g, rfl⟩ := this fs hf
          exact nr_ne g
        cases hr : f ds μ1 with
        | ok x μ' => rw [hr] at w1; exact w1
        | raise j μ' => exact (nrf _ _ _ _ hr).elim
        | stuck => rw [hr] at w1; exact w1
      · exact w1.elim
    · exact w.elim
  · exact w.elim
/-! ### dicts with tuples as keys -/
def mDNewT : M Dat := fun _ μ => allocR (.dictT []) μ
theorem sim_dnewT : SimE c W tDNewT mDNewT := fun as H σ δ μ st env Q w => fun p hp => w _ _ _ (ext_alloc hp) (st.alloc hp ⟨[], upd_same, .nil⟩) (rel_alloc st)
def keyT : Dat → Option (List Key)
  | .tup ds => allKeys ds
  | _ => none
theorem keyT_of {v : V} {d : Dat} {ks : List Key} (r : Rel c as H v d) (h : keyT d = some ks) : ∃ b, v = .ref b ∧ H b = some (.tup (ks.map kV)) := by
  unfold keyT at h
  split at h
  · cases r with
    | tup h1 h2 =>
      rw [allKeys_of h h2] at h1
      exact ⟨_, rfl, h1⟩
  · cases h
def putP {κ : Type} [DecidableEq κ] (kvs : List (κ × Dat)) (k : κ) (v : Dat) : List (κ × Dat) :=
  if (kvs.any fun kv => decide (kv.1 = k)) = true then kvs.map (fun kv => if kv.1 = k then (kv.1, v) else kv) else kvs ++ [(k, v)]
theorem RelP.any {κ : Type} [DecidableEq κ] {ps : List (κ × V)} {kvs : List (κ × Dat)} (r : RelP c as H ps kvs) (k : κ) : (ps.any fun kv => decide (kv.1 = k)) = kvs.any fun kv => decide (kv.1 = k) := by
  induction r with
  | nil => rfl
  | cons h t ih => rw [List.any_cons, List.any_cons, h.1, ih]
theorem RelP.put {κ : Type} [DecidableEq κ] {ps : List (κ × V)} {kvs : List (κ × Dat)} (r : RelP c as H ps kvs) {k : κ} {v : V} {d : Dat} (h : Rel c as H v d) : RelP c as H (putK ps k v) (putP kvs k d) := by
  unfold putK putP
  rw [r.any k]
  by_cases e : (kvs.any fun kv => decide (kv.1 = k)) = true
  · rw [if_pos e, if_pos e]
    clear e
    induction r with
    | nil => exact .nil
    | @cons p q ps qs h1 t ih =>
      refine .cons ?_ ih
      show (if p.1 = k then (p.1, v) else p).1 = (if q.1 = k then (q.1, d) else q).1 ∧ Rel c as H (if p.1 = k then (p.1, v) else p).2 (if q.1 = k then (q.1, d) else q).2
      by_cases z : q.1 = k
      · rw [if_pos (h1.1.trans z), if_pos z]
        exact ⟨h1.1, h⟩
      · rw [if_neg (show ¬ p.1 = k by rw [h1.1]; exact z), if_neg z]
        exact h1
  · rw [if_neg e, if_neg e]
    exact Paired.append_ r (.cons ⟨rfl, h⟩ .nil)
/-- what a dict holds at a key; both kinds of dicts -/
def dAt (μ : Store) (x y : Dat) : Option (Option Dat) := match x with
  | .cell k => match μ[k]? with
    | some (.dict kvs) => (keyD y).map (lookD kvs)
    | some (.dictT kvs) => (keyT y).map (lookP kvs)
    | _ => none
  | _ => none
def OptRel (c : Cfg) (as : List Addr) (H : Hp) (ov : Option V) : Option Dat → Prop
  | some d => ∃ u, ov = some u ∧ Rel c as H u d
  | none => ov = none
theorem OptRel.same {ov : Option V} {o : Option Dat} (h : OptRel c as H ov o) : ov.isSome = o.isSome := by
  cases o with
  | some d => obtain ⟨u, rfl, _⟩ := h; rfl
  | none => rw [show ov = none from h]; rfl
theorem RelKV.opt {ps : List (Key × V)} {kvs : List (Key × Dat)} (r : RelKV c as H ps kvs) (k : Key) : OptRel c as H (valV ps k) (lookD kvs k) := by
  cases e : lookD kvs k with
  | some d => exact r.look e
  | none => exact r.lookN e
theorem RelP.opt {κ : Type} [DecidableEq κ] {ps : List (κ × V)} {kvs : List (κ × Dat)} (r : RelP c as H ps kvs) (k : κ) : OptRel c as H (valV ps k) (lookP kvs k) := by
  have z := r.look k
  cases e : lookP kvs k with
  | some d => rw [e] at z; exact z
  | none => rw [e] at z; exact z
theorem dAt_of {v w : V} {x y : Dat} {o : Option Dat} (st : StH c as H μ) (rx : Rel c as H v x) (ry : Rel c as H w y) (h : dAt μ x y = some o) :
    ∃ a ov, v = .ref a ∧ DGet H a w ov ∧ OptRel c as H ov o := by
  unfold dAt at h
  split at h
  · rename_i k
    split at h
    · rename_i kvs hk
      cases hy : keyD y with
      | none => rw [hy] at h; cases h
      | some q =>
        rw [hy] at h
        cases h
        cases rx with
        | @cell _ a ha =>
          obtain ⟨ps, h1, h2⟩ := st.cell_at hk ha
          rw [keyD_of ry hy]
          exact ⟨a, _, rfl, DGet.k h1, h2.opt q⟩
    · rename_i kvs hk
      cases hy : keyT y with
      | none => rw [hy] at h; cases h
      | some q =>
        rw [hy] at h
        cases h
        cases rx with
        | @cell _ a ha =>
          obtain ⟨ps, h1, h2⟩ := st.cell_at hk ha
          obtain ⟨b, rfl, hb⟩ := keyT_of ry hy
          exact ⟨a, _, rfl, DGet.t h1 hb, h2.opt q⟩
    · cases h
  · cases h
def fInDict (neg : Bool) : F2 := fun y x μ => match dAt μ x y with
  | some o => .ok (.bl (if neg then !o.isSome else o.isSome)) μ
  | none => .stuck
theorem simr_inDict (neg : Bool) : SimR c (rInDict neg) (fInDict neg) := by
  intro as H μ v w x y st rx ry σ W Q h
  unfold fInDict at h
  split at h
  · rename_i o ho
    obtain ⟨a, ov, rfl, g, q⟩ := dAt_of st ry rx ho
    refine ⟨a, ov, rfl, g, ?_⟩
    rw [q.same]
    exact h _ as H .refl st (.bl _)
  · exact h.elim
def mDGetU (a b : M Dat) : M Dat := fun δ μ => (a δ μ).bind fun x μ1 => (b δ μ1).bind fun y μ2 => match dAt μ2 x y with
  | some (some d) => .ok d μ2
  | _ => .stuck
theorem sim_dgetU {td ty : TE} {a b : M Dat} (ha : SimE c W td a) (hb : SimE c W ty b) : SimE c W (tDGet td ty) (mDGetU a b) := by
  intro as H σ δ μ st env Q w
  refine ha as H σ δ μ st env _ ((want_bind (R1 := Rel c) w).imp ?_)
  rintro v H1 ⟨as1, μ1, x, e, s1, rx, w1⟩
  refine hb as1 H1 σ δ μ1 s1 (env.mono e) _ ((want_bind (R1 := Rel c) w1).imp ?_)
  rintro u H2 ⟨as2, μ2, y, e2, s2, ry, w2⟩
  split at w2
  · rename_i d hd
    obtain ⟨a, ov, rfl, g, q⟩ := dAt_of s2 (rx.mono e2) ry hd
    obtain ⟨z, rfl, rz⟩ := q
    exact ⟨a, z, rfl, g, w2 _ as2 H2 .refl s2 rz⟩
  · exact w2.elim
/-- d[k] = v, both kinds of dicts -/
def dPutAt (μ : Store) (x y z : Dat) : Option Store := match x with
  | .cell k => match μ[k]? with
    | some (.dict kvs) => (keyD y).bind fun q => if kvs.length < sizeLine then some (μ.set k (.dict (putD kvs q z))) else none
    | some (.dictT kvs) => (keyT y).bind fun q => if kvs.length < sizeLine then some (μ.set k (.dictT (putP kvs q z))) else none
    | _ => none
  | _ => none
def msDPutU (a b v : M Dat) : MS := fun δ μ => (v δ μ).toS δ fun z μ1 => (a δ μ1).toS δ fun x μ2 => (b δ μ2).toS δ fun y μ3 => match dPutAt μ3 x y z with
  | some μ' => .nx δ μ'
  | none => .stuck
theorem sims_dputU {ta tb tv : TE} {a b v : M Dat} (ha : SimE c W ta a) (hb : SimE c W tb b) (hv : SimE c W tv v) : SimS c W (sDPut ta tb tv) (msDPutU a b v) := by
  intro as H σ δ μ st env D w
  refine hv as H σ δ μ st env _ ((want_toS (R := Rel c) env w).imp ?_)
  rintro z H1 ⟨as1, μ1, dz, e1, s1, rz, w1⟩
  have env1 := env.mono e1
  refine ha as1 H1 σ δ μ1 s1 env1 _ ((want_toS (R := Rel c) env1 w1).imp ?_)
  rintro x H2 ⟨as2, μ2, dx, e2, s2, rx, w2⟩
  have env2 := env1.mono e2
  refine hb as2 H2 σ δ μ2 s2 env2 _ ((want_toS (R := Rel c) env2 w2).imp ?_)
  rintro y H3 ⟨as3, μ3, dy, e3, s3, ry, w3⟩
  split at w3
  · rename_i μ' hp
    have rx3 := rx.mono e3
    have rz3 := rz.mono (e2.trans e3)
    unfold dPutAt at hp
    split at hp
    · rename_i k
      split at hp
      · rename_i kvs hk
        cases hy : keyD dy with
        | none => rw [hy] at hp; cases hp
        | some q =>
          rw [hy] at hp
          change (if kvs.length < sizeLine then some (μ3.set k (.dict (putD kvs q dz))) else none) = some μ' at hp
          split at hp
          · rename_i hz
            cases hp
            cases rx3 with
            | cell ha3 =>
              obtain ⟨ps, h1, h2⟩ := s3.cell_at hk ha3
              have ey := keyD_of ry hy
              subst ey
              have ee := ext_set (o := .dK (putK ps q z)) s3 hk ha3
              exact ⟨_, _, rfl, DPut.k h1 (by rw [h2.length]; exact hz), w3 σ as3 _ ee (s3.set (y := .dict (putD kvs q dz)) hk ha3 ⟨_, upd_same, (h2.put rz3).mono ee⟩) ((env2.mono e3).mono ee)⟩
          · cases hp
      · rename_i kvs hk
        cases hy : keyT dy with
        | none => rw [hy] at hp; cases hp
        | some q =>
          rw [hy] at hp
          change (if kvs.length < sizeLine then some (μ3.set k (.dictT (putP kvs q dz))) else none) = some μ' at hp
          split at hp
          · rename_i hz
            cases hp
            cases rx3 with
            | cell ha3 =>
              obtain ⟨ps, h1, h2⟩ := s3.cell_at hk ha3
              obtain ⟨b, rfl, hb⟩ := keyT_of ry hy
              have ee := ext_set (o := .dT (putK ps q z)) s3 hk ha3
              exact ⟨_, _, rfl, DPut.t h1 hb (by rw [h2.len]; exact hz), w3 σ as3 _ ee (s3.set (y := .dictT (putP kvs q dz)) hk ha3 ⟨_, upd_same, (h2.put rz3).mono ee⟩) ((env2.mono e3).mono ee)⟩
          · cases hp
      · cases hp
    · cases hp
  · exact w3.elim
end
end Nh

namespace Nh
open PySem PySem.Spec PyProof.Rows L2
section
variable {c : Cfg} {W : WX} {as as' : List Addr} {H H' : Hp} {μ : Store} {σ : L2.St} {δ : Env}
/-! ### shifts, masks -/
def fShl : F2 := intOpC CPow fun i j => .int (i * 2 ^ j.toNat)
def fShr : F2 := intOpC (fun _ j => 0 ≤ j) fun i j => .int (i / 2 ^ j.toNat)
theorem simr_shl : SimR c (rI CPow fun i j => .int (i * 2 ^ j.toNat)) fShl := simr_I fun _ _ _ _ => .int _
theorem simr_shr : SimR c (rI (fun _ j => 0 ≤ j) fun i j => .int (i / 2 ^ j.toNat)) fShr := simr_I fun _ _ _ _ => .int _
def fAndM : F2 := fun x y μ => match x, y with
  | .int i, .int j => if j = 255 then .ok (.int (i % 256)) μ else .stuck
  | _, _ => .stuck
theorem simr_andM : SimR c (fun x y H Q => ∃ (i : Int) (k : Nat), x = .int i ∧ y = .int (2 ^ k - 1) ∧ Q (.int (i % 2 ^ k)) H) fAndM := by
  intro as H μ v w x y st rx ry σ W Q h
  unfold fAndM at h
  split at h
  · split at h
    · rename_i i j hj
      subst hj
      cases rx
      cases ry
      exact ⟨_, 8, rfl, rfl, h _ as H .refl st (.int _)⟩
    · exact h.elim
  · exact h.elim
def fOrd : FA := fun ds μ => match ds with
  | [.str x] => if x.length = 1 then .ok (.int (x.cps.getD 0 0 : Nat)) μ else .stuck
  | _ => .stuck
theorem simc_ord : SimC c (fun xs H Q => ∃ x, xs = [.str x] ∧ x.length = 1 ∧ Q (.int (x.cps.getD 0 0 : Nat)) H) fOrd := by
  intro as H μ vs ds st rs σ W Q h
  unfold fOrd at h
  split at h
  · split at h
    · rename_i hz
      obtain ⟨v, rfl, r⟩ := rel1 rs
      cases r
      exact ⟨_, rfl, hz, h _ as H .refl st (.int _)⟩
    · exact h.elim
  · exact h.elim
/-! ### text.index(text), tuple.index(text) -/
def fSIndex : F2 := fun x y μ => match x, y with
  | .str a, .str b => match Builtin.Str.occurrences a b 0 a.length 1 with
    | i :: _ => .ok (.int (i : Nat)) μ
    | [] => .stuck
  | _, _ => .stuck
theorem simm_sindex : SimM1 c (fun x xs H Q => ∃ a b i rest, x = .str a ∧ xs = [.str b] ∧ Builtin.Str.occurrences a b 0 a.length 1 = i :: rest ∧ Q (.int (i : Nat)) H) fSIndex := by
  intro as H μ z w y st ry σ W Q h
  cases ry with
  | str b =>
    dsimp only [fSIndex] at h
    split at h
    · rename_i i rest ho
      exact ⟨_, _, i, rest, rfl, rfl, ho, h _ as H .refl st (.int _)⟩
    · exact h.elim
  | _ => exact False.elim h
def firstAt (ys : List Str) (z : Str) : Option Nat := ys.findIdx? fun y => decide (y = z)
theorem firstAt_some {ys : List Str} {z : Str} {j : Nat} (h : firstAt ys z = some j) : ys[j]? = some z ∧ ∀ m, m < j → ys[m]? ≠ some z := by
  obtain ⟨hj, e, no⟩ := List.findIdx?_eq_some_iff_getElem.mp h
  refine ⟨by rw [List.getElem?_eq_getElem hj, of_decide_eq_true e], fun m hm q => ?_⟩
  have z1 := no m hm
  have hm2 : m < ys.length := Nat.lt_trans hm hj
  rw [List.getElem?_eq_getElem hm2] at q
  rw [Option.some.inj q] at z1
  exact absurd (decide_eq_true rfl) z1
def mTIndex (a : M Dat) (b : M (List Dat)) : M Dat := fun δ μ => (a δ μ).bind fun x μ1 => match x with
  | .ct ds => (b δ μ1).bind fun es μ2 => match strsD ds, es with
    | some ys, [.str z] => match firstAt ys z with
      | some j => .ok (.int (j : Nat)) μ2
      | none => .stuck
    | _, _ => .stuck
  | _ => .stuck
/-- a tuple of which the object itself is known -/
def tyC (K : PySem.W.Frag) (x : V) (H : Hp) : Prop := ∃ p, x = .ref p ∧ ((∃ o, K.lookup p = some o ∧ o.cls = .type "tuple" ∧ o.dict = none) ∨ ∃ o xs, H p = some (.frz o (.tup xs)) ∧ o.cls = .type "tuple" ∧ o.dict = none)
def rTI (K : PySem.W.Frag) : V → List V → Hp → VK → Prop := fun x xs H Q => ∃ p, ∃ ys : List Str, ∃ z j, x = .ref p ∧ xs = [.str z] ∧ SqT K H p (ys.map V.str) ∧ ys[j]? = some z ∧ (∀ m, m < j → ys[m]? ≠ some z) ∧ Q (.int (j : Nat)) H
def tTI (K : PySem.W.Frag) (to : TE) (t : TA) : TE := fun σ H Q => to σ H fun x H1 => tyC K x H1 ∧ t σ H1 fun xs H2 => rTI K x xs H2 Q
theorem pe_tindex {X : Cx} {o e : Expr} {to : TE} {t : TA} {apos cpos : Pos} (ho : PE X o to) (ha : PA X [e] t)
    (hbase : attributeBase o "index" X.env (eval o X.env) = eval o X.env := by rfl)
    (hfew : ((backTo cpos (starEach [e] X.env)).all (fun x => !x.1) && (backToKw cpos (keywordEach [] X.env)).all (fun x => x.1.isSome)
      && decide ([e].length + ([] : List Keyword).length + (if ([] : List Keyword).isEmpty then 0 else 1) < 30)) = true := by rfl)
    (hline : (apos.endLine == cpos.line) = true := by rfl) (hs : starEach [e] X.env = (false, eval e X.env) :: starEach [] X.env := by rfl) (hplain : (backTo cpos (starEach [] X.env)).any (·.1) = false := by rfl) :
    PE X (.Call (.Attribute o "index" apos) [e] [] cpos) (tTI X.K to t) := by
  refine ⟨fun pins s σ H Q I h => ?_⟩
  refine wpAny_Call_method_late hbase hfew hline rfl (thn (ho.run pins s σ H _ I h) fun v s1 ⟨x, H1, I1, r1, ty, q1⟩ => ?_)
  obtain ⟨p, rfl, ty⟩ := ty
  obtain rfl : v = Value.ref p := r1
  have known : ∃ ob, s1.heap.get? p = some ob ∧ ob.cls = .type "tuple" ∧ ob.dict = none := by
    rcases ty with ⟨ob, hk, hc, hd⟩ | ⟨ob, xs, hk, hc, hd⟩
    · exact ⟨ob, I1.kIn p ob hk, hc, hd⟩
    · exact ⟨ob, (I1.hok p _ hk).1, hc, hd⟩
  obtain ⟨ob, h1, h2, h3⟩ := known
  refine ⟨"tuple", "tuple.index", PySem.F.plainAttrs_tuple, PySem.F.slot_tuple_index, PySem.F.type_tuple_index, ⟨ob, h1, h2⟩, (fun a e => by cases e; exact ⟨ob, h1, h3⟩), ?_⟩
  have hA := ha.run cpos pins s1 σ H1 _ I1 q1
  rw [hs] at hA ⊢
  refine Calls.callWith_builtin (by show (false || (backTo cpos (starEach [] X.env)).any (·.1)) = false; rw [hplain] <;> rfl) (Calls.evalArgs_plain ?_)
  exact thn hA fun us s2 ⟨vs, H2, I2, r2, q2⟩ => mt_tup_index pins s2 σ H2 (.ref p) vs (.ref p) us Q I2 rfl r2 q2
theorem sim_tindex {to : TE} {t : TA} {a : M Dat} {b : M (List Dat)} (ha : SimE c W to a) (hb : SimA c W t b) : SimE c W (tTI c.K to t) (mTIndex a b) := by
  intro as H σ δ μ st env Q w
  refine ha as H σ δ μ st env _ ((want_bind (R1 := Rel c) w).imp ?_)
  rintro v H1 ⟨as1, μ1, x, e, s1, rx, w1⟩
  split at w1
  · cases rx with
    | @ct p xs ds h1 h2 =>
      refine ⟨⟨p, rfl, ?_⟩, hb as1 H1 σ δ μ1 s1 (env.mono e) _ ((want_bind (R1 := RelAll c) w1).imp ?_)⟩
      · rcases h1 with ⟨_, h4⟩ | ⟨o, h4, h5⟩
        · exact .inl h4
        · exact .inr ⟨o, xs, h4, h5⟩
      rintro us H2 ⟨as2, μ2, es, e2, s2, rs, w2⟩
      split at w2
      · rename_i ys z hy
        split at w2
        · rename_i j hj
          obtain ⟨u, rfl, ru⟩ := rel1 rs
          cases ru
          have q := strsD_of hy h2
          subst q
          obtain ⟨q1, q2⟩ := firstAt_some hj
          exact ⟨p, ys, z, j, rfl, rfl, (h1.mono e2).sq, q1, q2, w2 _ as2 H2 .refl s2 (.int _)⟩
        · exact w2.elim
      · exact w2.elim
  · exact w1.elim
/-! ### a tuple written of known things, kept as it is -/
def tTupF (t : TA) : TE := fun σ H Q => t σ H fun xs H1 => xs.length ≤ sizeLine ∧ ∀ p (o : Obj), H1 p = none → o.cls = .type "tuple" → o.dict = none → Q (.ref p) (upd H1 p (.frz o (.tup xs)))
theorem pe_tupF {X : Cx} {es : List Expr} {t : TA} {x1 : Nat} {pos : Pos} (h : PA X es t) : PE X (.Tuple es x1 pos) (tTupF t) := by
  refine ⟨fun pins s σ H Q I hq => ?_⟩
  refine wpAny_Tuple_spliced (thn (h.run pos pins s σ H _ I hq) fun us s1 ⟨xs, H1, I1, r, z, q⟩ => ⟨by rw [← r.length]; exact z, ?_⟩)
  have hf : H1 s1.heap.objs.size = none := I1.hok.fresh (Nat.le_refl _)
  refine ⟨.ref s1.heap.objs.size, upd H1 s1.heap.objs.size (.frz { cls := .type "tuple", data := .seq us.toArray } (.tup xs)), I1.laid (t' := s1.toks) (fun b u e => Heap.get?_push_of_some _ e) (Nat.le_refl _) ?_, rfl, q _ _ hf rfl rfl⟩
  exact ⟨Heap.get?_push_size _ rfl, z, us, r, ⟨_, Heap.get?_push_size _ rfl, rfl, _, rfl⟩⟩
def mTupF (a : M (List Dat)) : M Dat := fun δ μ => (a δ μ).bind fun ds μ1 => if ds.length ≤ sizeLine then .ok (.ct ds) μ1 else .stuck
theorem sim_tupF {t : TA} {a : M (List Dat)} (h : SimA c W t a) : SimE c W (tTupF t) (mTupF a) := by
  intro as0 H0 σ δ μ0 st0 env0 Q w0
  refine h as0 H0 σ δ μ0 st0 env0 _ ((want_bind (R1 := RelAll c) w0).imp ?_)
  rintro vs H ⟨as, μ, ds, e0, st, r, w⟩
  split at w
  · rename_i hz
    refine ⟨by rw [r.length]; exact hz, fun p o hp h1 h2 => ?_⟩
    exact w _ as _ (ext_new hp) (st.tup (o := .frz o (.tup vs)) hp) (.ct (.inr ⟨o, upd_same, h1, h2⟩) (r.mono (ext_new hp)))
  · exact w.elim
/-! ### in, of any kind -/
theorem op_inU {X : Cx} (hu : X.A.units + 1 < cLine) : OpR X (compareOp .In) (fun x y H Q => (∃ (c : Nat) (z : Str), x = V.str ⟨#[c]⟩ ∧ y = V.str z ∧ Q (V.bl (decide (c ∈ z.cps.toList))) H) ∨ rIn X.K false x y H Q ∨ rInDict false x y H Q) :=
  op_in_sign.or (op_in_seq.or (op_inDict hu))
theorem op_notInU {X : Cx} (hu : X.A.units + 1 < cLine) : OpR X (compareOp .NotIn) (fun x y H Q => (∃ (c : Nat) (z : Str), x = V.str ⟨#[c]⟩ ∧ y = V.str z ∧ Q (V.bl (!decide (c ∈ z.cps.toList))) H) ∨ rIn X.K true x y H Q ∨ rInDict true x y H Q) :=
  op_notIn_sign.or (op_notIn_seq.or (op_notInDict hu))
def fInU : F2 := fAlt fInSign (fAlt (fIn false) (fInDict false))
def fNotInU : F2 := fAlt fNotInSign (fAlt (fIn true) (fInDict true))
theorem simr_inU : SimR c (fun x y H Q => (∃ (c : Nat) (z : Str), x = V.str ⟨#[c]⟩ ∧ y = V.str z ∧ Q (V.bl (decide (c ∈ z.cps.toList))) H) ∨ rIn c.K false x y H Q ∨ rInDict false x y H Q) fInU := simr_alt simr_inSign (simr_alt (simr_in false) (simr_inDict false))
theorem simr_notInU : SimR c (fun x y H Q => (∃ (c : Nat) (z : Str), x = V.str ⟨#[c]⟩ ∧ y = V.str z ∧ Q (V.bl (!decide (c ∈ z.cps.toList))) H) ∨ rIn c.K true x y H Q ∨ rInDict true x y H Q) fNotInU := simr_alt simr_notInSign (simr_alt (simr_in true) (simr_inDict true))
/-! ### range(lo, hi, step) downwards by ones -/
def srcD (i : Int) (n : Nat) : Src := ⟨n, fun k _ => some (.int (i + (k : Nat) * (-1))), fun _ => true⟩
def miRange3 (a : M (List Dat)) : M Src := fun δ μ => (a δ μ).bind fun ds μ1 => match ds with
  | [.int i, .int j, .int c] => if c = -1 ∧ -(2 ^ 62) ≤ i ∧ i < 2 ^ 62 ∧ -(2 ^ 62) ≤ j ∧ j < 2 ^ 62 then .ok (srcD i (i - j).toNat) μ1 else .stuck
  | _ => .stuck
theorem rel3 {vs : List V} {d e f : Dat} (r : RelAll c as H vs [d, e, f]) : ∃ u v w, vs = [u, v, w] ∧ Rel c as H u d ∧ Rel c as H v e ∧ Rel c as H w f := by
  cases r with
  | cons h t =>
    obtain ⟨v, w, rfl, h2, h3⟩ := rel2 t
    exact ⟨_, v, w, rfl, h, h2, h3⟩
theorem simi_range3 {t : TA} {a : M (List Dat)} (h : SimA c W t a) : SimI c W (iRng3 t) (miRange3 a) := by
  intro as H σ δ μ st env Q w
  refine h as H σ δ μ st env _ ((want_bind (R1 := RelAll c) w).imp ?_)
  rintro vs H1 ⟨as1, μ1, ds, e, s1, rs, w1⟩
  split at w1
  · split at w1
    · rename_i i j k hz
      obtain ⟨rfl, h1, h2, h3, h4⟩ := hz
      obtain ⟨u, v, z, rfl, r1, r2, r3⟩ := rel3 rs
      cases r1
      cases r2
      cases r3
      refine ⟨i, j, -1, _, rfl, RgC.neg h1 h2 h3 h4, w1 _ as1 H1 .refl s1 fun as' H' μ' e' st' => ⟨fun k d hk hg => ⟨hk, fun x H2 y => ?_⟩, fun _ => Nat.le_refl _⟩⟩
      obtain ⟨rfl, rfl⟩ := y
      have hg' : some (Dat.int (i + (k : Nat) * (-1))) = some d := hg
      cases hg'
      exact ⟨.refl, st', .int _⟩
    · exact w1.elim
  · exact w1.elim
end
end Nh

namespace Nh
open PySem PySem.Spec PyProof.Rows L2
/-! ### enumerate of a tuple -/
/-- the tuple at a, each item with its number, in a new pair -/
def ItEn (K : PySem.W.Frag) (a : Addr) : It where
  go := fun i H => ∃ (xs : List V) (x : V), SqT K H a xs ∧ xs[i]? = some x
  yld := fun i H v H' => ∃ T x, v = .ref T ∧ H T = none ∧ H' = upd H T (.tup [.int (i : Nat), x]) ∧ ∀ xs, SqT K H a xs → xs[i]? = some x
  stop := fun i H => ∃ xs : List V, SqT K H a xs ∧ xs.length ≤ i
theorem isTuple_inj {h : Heap} {a : Addr} {xs ys : Array Value} (p : h.IsTuple a xs) (q : h.IsTuple a ys) : xs = ys := by
  obtain ⟨o, h1, _, n, h2⟩ := p
  obtain ⟨o', h3, _, n', h4⟩ := q
  rw [h1] at h3
  cases h3
  rw [h2] at h4
  cases h4
  rfl
/-- where an enumerate stands over a tuple -/
def EnAt (a e it : Addr) (i : Nat) (h : Heap) : Prop := (∃ old, IsEnum h e it (i : Int) old) ∧ h.IsTupleIter it a i ∧ e ≠ it
theorem en_apart {a e it : Addr} {i : Nat} {h : Heap} {items : Array Value} (st : EnAt a e it i h) (p : h.IsTuple a items) : a ≠ it ∧ e ≠ a := by
  obtain ⟨⟨old, he⟩, ⟨o, ho, hc, _⟩, _⟩ := st
  obtain ⟨o', h1, h2, _⟩ := p
  refine ⟨fun z => ?_, fun z => ?_⟩
  · subst z
    rw [ho] at h1
    cases h1
    rw [hc] at h2
    exact absurd (Value.type.inj h2) (by decide)
  · subst z
    rw [show h.get? e = _ from he] at h1
    cases h1
    exact absurd (Value.type.inj h2) (by decide)
theorem turn_en {P : Program} {w : World} {K : PySem.W.Frag} {elts : List Expr} {kk : Nat} {tpos : Pos} (a e it : Addr) : Turn P w K (.Tuple elts kk tpos) (ItEn K a) [e, it] e (EnAt a e it) where
  mem := List.mem_cons_self
  obj := by
    intro i h st b hb
    obtain ⟨⟨old, he⟩, ⟨o, ho, _, hd⟩, _⟩ := st
    rcases List.mem_cons.mp hb with q | q
    · subst q
      exact ⟨_, he, fun v z => nomatch z⟩
    · rw [List.mem_singleton.mp q]
      exact ⟨o, ho, fun v z => by rw [hd] at z; cases z⟩
  keep := by
    intro i h h' st hk
    obtain ⟨⟨old, he⟩, ⟨o, ho, r⟩, ne⟩ := st
    exact ⟨⟨old, hk e List.mem_cons_self _ he⟩, ⟨o, hk it (List.mem_cons_of_mem _ List.mem_cons_self) o ho, r⟩, ne⟩
  item := by
    rintro Y rfl rfl rfl calm i pins s σ H E J free st ⟨xs, x, hq, hx⟩
    obtain ⟨its, rel, tup, _⟩ := J.tuple hq
    obtain ⟨u, hu, ru⟩ := rel.get hx
    have ap := en_apart st tup
    obtain ⟨⟨old, he⟩, hit, ne⟩ := st
    have elt : e < s.heap.objs.size := Heap.lt_size he
    have ilt : it < s.heap.objs.size := by obtain ⟨o, ho, _⟩ := hit; exact Heap.lt_size ho
    have lt : i < its.toArray.size := by rw [List.size_toArray, ← rel.length]; exact (List.getElem?_eq_some_iff.mp hx).1
    refine wpAny_pyNext_enum_itemC (Draws.tuple (A := Y.A.in1) (by simp [J.ok.hd calm]) it a ap.1 its.toArray) he ⟨hit, tup⟩ lt ne (by simp only [List.mem_cons, List.not_mem_nil, or_false, not_or]; exact ⟨ne, ap.2⟩) fun y h1 tk hy out st1 pair _ kept => ?_
    have ey : y = u := by
      rw [List.getElem?_toArray, hu] at hy
      exact (Option.some.inj hy).symm
    subst ey
    refine ⟨_, rfl, wpAny_letOwnedTupleGo_enum (s := { s with heap := h1, toks := tk + 1 }) out fun h2 he2 same => ?_⟩
    have pair2 : h2.get? s.heap.objs.size = some { cls := .type "tuple", data := .seq #[.int i tk, y] } := by rw [same.2 _ (Nat.ne_of_gt elt)]; exact pair
    have made : ObjOk Y.prog Y.w (upd H s.heap.objs.size (.tup [.int (i : Nat), x])) h2 s.heap.objs.size (.tup [.int (i : Nat), x]) :=
      ⟨(by decide : 2 ≤ sizeLine), [.int i tk, y], .cons ⟨tk, rfl⟩ (.cons ru .nil), ⟨_, pair2, rfl, 0, rfl⟩⟩
    have old2 : ∀ b o, b ∉ [e, it] → s.heap.get? b = some o → h2.get? b = some o := fun b o nb q => by
      simp only [List.mem_cons, List.not_mem_nil, or_false, not_or] at nb
      rw [same.2 b nb.1]
      exact kept b o nb.1 nb.2 q
    have J2 : L2.Inv Y pins σ (upd H s.heap.objs.size (.tup [.int (i : Nat), x])) { s with heap := h2, toks := tk + 1 } := J.turnedNew (ch := [e, it]) old2 free (Nat.le_refl _) made
    have e1 : ((i + 1 : Nat) : Int) = (i : Int) + 1 := by omega
    refine ⟨.ref s.heap.objs.size, _, J2, rfl, ⟨_, x, rfl, J.hok.fresh (Nat.le_refl _), rfl, fun ys q => by rw [J.tuple_inj q hq]; exact hx⟩, ⟨⟨y, by rw [e1]; exact he2⟩, ?_, ne⟩, fun b hb => ?_⟩
    · obtain ⟨o, ho, r⟩ := st1.1
      exact ⟨o, by rw [same.2 it (Ne.symm ne)]; exact ho, r⟩
    · have blt : b < s.heap.objs.size := by
        rcases List.mem_cons.mp hb with q | q
        · rw [q]; exact elt
        · rw [List.mem_singleton.mp q]; exact ilt
      rw [upd_ne (Nat.ne_of_lt blt)]
      exact (free b hb).1
  done := by
    rintro Y rfl rfl rfl calm i pins s σ H E J free st ⟨xs, hq, hx⟩
    obtain ⟨its, rel, tup, _⟩ := J.tuple hq
    have ap := en_apart st tup
    obtain ⟨⟨old, he⟩, hit, ne⟩ := st
    have none_ : its.toArray[i]? = none := by
      rw [List.getElem?_toArray]
      exact List.getElem?_eq_none (by rw [← rel.length]; exact hx)
    have ty : s.TypeIs (.ref e) "enumerate" := ⟨_, he, rfl⟩
    unfold pyNext
    apply wpAny_bind
    apply wpAny_attempt
    refine wpAny_callSpecial?_slot (name := Str.ofString "__next__") ty PySem.F.slot_enumerate_next (wpAny_call_entry PySem.F.slot_enumerate_next ty PySem.F.entry_enumerate_next ?_ (PySem.F.args_enumerate_next_1 _))
    show wpAny _ _ (field (.ref e) 2 >>= fun y => _) _ _ _
    apply wpAny_bind
    refine wpAny_field he rfl (x := .ref it) rfl ?_
    apply wpAny_bind
    refine wpAny_nextOf_tuple_end (by simp [J.ok.hd calm]) hit tup none_ fun h1 y ext stop => ?_
    obtain ⟨o, ho, hc⟩ := stop
    apply wpAny_bind
    refine wpAny_isInstance (T := "StopIteration") (b := true) ⟨o, ho, hc⟩ isSubtype_stop (wpAny_pure ⟨rfl, ?_⟩)
    obtain ⟨f0, f1, f2, f3, f4, f5⟩ := free it (List.mem_cons_of_mem _ List.mem_cons_self)
    exact J.turned (t' := s.toks) (fun b o nb q => ext b o nb q) f0 f1 f3 f4 f5
  self := by
    intro A i s Q E st q
    obtain ⟨⟨old, he⟩, _⟩ := st
    exact wpAny_pyIter_enum he q
def iEnT (K : PySem.W.Frag) (ta : TA) : TI := fun σ H R => ta σ H fun vs H1 => ∃ a xs, vs = [.ref a] ∧ SqT K H1 a xs ∧ R (ItEn K a) H1
set_option maxHeartbeats 8000000 in
theorem enumerate_new {v : Value} {o : Obj} {φ : Heap → Prop} (B : Begins v o φ) :
    Meets (Builtin.«enumerate.__new__» ⟨[.type "enumerate", v], []⟩) (fun _ R s => φ s.heap ∧
      R (.ok (.ret (.ref (s.heap.push o).objs.size))) { s with heap := (s.heap.push o).push { cls := .type "enumerate", data := .fields #[.none, .bool false, .ref s.heap.objs.size, rawInt 0, .none, .none] } }) :=
  .of_wp fun prog w A R s z => by
    obtain ⟨hp, gens, dr, toks, os⟩ := s
    obtain ⟨z1, z2⟩ := z
    have sub := sub_enumerate
    have begun : ∀ {A' : Around} {E : Value → Shared → Prop} {Q : Value → Shared → Prop}, Q (.ref hp.objs.size) ⟨hp.push o, gens, dr, toks, os⟩ → wpAny (model prog w) A' (pyIter v) Q E ⟨hp, gens, dr, toks, os⟩ :=
      B.iter prog w _ _ ⟨hp, gens, dr, toks, os⟩ _ z1
    wp_walk using begun
    apply wpAny_stack_any
    intro st
    apply wpAny_pure
    split
    · rename_i cc _ _ _ _ _
      cases (cc == Value.type "enumerate") <;> (wp_walk using begun; exact ⟨_, rfl, z2⟩)
    · wp_walk using begun
      exact ⟨_, rfl, z2⟩
theorem pi_enT {X : Cx} {e : Expr} {ta : TA} {p pos tpos : Pos} {elts : List Expr} {kk : Nat} (glob : Gl X "enumerate") (free : X.mg "enumerate" = none) (args : PA X [e] ta) (one : starEach [e] X.env = [(false, eval e X.env)] := by rfl) :
    PI X (.Tuple elts kk tpos) (.Call (.Name "enumerate" p) [e] [] pos) (iEnT X.K ta) := by
  constructor
  intro pins s σ H R J want
  refine Call_ (ld_blt J glob free boot_enumerate (PyProof.Rows.callWith_type1 (thn (args.run pos pins s σ H _ J want) fun us s1 got => ?_) one rfl))
  obtain ⟨vs, H1, J1, rv, a, xs, ev, hq, rest⟩ := got
  subst ev
  cases rv with
  | cons r0 rr =>
    cases rr
    cases r0
    obtain ⟨its, rel, tup, _⟩ := J1.tuple hq
    have begins := begins_tuple a its.toArray
    refine callType_new PySem.F.called_enumerate (by decide) (PySem.F.typeCall_enumerate_1 _) (PySem.F.newCall_enumerate_1 _) (fun obj => PySem.F.args_object_init_2 obj _) PySem.F.entry_enumerate_new (enumerate_new begins) ⟨tup, ?_⟩
    have size1 : (s1.heap.push { cls := .type "tuple_iterator", data := .fields #[.ref a, .int 0 0] }).objs.size = s1.heap.objs.size + 1 := Heap.size_push ..
    show _ ∧ _
    rw [size1]
    have he : IsEnum ((s1.heap.push { cls := .type "tuple_iterator", data := .fields #[.ref a, .int 0 0] }).push { cls := .type "enumerate", data := .fields #[.none, .bool false, .ref s1.heap.objs.size, rawInt 0, .none, .none] }) (s1.heap.objs.size + 1) s1.heap.objs.size 0 .none := by
      have z := Heap.get?_push_size (s1.heap.push { cls := .type "tuple_iterator", data := .fields #[.ref a, .int 0 0] }) (o := { cls := .type "enumerate", data := .fields #[.none, .bool false, .ref s1.heap.objs.size, rawInt 0, .none, .none] }) rfl
      rw [size1] at z
      exact z
    refine ⟨⟨_, he, rfl⟩, wpAny_pyIter_enum he ?_⟩
    have J2 : L2.Inv X pins σ H1 { s1 with heap := (s1.heap.push { cls := .type "tuple_iterator", data := .fields #[.ref a, .int 0 0] }).push { cls := .type "enumerate", data := .fields #[.none, .bool false, .ref s1.heap.objs.size, rawInt 0, .none, .none] } } :=
      J1.kept (t' := s1.toks) fun b o q => Heap.get?_push_of_some _ (Heap.get?_push_of_some _ q)
    refine ⟨s1.heap.objs.size + 1, [s1.heap.objs.size + 1, s1.heap.objs.size], _, _, H1, rfl, J2, turn_en a (s1.heap.objs.size + 1) s1.heap.objs.size, ⟨⟨.none, he⟩, ⟨_, Heap.get?_push_of_some _ (Heap.get?_push_size _ rfl), rfl, rfl⟩, Nat.succ_ne_self _⟩, fun b hb => ?_, rest⟩
    have le : s1.heap.objs.size ≤ b := by
      rcases List.mem_cons.mp hb with q | q
      · rw [q]; exact Nat.le_succ _
      · rw [List.mem_singleton.mp q]; exact Nat.le_refl _
    exact J1.fpOk le (J1.hok.fresh le)
section
variable {c : Cfg} {W : WX} {as as' : List Addr} {H H' : Hp} {μ : Store}
def srcE (ds : List Dat) : Src := ⟨ds.length, fun i _ => (ds[i]?).map fun d => .tup [.int (i : Nat), d], fun _ => true⟩
theorem jrel_en {a : Addr} {xs : List V} {ds : List Dat} (hq : ∀ {as' : List Addr} {H' : Hp}, Ext as H as' H' → SqT c.K H' a xs) (r : RelAll c as H xs ds) : JRel c as H (ItEn c.K a) (srcE ds) := fun as' H' μ' e st => by
  refine ⟨fun i d hi hg => ?_, fun _ => ⟨xs, hq e, by rw [r.length]; exact Nat.le_refl _⟩⟩
  have hg' : (ds[i]?).map (fun d => Dat.tup [.int (i : Nat), d]) = some d := hg
  cases hd : ds[i]? with
  | none => rw [hd] at hg'; cases hg'
  | some d0 =>
    rw [hd] at hg'
    cases hg'
    obtain ⟨v, h3, h4⟩ := (r.mono e).get hd
    refine ⟨⟨xs, v, hq e, h3⟩, fun x H2 y => ?_⟩
    obtain ⟨T, x', rfl, hn, rfl, q⟩ := y
    have z := q xs (hq e)
    rw [h3] at z
    cases z
    exact ⟨ext_new hn, st.tup hn, .tup upd_same (.cons (.int _) (.cons (h4.mono (ext_new hn)) .nil))⟩
def miEnT (a : M (List Dat)) : M Src := fun δ μ => (a δ μ).bind fun ds μ1 => match ds with
  | [.tup es] => .ok (srcE es) μ1
  | _ => .stuck
theorem simi_enT {t : TA} {a : M (List Dat)} (h : SimA c W t a) : SimI c W (iEnT c.K t) (miEnT a) := by
  intro as H σ δ μ st env Q w
  refine h as H σ δ μ st env _ ((want_bind (R1 := RelAll c) w).imp ?_)
  rintro vs H1 ⟨as1, μ1, ds, e, s1, rs, w1⟩
  split at w1
  · obtain ⟨v, rfl, r⟩ := rel1 rs
    cases r with
    | @tup a xs _ h1 h2 => exact ⟨a, xs, rfl, h1.sq, w1 _ as1 H1 .refl s1 (jrel_en (fun e => (h1.mono e).sq) h2)⟩
  · exact w1.elim
end
end Nh

namespace Nh
open PySem PySem.Spec PyProof.Rows L2
/-! ### sets of texts whose table can be walked -/
def txtOf : Value → Str
  | .str x _ => x
  | _ => Str.empty
/-- an entry: a text and its hash -/
def TxE (w : World) (e : Int × Value) : Prop := ∃ x tk, e = (hashStr w x, Value.str x tk)
structure SetT (w : World) (h : Heap) (a : Addr) (ks : List Str) (o : Obj) (es : Array (Int × Value)) (ep : Nat) (t : SetTable) : Prop where
  at_ : h.get? a = some o
  exact_ : o.ExactSet
  data : o.data = .set es ep t
  ents : ∀ e ∈ es.toList, TxE w e
  keys : (es.toList.map fun e => txtOf e.2).Nodup
  mem : ∀ x, x ∈ ks ↔ x ∈ es.toList.map fun e => txtOf e.2
  small : es.size < scanBound
  fits : t.fits es.size = true
  rises : Ris t.place.toList
  led : w.params.followText "set-order" = true ∨ t.led = true
def SetS (w : World) (h : Heap) (a : Addr) (ks : List Str) : Prop := ∃ o es ep t, SetT w h a ks o es ep t
section
variable {P : Program} {w : World} {A : Around} {E : Value → Shared → Prop} {s : Shared} {a : Addr} {ks : List Str}
theorem SetS.later {h h' : Heap} (z : SetS w h a ks) (k : ∀ o, h.get? a = some o → h'.get? a = some o) : SetS w h' a ks := by
  obtain ⟨o, es, ep, t, q⟩ := z
  exact ⟨o, es, ep, t, { q with at_ := k o q.at_ }⟩
theorem SetS.same {h : Heap} {ks' : List Str} (z : SetS w h a ks) (k : ∀ x, x ∈ ks' ↔ x ∈ ks) : SetS w h a ks' := by
  obtain ⟨o, es, ep, t, q⟩ := z
  exact ⟨o, es, ep, t, { q with mem := fun x => (k x).trans (q.mem x) }⟩
theorem txE_elems {l : List (Int × Value)} (h : ∀ e ∈ l, TxE w e) : ElemsOf (PySem.strKind P w) l := by
  intro e he
  obtain ⟨x, tk, rfl⟩ := h e he
  exact ⟨⟨x, strKind_is P w x tk, rfl⟩, rfl⟩
theorem txE_is {e : Int × Value} (h : TxE w e) (x : Str) : (PySem.strKind P w).is x e.2 = true ↔ txtOf e.2 = x := by
  obtain ⟨y, tk, rfl⟩ := h
  show (y == x) = true ↔ y = x
  exact beq_iff_eq
theorem SetT.size_le {h : Heap} {o : Obj} {es : Array (Int × Value)} {ep : Nat} {t : SetTable} (q : SetT w h a ks o es ep t) : es.size ≤ ks.length := by
  have z : (es.toList.map fun e => txtOf e.2).length ≤ ks.length := q.keys.length_le_of_subset fun x hx => (q.mem x).mpr hx
  rwa [List.length_map, Array.length_toList] at z
theorem stored {h : Heap} {o : Obj} {es es' : Array (Int × Value)} {ep : Nat} {t t' : SetTable} (ho : h.get? a = some o) (hd : o.data = .set es ep t) : (h.update a (Obj.putSet es' t')).get? a = some { o with data := .set es' (ep + 1) t' } := store_at ho hd
/-- behind the new entry: the table may be laid anew -/
theorem add_end {give : Bool → Sem Unit} (hg : ∀ (b : Bool) (s₁ : Shared) (R' : Unit → Shared → Prop), R' () s₁ → wpAny (model P w) A (give b) R' E s₁) {o : Obj} {es es1 : Array (Int × Value)} {ep : Nat} {t t2 : SetTable} {gone : Bool} {R : Option Bool → Shared → Prop}
    (ho : s.heap.get? a = some o) (hd : o.data = .set es ep t) (hx : o.ExactSet) (g1 : ∀ e ∈ es1.toList, TxE w e) (n1 : (es1.toList.map fun e => txtOf e.2).Nodup) (m1 : ∀ x, x ∈ ks ↔ x ∈ es1.toList.map fun e => txtOf e.2) (z1 : es1.size < scanBound) (f1 : t2.fits es1.size = true)
    (r1 : Ris t2.place.toList) (l1 : w.params.followText "set-order" = true ∨ t2.led = true) (hR : ∀ h', Heap.SameBut a s.heap h' → SetS w h' a ks → R (some true) { s with heap := h' }) :
    wpAny (model P w) A (storeSet a es1 t2 >>= fun _ => if (!gone && t2.tooFull) = true then
        give (relayAll t2 es1 (SetTable.grown es1.size)).2.2 >>= fun _ => storeSet a (relayAll t2 es1 (SetTable.grown es1.size)).1 (relayAll t2 es1 (SetTable.grown es1.size)).2.1 >>= fun _ => pure (some true)
      else pure (some true)) R E s := by
  apply wpAny_bind
  refine wpAny_storeSet_of ho hd ?_ (fits_of_scanBound z1)
  have ho1 : (s.heap.update a (Obj.putSet es1 t2)).get? a = some { o with data := .set es1 (ep + 1) t2 } := stored ho hd
  have same1 := Heap.SameBut.update s.heap a (Obj.putSet es1 t2)
  by_cases full : (!gone && t2.tooFull) = true
  · rw [if_pos full]
    have perm := relayAll_perm t2 es1 (SetTable.grown es1.size)
    have f2 := relayAll_fits t2 es1 (SetTable.grown es1.size)
    have r2 := relayAll_ris t2 es1 (SetTable.grown es1.size)
    have l2 := relayAll_led t2 es1 (SetTable.grown es1.size)
    generalize relayAll t2 es1 (SetTable.grown es1.size) = laid at perm f2 r2 l2 ⊢
    obtain ⟨es2, t3, gave⟩ := laid
    dsimp only at perm f2 r2 l2 ⊢
    have size2 : es2.size = es1.size := by
      have q := perm.length_eq
      rwa [Array.length_toList, Array.length_toList] at q
    apply wpAny_bind
    apply hg
    apply wpAny_bind
    refine wpAny_storeSet_of ho1 rfl ?_ (fits_of_scanBound (by rw [size2]; exact z1))
    apply wpAny_pure
    have permK := perm.map fun e => txtOf e.2
    refine hR _ (same1.trans (Heap.SameBut.update _ a _)) ⟨_, es2, _, t3, stored ho1 rfl, hx, rfl, fun e he => g1 e (perm.mem_iff.mp he), permK.nodup_iff.mpr n1, fun x => (m1 x).trans permK.mem_iff.symm, by rw [size2]; exact z1, f2, r2, ?_⟩
    exact l1.imp id fun q => by rw [l2]; exact q
  · rw [if_neg full]
    exact wpAny_pure (hR _ same1 ⟨_, es1, _, t2, ho1, hx, rfl, g1, n1, m1, z1, f1, r1, l1⟩)
theorem setS_add {x : Str} {tk : Tok} {Q : Bool → Shared → Prop} (z : SetS w s.heap a ks) (room : ks.length + 1 < scanBound)
    (hQ : ∀ b h', Heap.SameBut a s.heap h' → SetS w h' a (ks ++ [x]) → Q b { s with heap := h' }) : wpAny (model P w) A (setAddHashed a (.str x tk) (hashStr w x)) Q E s := by
  obtain ⟨o, es, ep, t, q⟩ := z
  have isx : (PySem.strKind P w).is x (.str x tk) = true := strKind_is P w x tk
  have elems : ElemsOf (PySem.strKind P w) es.toList := txE_elems q.ents
  have sc : (Value.str x tk).scannable = true := rfl
  unfold setAddHashed setAddHashedIn
  apply wpAny_holding
  apply wpAny_bind
  refine wpAny_setState_of q.at_ q.data q.fits ?_
  dsimp only
  rw [byScan_of sc q.small elems]
  simp only [↓reduceIte]
  unfold setAddByScan
  apply wpAny_bind
  apply wpAny_bind
  apply wpAny_rule
  apply wpAny_bind
  refine wpAny_setScan_of (knd := PySem.strKind P w) (k := x) isx q.at_ q.data q.fits elems ?_
  cases found : List.findIdx? (fun e => (PySem.strKind P w).is x e.2) es.toList with
  | some j =>
    dsimp only
    obtain ⟨hj, pj, _⟩ := List.findIdx?_eq_some_iff_getElem.mp found
    have inx : x ∈ ks := (q.mem x).mpr (List.mem_map.mpr ⟨es.toList[j], List.getElem_mem hj, (txE_is (P := P) (q.ents _ (List.getElem_mem hj)) x).mp pj⟩)
    refine wpAny_pure (wpAny_pure (hQ false s.heap (Heap.SameBut.refl a s.heap) (SetS.same ⟨o, es, ep, t, q⟩ fun y => ?_)))
    rw [List.mem_append, List.mem_singleton]
    exact ⟨fun k => k.elim id fun e => e ▸ inx, .inl⟩
  | none =>
    dsimp only
    have out : x ∉ es.toList.map fun e => txtOf e.2 := fun k => by
      obtain ⟨e, he, ee⟩ := List.mem_map.mp k
      have no := List.findIdx?_eq_none_iff.mp found e he
      rw [(txE_is (P := P) (q.ents e he) x).mpr ee] at no
      cases no
    have given : ∀ (b : Bool) {s₁ : Shared} {R' : Unit → Shared → Prop}, R' () s₁ → wpAny (model P w) A (match b with | true => rule "set.scan.the-table-gave-way" | false => pure ()) R' E s₁ := by
      intro b s₁ R' k
      cases b
      · exact wpAny_pure k
      · exact wpAny_rule k
    have perm := layNew_perm t es (hashStr w x) (.str x tk)
    have f1 := layNew_fits t es (hashStr w x) (.str x tk)
    have r1 := layNew_ris t es (hashStr w x) (.str x tk) q.rises
    have l1 := layNew_led t es (hashStr w x) (.str x tk)
    generalize layNew t es (hashStr w x) (.str x tk) = laid at perm f1 r1 l1 ⊢
    obtain ⟨es1, t1, gone, gave⟩ := laid
    dsimp only at perm f1 r1 l1 ⊢
    have perm2 : es1.toList.Perm ((hashStr w x, Value.str x tk) :: es.toList) := by
      rw [Array.toList_push] at perm
      exact perm.trans (List.perm_append_singleton _ _)
    have permK : (es1.toList.map fun e => txtOf e.2).Perm (x :: es.toList.map fun e => txtOf e.2) := perm2.map fun e => txtOf e.2
    have g1 : ∀ e ∈ es1.toList, TxE w e := fun e he => (List.mem_cons.mp (perm2.mem_iff.mp he)).elim (fun k => ⟨x, tk, k⟩) (q.ents e)
    have n1 : (es1.toList.map fun e => txtOf e.2).Nodup := permK.nodup_iff.mpr (List.nodup_cons.mpr ⟨out, q.keys⟩)
    have m1 : ∀ y, y ∈ ks ++ [x] ↔ y ∈ es1.toList.map fun e => txtOf e.2 := fun y => by
      rw [permK.mem_iff, List.mem_cons, List.mem_append, List.mem_singleton, q.mem y]
      exact Or.comm
    have size1 : es1.size = es.size + 1 := by
      have k := perm2.length_eq
      rwa [List.length_cons, Array.length_toList, Array.length_toList] at k
    have z1 : es1.size < scanBound := by
      have k := q.size_le
      omega
    have led1 : w.params.followText "set-order" = true ∨ t1.led = true := q.led.imp id fun k => by rw [l1]; exact k
    apply wpAny_bind
    refine given _ ?_
    by_cases pl : t1.plain = true
    · rw [if_pos pl]
      apply wpAny_bind
      rw [hashByValue_scannable 8 sc]
      apply wpAny_pure
      refine add_end (fun b s₁ R' k => given b k) q.at_ q.data q.exact_ g1 n1 m1 z1 ?_ ?_ ?_ fun h' same r => ?_
      · first | (split <;> first | exact f1 | exact SetTable.fits_plain_off f1) | exact f1
      · first | (split <;> exact r1) | exact r1
      · first | (split <;> exact led1) | exact led1
      · dsimp only
        exact wpAny_pure (hQ true h' same r)
    · rw [if_neg pl]
      apply wpAny_bind
      apply wpAny_pure
      simp only [↓reduceIte]
      refine add_end (fun b s₁ R' k => given b k) q.at_ q.data q.exact_ g1 n1 m1 z1 f1 r1 led1 fun h' same r => ?_
      dsimp only
      exact wpAny_pure (hQ true h' same r)
end
end Nh

namespace Nh
open PySem PySem.Spec PyProof.Rows L2
/-- a new set -/
abbrev newS (w : World) : Obj := { cls := .type "set", dict := none, data := .set #[] 0 (.fresh 0 0 (!w.params.followText "set-order")) }
section
variable {P : Program} {w : World} {A : Around} {E : Value → Shared → Prop} {s : Shared} {a : Addr}
theorem setS_new {h : Heap} (at_ : h.get? a = some (newS w)) : SetS w h a [] := by
  refine ⟨_, #[], 0, _, at_, ⟨rfl, rfl, rfl⟩, rfl, ?_, ?_, ?_, by decide, by rfl, List.Pairwise.nil, ?_⟩
  · intro e he; simp at he
  · simp
  · intro x; simp
  · show _ ∨ (!w.params.followText "set-order") = true
    cases w.params.followText "set-order" <;> simp
theorem update_txts {I : Addr} {fp wr : List Addr} {G : Array GenState → Array GenState → Prop} {n : Nat} {Pv : Nat → Value → Prop} {St : Nat → Shared → Prop} {R : Result → Shared → Prop} (W : WalksS P w A.in1 I fp wr G n Pv St) (S : Addr) (out : S ∉ fp) (xs : List Str)
    (hn : n = xs.length) (few : xs.length + 1 < scanBound) (val : ∀ i v, Pv i v → ∃ x t, xs[i]? = some x ∧ v = .str x t) : ∀ (left i : Nat) (s : Shared), n - i = left → i ≤ n → St i s → SetS w s.heap S (xs.take i) →
      (∀ s', Moved (S :: wr) G s s' → SetS w s'.heap S xs → R (.ok (.ret .none)) s') → codeAny (model P w) A (.builtin "set.update.loop" ⟨[.ref S, .ref I], []⟩) R s := by
  have out2 : S ∉ wr := fun z => out (W.sub _ z)
  have more : ∀ b ∈ wr, b ∈ S :: wr := fun b z => List.mem_cons_of_mem _ z
  intro left
  induction left with
  | zero =>
    intro i s e0 le st z fin
    obtain rfl : i = n := by omega
    apply codeAny_builtin PyProof.Rows.F.entry_set_update_loop
    rw [Around.under_plainId PyProof.Rows.F.plain_set_update_loop _]
    show wpAny _ A.in1 (pyNext (.ref I) >>= fun y => _) _ _ s
    apply wpAny_bind
    refine W.done s _ _ st fun s' mv => ?_
    show wpAny _ A.in1 (ret Value.none) _ _ s'
    apply wpAny_pure
    rw [List.take_of_length_le (by omega)] at z
    exact fin s' (mv.mono more) (z.later fun o q => mv.heap S o out2 q)
  | succ left ih =>
    intro i s e0 le st z fin
    have lt : i < n := by omega
    apply codeAny_builtin PyProof.Rows.F.entry_set_update_loop
    rw [Around.under_plainId PyProof.Rows.F.plain_set_update_loop _]
    show wpAny _ A.in1 (pyNext (.ref I) >>= fun y => _) _ _ s
    apply wpAny_bind
    refine W.item i s _ _ lt st fun v s' pv st' mv => ?_
    obtain ⟨x, t, hx, rfl⟩ := val i v pv
    have z' : SetS w s'.heap S (xs.take i) := z.later fun o q => mv.heap S o out2 q
    show wpAny _ A.in1 (holding [Value.str x t] (setAdd S (.str x t)) >>= fun y => _) _ _ s'
    apply wpAny_bind
    apply wpAny_holding
    unfold setAdd
    apply wpAny_holding
    apply wpAny_bind
    refine (PySem.strKind P w).pyHash (k := x) (strKind_is _ _ _ _) ?_
    refine setS_add (s := { s' with toks := s'.toks + 1 }) (x := x) (tk := t) z' ?_ fun b h' same z2 => ?_
    · rw [List.length_take]; omega
    have z3 : SetS w h' S (xs.take (i + 1)) := z2.same fun y => by rw [List.take_add_one, hx]; rfl
    apply wpAny_pure
    refine ⟨plainId_quiet PyProof.Rows.F.plain_set_update_loop _, ih (i + 1) _ (by omega) lt (W.frame _ s' _ _ st' (Nat.le_succ _) fun b hb o q => ?_) z3 fun s2 mv2 z4 => fin s2 ?_ z4⟩
    · have nb : b ≠ S := fun k => out (k ▸ hb)
      exact (same.2 b nb).trans q
    · refine Moved.trans W.gtrans ((mv.mono more).then_heap (Nat.le_succ _) fun b o nb q => ?_) mv2
      have nb2 : b ≠ S := fun k => nb (k ▸ List.mem_cons_self)
      exact (same.2 b nb2).trans q
theorem new_set1 (v : Value) {Q₁ : Value → Shared → Prop} (h : Q₁ (.ref s.heap.objs.size) { s with heap := s.heap.push (newS w) }) : codeAny (model P w) A (.call (.builtin "set.__new__") ⟨[.type "set", v], []⟩) (wants Q₁ E) s := code_set_led1 v h
set_option maxRecDepth 100000 in
theorem set_of_tuple {l : Addr} {items : Array Value} (xs : List Str) {Q : Value → Shared → Prop} (calm : A.handled = none) (tup : s.heap.IsTuple l items) (txts : PyProof.Rows.StrsAre items.toList xs) (few : xs.length + 1 < scanBound)
    (hQ : ∀ (h' : Heap) (tk : Nat), SetS w h' s.heap.objs.size xs → (∀ b o, s.heap.get? b = some o → h'.get? b = some o) → Q (.ref s.heap.objs.size) { s with heap := h', toks := tk }) : wpAny (model P w) A (call (.type "set") [.ref l]) Q E s := by
  have size1 : items.size = xs.length := by
    have z := StrsAre.len_eq txts
    rwa [Array.length_toList] at z
  obtain ⟨c, tl, mro⟩ := PySem.F.called_set.mro
  have made := PySem.F.called_set.made
  have sub := PySem.F.called_set.sub
  apply wpAny_call
  apply codeAny_of_tree
  show wpAny _ _ (callAny (.type "set") _) _ _ _
  refine wpAny_pure ⟨Code.quiet_builtin _ (by decide +kernel), codeAny_builtin PySem.F.entry_type_call ?_⟩
  rw [Around.under_plain (weight_type_call_type "set" [.ref l] []) rfl]
  have no1 := PySem.F.called_set.notType
  have can := PySem.F.called_set.canCreate
  have tc := PySem.F.typeCall_set_1 (.ref l)
  repeat (any_goals (first | assumption | wp_step))
  refine codeAny_mono (new_set1 (.ref l) (E := E) (Q₁ := fun ob s1 => ob = .ref s.heap.objs.size ∧ s1 = { s with heap := s.heap.push (newS w) }) ⟨rfl, rfl⟩) fun res s1 got => ?_
  match res, got with
  | .error e, got => exact got
  | .ok .next, got => exact got.elim
  | .ok .brk, got => exact got.elim
  | .ok .cont, got => exact got.elim
  | .ok (.ret ob), got =>
    obtain ⟨rfl, rfl⟩ := got
    have there : (s.heap.push (newS w)).get? s.heap.objs.size = some (newS w) := Heap.get?_push_size _ rfl
    have isSet : Shared.TypeIs { s with heap := s.heap.push (newS w) } (.ref s.heap.objs.size) "set" := ⟨_, there, rfl⟩
    have look := PySem.F.called_set.init.lookup
    have bound := PySem.F.called_set.init.bind (.ref s.heap.objs.size)
    repeat (any_goals (first | assumption | wp_step))
    refine codeAny_mono (codeAny_call_builtin (R := wants (fun r s2 => r = .none ∧ ∃ h' tk, s2 = { s with heap := h', toks := tk } ∧ SetS w h' s.heap.objs.size xs ∧ ∀ b o, s.heap.get? b = some o → h'.get? b = some o) E)
      PySem.F.called_set.init.plain PySem.F.entry_set_init (check_set_init_1 isSet ?_)) fun res2 s2 got2 => ?_
    · obtain ⟨⟨oc, odict, odata, osl⟩, hol, hcl, nl, hdl⟩ := tup
      dsimp only at hcl hdl
      subst hcl hdl
      have hol2 : (s.heap.push (newS w)).get? l = some { cls := .type "tuple", dict := odict, data := .seq items nl, slots := osl } := Heap.get?_push_of_some _ hol
      have no2 := PySem.F.sub_tuple_set
      have no3 := PySem.F.sub_tuple_frozenset
      have no4 : (Value.type "tuple" == Value.type "dict") = false := by decide
      have tup2 : (s.heap.push (newS w)).IsTuple l items := ⟨_, hol2, rfl, nl, rfl⟩
      unfold Builtin.«set.__init__» noKeywords Builtin.Frozenset.updateFrom
      generalize hold : pyIter = iter
      wp_walk
      subst hold
      apply wpAny_pyIter_tuple tup2
      apply wpAny_bind
      apply wpAny_runValue
      have below : l < s.heap.objs.size := Heap.lt_size hol
      have newI : l ≠ (s.heap.push (newS w)).objs.size := by rw [Heap.size_push]; exact Nat.ne_of_lt (Nat.lt_succ_of_lt below)
      have off : s.heap.objs.size ∉ [(s.heap.push (newS w)).objs.size, l] := by
        rw [Heap.size_push]
        simp only [List.mem_cons, List.not_mem_nil, or_false, not_or]
        exact ⟨Nat.ne_of_lt (Nat.lt_succ_self _), Nat.ne_of_gt below⟩
      refine update_txts ((Walks.tuple (by simp [calm]) _ l newI items).toS) s.heap.objs.size off xs size1 few (fun i v hv => ?_) items.size 0 _ rfl (Nat.zero_le _) ⟨⟨_, Heap.get?_push_size _ rfl, rfl, rfl⟩, tup2.push _⟩ ?_ ?_
      · have lt : i < xs.length := by rw [← size1]; exact (Array.getElem?_eq_some_iff.mp hv).1
        obtain ⟨t, e⟩ := SS.strs_at txts i v (by rw [Array.getElem?_toList]; exact hv)
        refine ⟨xs[i], t, List.getElem?_eq_getElem lt, ?_⟩
        rw [e, List.getD_eq_getElem?_getD, List.getElem?_eq_getElem lt]
        rfl
      · exact setS_new (Heap.get?_push_of_some _ there)
      · intro s3 mv z
        obtain ⟨h3, g3, d3, t3, o3⟩ := s3
        obtain rfl : g3 = s.gens := mv.gens
        obtain rfl : d3 = s.drawn := mv.drawn
        obtain rfl : o3 = s.os := mv.os
        show wpAny _ _ _ _ _ _
        apply wpAny_pure
        show wpAny _ _ (ret Value.none) _ _ _
        refine wpAny_pure ⟨rfl, h3, t3, rfl, z, fun b o q => ?_⟩
        have lt := Heap.lt_size q
        refine mv.heap b o ?_ (Heap.get?_push_of_some _ (Heap.get?_push_of_some _ q))
        simp only [List.mem_cons, List.not_mem_nil, or_false, not_or]
        rw [Heap.size_push]
        exact ⟨Nat.ne_of_lt lt, Nat.ne_of_lt (Nat.lt_succ_of_lt lt)⟩
    · match res2, got2 with
      | .error e, got2 => exact got2
      | .ok .next, got2 => exact got2.elim
      | .ok .brk, got2 => exact got2.elim
      | .ok .cont, got2 => exact got2.elim
      | .ok (.ret r), got2 =>
        obtain ⟨rfl, h3, t3, rfl, z, kept⟩ := got2
        repeat (any_goals (first | assumption | wp_step))
        exact hQ _ _ z kept
/-! ### sorted of such a set -/
theorem txts_of : ∀ (l : List Value), (∀ v ∈ l, ∃ x tk, v = Value.str x tk) → PyProof.Rows.StrsAre l (l.map txtOf)
  | [], _ => .nil
  | v :: l, h => by
    obtain ⟨x, tk, rfl⟩ := h v List.mem_cons_self
    exact .cons x tk (txts_of l fun u hu => h u (List.mem_cons_of_mem _ hu))
theorem sorted_setS {ks : List Str} {Q : Value → Shared → Prop} (z : SetS w s.heap a ks) (calm : A.handled = none) (few : ks.length < 64)
    (hQ : ∀ s' p (out : Array Value) (c : Nat) (ys : List Str), (∀ b o, s.heap.get? b = some o → s'.heap.get? b = some o) → s'.gens = s.gens → s'.os = s.os → s.heap.objs.size ≤ p → s'.heap.get? p = some (seqObj "list" out c) →
      PyProof.Rows.StrsAre out.toList ys → ys.Nodup → (∀ x, x ∈ ys ↔ x ∈ ks) → sortedS ys = true → Q (.ref p) s') : wpAny (model P w) A (call (.builtin "sorted") [.ref a]) Q E s := by
  obtain ⟨o, es, ep, t, q⟩ := z
  have small : es.size < 64 := Nat.lt_of_le_of_lt q.size_le few
  refine Calls.call_function_entry kind_sorted plain_sorted entry_sorted (args_sorted1 _) ?_
  unfold Builtin.«sorted»
  refine wpAny_bind (m := checkCount "sorted" 1 1 _) (wpAny_pure ?_)
  apply wpAny_bind
  refine collect_set (A := A.in1) calm ⟨o, q.at_, q.exact_.1, q.data⟩ q.fits q.small q.rises q.led fun s1 vs kept _ gens os_ perm => ?_
  have len : vs.length = es.size := by rw [perm.length_eq, List.length_map, Array.length_toList]
  have txts : PyProof.Rows.StrsAre vs (vs.map txtOf) := txts_of vs fun v hv => by
    obtain ⟨e, he, ee⟩ := List.mem_map.mp (perm.mem_iff.mp hv)
    obtain ⟨x, tk, rfl⟩ := q.ents e he
    exact ⟨x, tk, ee.symm⟩
  have permK : (vs.map txtOf).Perm (es.toList.map fun e => txtOf e.2) := by
    have k := perm.map txtOf
    rw [List.map_map] at k
    exact k
  apply wpAny_bind
  refine wpAny_newList ?_ (by rw [len, sizeLine_eq]; omega)
  have fresh : (s1.heap.push (seqObj "list" vs.toArray 0)).get? s1.heap.objs.size = some (seqObj "list" vs.toArray 0) := Heap.get?_push_size _ rfl
  apply wpAny_bind
  apply wpAny_holding
  refine wpAny_call_entry slot_list_sort ⟨_, fresh, rfl⟩ entry_list_sort (list_sort_treeK PyProof.Rows.strKind_oneLt fresh txts.keysOf (fun v1 v2 rest e => keyKind_strs (by rw [← e]; exact txts)) (by rw [len]; exact small) fun st' hp hs => ⟨_, rfl, ?_⟩) (args_list_sort _)
  obtain ⟨ys, y1, y2, y3⟩ := sorted_out_str txts hp hs
  obtain ⟨c, hc⟩ := sortedHeap_at (vs := vs) (out := (arrOf st').map (·.2)) fresh
  have permY : ys.Perm (es.toList.map fun e => txtOf e.2) := y2.trans permK
  apply wpAny_pure
  refine ⟨_, rfl, hQ _ s1.heap.objs.size _ c ys (fun b u e => ?_) gens os_ ?_ hc y1 (permY.nodup_iff.mpr q.keys) (fun x => by rw [permY.mem_iff, ← q.mem x]) y3⟩
  · have k := kept b u e
    have lt := Heap.lt_size k
    show (sortedHeap (s1.heap.push (seqObj "list" vs.toArray 0)) s1.heap.objs.size vs ((arrOf st').map (·.2))).get? b = some u
    rw [sortedHeap_old (Nat.ne_of_lt lt) (by rw [size_push']; exact Nat.lt_succ_of_lt lt)]
    exact Heap.get?_push_of_some _ k
  · assumption
end
end Nh

namespace Nh
open PySem PySem.Spec PyProof.Rows L2
/-! ### sorted(set(t)), t a tuple of texts -/
def SetOS (w : World) (a : Addr) (ks : List Str) : HO := .ext fun h => SetS w h a ks
theorem setOS_ok {P : Program} {w : World} {H : Hp} {h : Heap} {a : Addr} {ks : List Str} (z : SetS w h a ks) : ObjOk P w H h a (SetOS w a ks) := by
  obtain ⟨o, es, ep, t, q⟩ := id z
  exact ⟨z, ⟨o, q.at_⟩, fun h1 h2 k l => k.later l⟩
def rSetT (K : PySem.W.Frag) (w : World) : List V → Hp → VK → Prop := fun vs H Q => ∃ (a : Addr) (xs : List Str), vs = [V.ref a] ∧ SqT K H a (xs.map V.str) ∧ xs.length + 1 < scanBound ∧ ∀ p, H p = none → Q (.ref p) (upd H p (SetOS w p xs))
theorem cr_setT {X : Cx} (calm : X.calm = true) : CallR X (.type "set") (rSetT X.K X.w) := by
  intro pins s σ H vs us Q J r want
  obtain ⟨a, xs, rfl, hq, few, rest⟩ := want
  rw [Vals.ref1 r]
  obtain ⟨its, rel, tup, _⟩ := J.tuple hq
  refine set_of_tuple xs (J.ok.hd calm) tup (by simpa using rel.strs) few fun h' tk z kept => ?_
  exact ⟨.ref _, _, J.laid (t' := tk) kept (Nat.le_refl _) (setOS_ok z), rfl, rest _ (J.hok.fresh (Nat.le_refl _))⟩
def rSortedSS (w : World) : List V → Hp → VK → Prop := fun vs H Q => ∃ (a : Addr) (ks : List Str), vs = [V.ref a] ∧ H a = some (SetOS w a ks) ∧ ks.length < 64 ∧
  ∀ (ys : List Str) (p : Addr), ys.Nodup → (∀ x, x ∈ ys ↔ x ∈ ks) → sortedS ys = true → H p = none → Q (.ref p) (upd H p (.lst (ys.map V.str)))
theorem cr_sortedSS {X : Cx} (calm : X.calm = true) : CallR X (.builtin "sorted") (rSortedSS X.w) := by
  intro pins s σ H vs us Q J r want
  obtain ⟨a, ks, rfl, ha, few, rest⟩ := want
  rw [Vals.ref1 r]
  have z : SetS X.w s.heap a ks := (J.hok a _ ha).1
  refine sorted_setS z (J.ok.hd calm) few fun s2 p out c ys kept gens os_ le at_ txts nd mem ord => ?_
  have len : ys.length ≤ ks.length := nd.length_le_of_subset fun x hx => (mem x).mp hx
  have free : H p = none := J.hok.fresh le
  have new : ObjOk X.prog X.w (upd H p (.lst (ys.map V.str))) s2.heap p (.lst (ys.map V.str)) :=
    ⟨by rw [List.length_map, sizeLine_eq]; omega, out.toList, c, vals_of_strs txts, at_⟩
  obtain ⟨h2, g2, d2, t2, o2⟩ := s2
  dsimp only at kept gens os_ at_ new
  subst gens os_
  exact ⟨.ref p, _, J.call (ch := []) (Un.laid kept le free) (J.hok.laid kept le new) J.bare (fun b k => nomatch k), rfl, rest ys p nd mem ord free⟩
section
variable {c : Cfg} {W : WX} {as as' : List Addr} {H H' : Hp} {μ : Store}
def dedS : List Str → List Str
  | [] => []
  | x :: r => if x ∈ r then dedS r else x :: dedS r
theorem dedS_mem : ∀ (l : List Str) (x : Str), x ∈ dedS l ↔ x ∈ l
  | [], x => Iff.rfl
  | y :: r, x => by
    unfold dedS
    by_cases h : y ∈ r
    · rw [if_pos h, dedS_mem r x, List.mem_cons]
      exact ⟨.inr, fun z => z.elim (fun e => e ▸ h) id⟩
    · rw [if_neg h, List.mem_cons, List.mem_cons, dedS_mem r x]
theorem dedS_nodup : ∀ l : List Str, (dedS l).Nodup
  | [] => List.nodup_nil
  | y :: r => by
    unfold dedS
    by_cases h : y ∈ r
    · rw [if_pos h]; exact dedS_nodup r
    · rw [if_neg h]
      exact List.nodup_cons.mpr ⟨fun z => h ((dedS_mem r y).mp z), dedS_nodup r⟩
def mSortedSet (a : M Dat) : M Dat := fun δ μ => (a δ μ).bind fun x μ1 => match x with
  | .tup ds => match strsD ds with
    | some ss => if ss.length < 64 then allocR (.lst (((dedS ss).mergeSort leT).map .str)) μ1 else .stuck
    | none => .stuck
  | _ => .stuck
theorem scan64 {n : Nat} (h : n < 64) : n + 1 < scanBound := by unfold scanBound; omega
theorem sim_sortedSet {w : World} {t : TE} {a : M Dat} (h : SimE c W t a) : SimE c W (tCB (rSortedSS w) (tCons (tCB (rSetT c.K w) (tCons t tNil)) tNil)) (mSortedSet a) := by
  intro as H σ δ μ st env Q w0
  refine h as H σ δ μ st env _ ((want_bind (R1 := Rel c) w0).imp ?_)
  rintro v H1 ⟨as1, μ1, x, e, s1, r, w1⟩
  split at w1
  · rename_i ds
    split at w1
    · rename_i ss hs
      split at w1
      · rename_i hz
        cases r with
        | @tup p xs _ h1 h2 =>
          have ev := strsD_of hs h2
          subst ev
          refine ⟨p, ss, rfl, h1.sq, scan64 hz, fun q hq => ?_⟩
          have s2 := s1.tup (o := SetOS w q ss) hq
          refine ⟨q, ss, rfl, upd_same, hz, fun ys l nd mem ord hl => ?_⟩
          have same : ys = (dedS ss).mergeSort leT := by
            refine List.Perm.eq_of_pairwise (le := fun a b => leT a b = true) (fun a b _ _ x y => leT_anti x y) (sortedS_le ord) (List.pairwise_mergeSort leT_trans leT_total _) ?_
            refine List.Perm.trans ?_ (List.mergeSort_perm _ _).symm
            exact (List.perm_ext_iff_of_nodup nd (dedS_nodup ss)).mpr fun x => (mem x).trans (dedS_mem ss x).symm
          subst same
          exact w1 _ _ _ ((ext_new hq).trans (ext_alloc hl)) (s2.alloc hl ⟨_, upd_same, relStrs _⟩) (rel_alloc s2)
      · exact w1.elim
    · exact w1.elim
  · exact w1.elim
/-! ### how deep a recursion goes is told by the spec -/
theorem sim_callN {n : Nat} {f : FA} {t : TA} {a : M (List Dat)} (hf : ∀ ds μ k μ', f ds μ ≠ .raise k μ') (h : SimA c W t a) : SimE c W (tCall (spM c n f) [] E0 t) (mCall n f a) :=
  sim_call (fun _ _ _ z => z.elim) h fun k μ' => .inl fun ds μ => hf ds μ k μ'
end
end Nh

namespace Nh
open PySem PySem.Spec PySem.W PyProof.Rows L2
def rLtD (K : PySem.W.Frag) : R2 := fun x y H Q => ∃ d e, Dp K H x d ∧ Dp K H y e ∧ PySem.W.alike d e = true ∧ d ≠ .none ∧ d.depth ≤ 8 ∧ Q (.bl (dataLt d e)) H
theorem op_ltD {X : Cx} (hu : X.A.units + 64 < cLine) : OpR X (compareOp .Lt) (rLtD X.K) := by
  intro pins s σ H x y v u Q I rx ry h
  obtain ⟨d, e, hd, he, ha, hn, h8, q⟩ := h
  obtain ⟨as, r1⟩ := Dp.reads I d x v hd rx
  obtain ⟨bs, r2⟩ := Dp.reads I e y u he ry
  exact lt_data r1 r2 ha hn (by have := Nat.min_le_left d.depth e.depth; omega) ⟨.bl _, H, I, rfl, q⟩
section
variable {c : Cfg}
def notNone : PyData → Bool
  | .none => false
  | _ => true
def fLtD : F2 := fun x y μ => match py μ 12 x, py μ 12 y with
  | some a, some b => if (PySem.W.alike a b && (notNone a && decide (a.depth ≤ 8))) = true then .ok (.bl (dataLt a b)) μ else .stuck
  | _, _ => .stuck
theorem simr_ltD : SimR c (rLtD c.K) fLtD := by
  intro as H μ v w x y st rx ry σ W Q h
  unfold fLtD at h
  split at h
  · rename_i a b e1 e2
    split at h
    · rename_i hz
      obtain ⟨z1, z2⟩ := Bool.and_eq_true_iff.mp hz
      obtain ⟨z2, z3⟩ := Bool.and_eq_true_iff.mp z2
      exact ⟨a, b, py_of st 12 rx e1, py_of st 12 ry e2, z1, (by rintro rfl; cases z2), of_decide_eq_true z3, h _ as H .refl st (.bl _)⟩
    · exact h.elim
  · exact h.elim
/-! ### a list some times over -/
def fRepL : F2 := fun x y μ => match celL μ x, y with
  | some a, .int k => if 0 ≤ k ∧ k ≤ 1000 ∧ a.length ≤ 1000 then allocR (.lst (List.replicate k.toNat a).flatten) μ else .stuck
  | _, _ => .stuck
theorem simr_repL : SimR c rRep fRepL := by
  intro as H μ v w x y st rx ry σ W Q h
  unfold fRepL at h
  split at h
  · rename_i da k ea
    split at h
    · rename_i hz
      obtain ⟨z1, z2, z3⟩ := hz
      obtain ⟨_, a, xs, _, rfl, _, _, h1, h2⟩ := celL_of st rx ea
      cases ry
      have hk : k.toNat ≤ 1000 := by omega
      refine ⟨a, _, xs, rfl, rfl, h1, by omega, by omega, ?_, fun p hp => h _ _ _ (ext_alloc hp) (st.alloc hp ⟨_, upd_same, (h2.rep k.toNat).mono (ext_alloc hp)⟩) (rel_alloc st)⟩
      rw [h2.length]
      exact Nat.le_trans (Nat.mul_le_mul z3 hk) (by decide)
    · exact h.elim
  · exact h.elim
end
end Nh

namespace Nh
open PySem PySem.Spec PySem.W PyProof.Rows L2
section
variable {X : Cx}
def gFld (K : PySem.W.Frag) (ta : TE) (f : Str) : TG := fun v σ H Q => ta σ H fun x H2 => ∃ a C dx fs, x = .ref a ∧ H2 a = some (.ins C dx fs) ∧ Cls K C ∧ NoAttr K C f ∧ fs.length < 1000 ∧ Q σ (upd H2 a (.ins C dx (putF f v fs)))
theorem pg_fld {o : Expr} {f : Str} {pos' : Pos} {ta : TE} (ha : PE X o ta) : PG X (.Attribute o f pos') (gFld X.K ta f) := by
  refine ⟨fun pins s σ H v u Q I r h => ?_⟩
  refine kas_attr (thn (ha.run pins s σ H _ I h) fun ov s2 ⟨x, H2, I2, rx, a, C, dx, fs, ex, ea, c, n, l, q2⟩ => ?_)
  subst ex
  obtain rfl : ov = Value.ref a := rx
  exact setattr_ok I2 ea c n l r fun s3 I3 => ⟨σ, _, I3, q2⟩
def gNamesF : List Nat → TG → TGs
  | [], g => gCons g gNil
  | i :: r, g => gCons (gName i) (gNamesF r g)
end
section
variable {c : Cfg} {W : WX}
def mNamesF : List Nat → List Dat → Env → Option (Env × Dat)
  | [], [z], δ => some (δ, z)
  | i :: r, d :: ds, δ => mNamesF r ds (δ.set i (some d))
  | _, _, _ => none
theorem simg_namesF {as : List Addr} {H : Hp} {g : TG} : ∀ (is : List Nat) {σ : L2.St} {δ δ' : Env} {vs : List V} {ds : List Dat} {z : Dat}, EnvR c as H σ δ → RelAll c as H vs ds → mNamesF is ds δ = some (δ', z) →
    ∀ Q : L2.St → Hp → Prop, (∀ σ' w, EnvR c as H σ' δ' → Rel c as H w z → g w σ' H fun σ2 H2 => gNil [] σ2 H2 Q) → gNamesF is g vs σ H Q
  | [], σ, δ, δ', vs, ds, z, env, r, h, Q, q => by
    cases r with
    | nil => cases h
    | cons h1 t =>
      cases t with
      | nil =>
        cases h
        exact ⟨_, [], rfl, q σ _ env h1⟩
      | cons _ _ => cases h
  | i :: is, σ, δ, δ', vs, ds, z, env, r, h, Q, q => by
    cases r with
    | nil => cases h
    | cons h1 t => exact ⟨_, _, rfl, simg_namesF is (env.set i h1) t h Q q⟩
/-- a, b, o.f = e -/
def msAsgTF (ok : FldT) (f : Str) (is : List Nat) (e a : M Dat) : MS := fun δ μ => (e δ μ).toS δ fun x μ1 => match x with
  | .tup ds => if ds.length = is.length + 1 then match mNamesF is ds δ with
    | some (δ1, z) => (a δ1 μ1).toS δ1 fun y μ2 => match insAt μ2 y with
      | some (k, n, fs) => if ok n f = true ∧ fs.length < 1000 then .nx δ1 (μ2.set k (.ins n (putG f z fs))) else .stuck
      | none => .stuck
    | none => .stuck else .stuck
  | _ => .stuck
theorem sims_asgTF {ok : FldT} (hok : FldOk c ok) {f : Str} {is : List Nat} {te ta : TE} {e a : M Dat} (he : SimE c W te e) (ha : SimE c W ta a) : SimS c W (tAsg te (gTup c.K (is.length + 1) (gNamesF is (gFld c.K ta f)))) (msAsgTF ok f is e a) := by
  intro as H σ δ μ st env D w
  refine he as H σ δ μ st env _ ((want_toS (R := Rel c) env w).imp ?_)
  rintro v H1 ⟨as1, μ1, x, e1, s1, rx, w1⟩
  have env1 := env.mono e1
  split at w1
  · rename_i ds
    split at w1
    · rename_i hl
      split at w1
      · rename_i δ1 z hz
        cases rx with
        | @tup p xs _ h1 h2 =>
          refine ⟨p, xs, rfl, h1.sq, by rw [h2.length]; exact hl, ?_⟩
          refine simg_namesF is env1 h2 hz _ fun σ' u envN rz => ?_
          refine ha as1 H1 σ' δ1 μ1 s1 envN _ ((want_toS (R := Rel c) envN w1).imp ?_)
          rintro y H2 ⟨as2, μ2, dy, e2, s2, ry, w2⟩
          have env2 := envN.mono e2
          split at w2
          · rename_i k n fs hx
            obtain ⟨p2, dd, vs, rfl, rfl, hk, hp, h3, h4⟩ := insAt_of s2 ry hx
            split at w2
            · rename_i hf
              have rz2 := rz.mono e2
              have ee := ext_set (o := .ins (c.cl n) dd (putF f u vs)) s2 hk hp
              refine ⟨p2, _, dd, vs, rfl, h3, hok.cls n f hf.1, hok.no n f hf.1, by rw [h4.len]; exact hf.2, rfl, ?_⟩
              have q := (h4.putG (f := f) rz2).mono ee
              rw [putG_V] at q
              exact w2 σ' as2 _ ee (s2.set (y := .ins n (putG f z fs)) hk hp ⟨dd, _, upd_same, q⟩) (env2.mono ee)
            · exact w2.elim
          · exact w2.elim
      · exact w1.elim
    · exact w1.elim
  · exact w1.elim
/-! ### what is never come to -/
def msStuck : MS := fun _ _ => .stuck
theorem sims_never : SimS c W tNever msStuck := fun _ _ _ _ _ _ _ _ w => w.elim
/-! ### the first place of a text in a list -/
def fLIndex : Dat → FA := fun x es μ => match lstAt μ x, es with
  | some ds, [.str z] => match strsD ds with
    | some ys => match firstAt ys z with
      | some j => .ok (.int (j : Nat)) μ
      | none => .stuck
    | none => .stuck
  | _, _ => .stuck
theorem simb_lindex : SimBM c (rIndex c.K) fLIndex := by
  intro as H μ v x vs ds st rx rs σ W Q h
  unfold fLIndex at h
  split at h
  · rename_i es z he
    split at h
    · rename_i ys hy
      split at h
      · rename_i j hj
        obtain ⟨u, rfl, ru⟩ := rel1 rs
        cases ru
        obtain ⟨p, xs, rfl, h1, h2⟩ := lstAt_of st rx he
        have q := strsD_of hy h2
        subst q
        obtain ⟨q1, q2⟩ := firstAt_some hj
        refine ⟨p, _, .str z, j, .str z, rfl, rfl, h1, rfl, ?_, ?_, beq_self_eq_true z, ?_, h _ as H .refl st (.int _)⟩
        · rw [List.all_map]
          exact List.all_eq_true.mpr fun _ _ => rfl
        · rw [List.getElem?_map, q1]
          rfl
        · intro m z' hm hz'
          rw [List.getElem?_map] at hz'
          cases hq : ys[m]? with
          | none => rw [hq] at hz'; cases hz'
          | some s =>
            rw [hq] at hz'
            cases hz'
            refine beq_eq_false_iff_ne.mpr fun e => ?_
            exact q2 m hm (by rw [hq, e])
      · exact h.elim
    · exact h.elim
  · exact h.elim
/-! ### range(lo, hi, step), of any step -/
def srcDS (i k : Int) (n : Nat) : Src := ⟨n, fun j _ => some (.int (i + (j : Nat) * k)), fun _ => true⟩
def miRange3S (a : M (List Dat)) : M Src := fun δ μ => (a δ μ).bind fun ds μ1 => match ds with
  | [.int i, .int j, .int k] => if k ≠ 0 ∧ k.natAbs < 1073741824 ∧ Builtin.Range.small i j k = true ∧ 0 ≤ Builtin.Range.rangeSize i j k then .ok (srcDS i k (Builtin.Range.rangeSize i j k).toNat) μ1 else .stuck
  | _ => .stuck
theorem simi_range3S {t : TA} {a : M (List Dat)} (h : SimA c W t a) : SimI c W (iRng3 t) (miRange3S a) := by
  intro as H σ δ μ st env Q w
  refine h as H σ δ μ st env _ ((want_bind (R1 := RelAll c) w).imp ?_)
  rintro vs H1 ⟨as1, μ1, ds, e, s1, rs, w1⟩
  split at w1
  · split at w1
    · rename_i i j k hz
      obtain ⟨h1, h2, h3, h4⟩ := hz
      obtain ⟨u, v, z, rfl, r1, r2, r3⟩ := rel3 rs
      cases r1
      cases r2
      cases r3
      refine ⟨i, j, k, _, rfl, ⟨h1, h2, h3, (Int.toNat_of_nonneg h4).symm⟩, w1 _ as1 H1 .refl s1 fun as' H' μ' e' st' => ⟨fun m d hm hg => ⟨hm, fun x H2 y => ?_⟩, fun _ => Nat.le_refl _⟩⟩
      obtain ⟨rfl, rfl⟩ := y
      have hg' : some (Dat.int (i + (m : Nat) * k)) = some d := hg
      cases hg'
      exact ⟨.refl, st', .int _⟩
    · exact w1.elim
  · exact w1.elim
end
end Nh

namespace Nh
open PySem PySem.Spec PyProof.Rows L2
def tab : Tab := ⟨fun n m => match n, m with
  | 2, 6 => some false
  | 2, 3 => some false
  | 2, 8 => some false
  | 2, 1 => some false
  | 2, 2 => some true
  | 2, 5 => some false
  | 2, 7 => some false
  | 2, 4 => some false
  | 2, 0 => some true
  | _, _ => none, fun n t => match n with
  | 2 => if t = "ValueError" then some true else none
  | _ => none, fun _ _ => none⟩
def k_KINDS : List Dat := [.str "addr", .str "text", .str "keeper", .str "other", .str "top", .str "key", .str "trust", .str "seal", .str "gap"]
theorem rel_k_KINDS {c : Cfg} {as : List Addr} {H : Hp} : RelAll c as H [.str "addr", .str "text", .str "keeper", .str "other", .str "top", .str "key", .str "trust", .str "seal", .str "gap"] k_KINDS := .cons (.str _) (.cons (.str _) (.cons (.str _) (.cons (.str _) (.cons (.str _) (.cons (.str _) (.cons (.str _) (.cons (.str _) (.cons (.str _) (.nil)))))))))
def k__DATA_TESTS : List (Str × Dat) := [("addr", .cls 110), ("text", .cls 111), ("keeper", .cls 112), ("other", .cls 112), ("top", .cls 114), ("key", .cls 109), ("trust", .cls 109), ("seal", .cls 115), ("gap", .cls 116)]
def b_is_whole : MS := msRet (mAnd (mCB (fIsA tab) (maCons (mVar 0) (maCons (mC (.ty "int")) maNil))) (mNot (mCB (fIsA tab) (maCons (mVar 0) (maCons (mC (.ty "bool")) maNil)))))
def f_is_whole : FA := nr (runB 1 b_is_whole)
def b_within : MS := msRet (mAnd (mCall 1 f_is_whole (maCons (mVar 0) maNil)) (mChain fLe fLe (mVar 1) (mVar 0) (mVar 2)))
def f_within : FA := nr (runB 3 b_within)
def b_is_label : MS := msSeq (msIf (mtOr (mtNot (asB (mCB (fIsA tab) (maCons (mVar 0) (maCons (mC (.ty "str")) maNil))))) (mtNot (asB (mChain fLe fLe (mC (.int 1)) (mCB fLen (maCons (mVar 0) maNil)) (mC (.int 8)))))) (msRet (mC (.bl false))) msNext)
  (msSeq (msIf (asB (mOp fInSign (mC (.str "*")) (mVar 0))) (msRet (mOp fEq (mVar 0) (mC (.str "*")))) msNext)
  (msRet (mCB fAll (maCons (mLc (miStr (mVar 0)) (mgName 1) mYes (mOp fInSign (mVar 1) (mC (.str "abcdefghijklmnopqrstuvwxyz0123456789-*"))) [1]) maNil))))
def f_is_label : FA := nr (runB 2 b_is_label)
def b_is_name : MS := msSeq (msIf (mtOr (mtNot (asB (mCB (fIsA tab) (maCons (mVar 0) (maCons (mC (.ty "tuple")) maNil))))) (asB (mOp fGt (mCB fLenQ (maCons (mVar 0) maNil)) (mC (.int 6))))) (msRet (mC (.bl false))) msNext)
  (msRet (mAnd (mCB fAll (maCons (mLc (miTup (mVar 0)) (mgName 1) mYes (mCall 1 f_is_label (maCons (mVar 1) maNil)) [1]) maNil)) (mOp (fIn true) (mC (.str "*")) (mSl fSlT (mVar 0) (moPart (mC (.int 1))) moNone))))
def f_is_name : FA := nr (runB 2 b_is_name)
def b_is_starless : MS := msRet (mAnd (mCall 1 f_is_name (maCons (mVar 0) maNil)) (mOp (fIn true) (mC (.str "*")) (mVar 0)))
def f_is_starless : FA := nr (runB 1 b_is_starless)
def b_name_rank : MS := msRet (mBack fBackT (mVar 0) (moPart (mUn fNeg (mC (.int 1)))))
def f_name_rank : FA := nr (runB 1 b_name_rank)
def b_is_sign : MS := msRet (mOr (mOp fInSign (mVar 0) (mC (.str " !\"#$"))) (mOp fInSign (mVar 0) (mC (.str "&'()*+,-./0123456789:;<=>?\x40ABCDEFGHIJKLMNOPQRSTUVWXYZ[\\]^_`abcdefghijklmnopqrstuvwxyz{|}~"))))
def f_is_sign : FA := nr (runB 1 b_is_sign)
def b_is_kind : MS := msRet (mAnd (mCB (fIsA tab) (maCons (mVar 0) (maCons (mC (.ty "str")) maNil))) (mOp (fIn false) (mVar 0) (mC (.ct k_KINDS))))
def f_is_kind : FA := nr (runB 1 b_is_kind)
def b_is_life : MS := msRet (mCall 3 f_within (maCons (mVar 0) (maCons (mC (.int 0)) (maCons (mC (.int 1000000)) maNil))))
def f_is_life : FA := nr (runB 1 b_is_life)
def b_is_key : MS := msRet (mCall 3 f_within (maCons (mVar 0) (maCons (mC (.int 1)) (maCons (mC (.int 1000000000000)) maNil))))
def f_is_key : FA := nr (runB 1 b_is_key)
def b_is_addr : MS := msRet (mCall 3 f_within (maCons (mVar 0) (maCons (mC (.int 0)) (maCons (mOp fSub (mOp fPow (mC (.int 2)) (mC (.int 64))) (mC (.int 1))) maNil))))
def f_is_addr : FA := nr (runB 1 b_is_addr)
def b__is_text : MS := msRet (mAnd (mCB (fIsA tab) (maCons (mVar 0) (maCons (mC (.ty "str")) maNil))) (mAnd (mOp fLe (mCB fLen (maCons (mVar 0) maNil)) (mC (.int 30))) (mCB fAll (maCons (mLc (miStr (mVar 0)) (mgName 1) mYes (mCall 1 f_is_sign (maCons (mVar 1) maNil)) [1]) maNil))))
def f__is_text : FA := nr (runB 2 b__is_text)
def b__is_named : MS := msRet (mCall 1 f_is_starless (maCons (mVar 0) maNil))
def f__is_named : FA := nr (runB 1 b__is_named)
def b_is_version : MS := msRet (mCall 3 f_within (maCons (mVar 0) (maCons (mC (.int 0)) (maCons (mC (.int 4294967295)) maNil))))
def f_is_version : FA := nr (runB 1 b_is_version)
def b__is_top : MS := msSeq (msIf (mtOr (mtNot (asB (mCB (fIsA tab) (maCons (mVar 0) (maCons (mC (.ty "tuple")) maNil))))) (asB (mOp fNe (mCB fLenQ (maCons (mVar 0) maNil)) (mC (.int 2))))) (msRet (mC (.bl false))) msNext)
  (msSeq (msAsg (mVar 0) (mgTup [1, 2]))
  (msRet (mAnd (mCall 1 f_is_version (maCons (mVar 1) maNil)) (mCall 1 f_is_life (maCons (mVar 2) maNil)))))
def f__is_top : FA := nr (runB 3 b__is_top)
def b__is_seal : MS := msSeq (msIf (mtOr (mtNot (asB (mCB (fIsA tab) (maCons (mVar 0) (maCons (mC (.ty "tuple")) maNil))))) (asB (mOp fNe (mCB fLenQ (maCons (mVar 0) maNil)) (mC (.int 3))))) (msRet (mC (.bl false))) msNext)
  (msSeq (msAsg (mVar 0) (mgTup [1, 2, 3]))
  (msRet (mAnd (mCall 1 f_is_kind (maCons (mVar 1) maNil)) (mAnd (mOp fNe (mVar 1) (mC (.str "seal"))) (mAnd (mCall 1 f_is_key (maCons (mVar 2) maNil)) (mCall 3 f_within (maCons (mVar 3) (maCons (mC (.int 0)) (maCons (mC (.int 1000000006)) maNil)))))))))
def f__is_seal : FA := nr (runB 4 b__is_seal)
def b__are_rising_kinds : MS := msSeq (msIf (mtOr (mtNot (asB (mCB (fIsA tab) (maCons (mVar 0) (maCons (mC (.ty "tuple")) maNil))))) (mtNot (asB (mCB fAll (maCons (mLc (miTup (mVar 0)) (mgName 3) mYes (mCall 1 f_is_kind (maCons (mVar 3) maNil)) [3]) maNil))))) (msRet (mC (.bl false))) msNext)
  (msRet (mCB fAll (maCons (mLc (miZipT (maCons (mVar 0) (maCons (mSl fSlT (mVar 0) (moPart (mC (.int 1))) moNone) maNil))) (mgTup [1, 2]) mYes (mOp fLtS (mVar 1) (mVar 2)) [1, 2]) maNil)))
def f__are_rising_kinds : FA := nr (runB 4 b__are_rising_kinds)
def b__is_gap : MS := msSeq (msIf (mtOr (mtNot (asB (mCB (fIsA tab) (maCons (mVar 0) (maCons (mC (.ty "tuple")) maNil))))) (asB (mOp fNe (mCB fLenQ (maCons (mVar 0) maNil)) (mC (.int 2))))) (msRet (mC (.bl false))) msNext)
  (msSeq (msAsg (mVar 0) (mgTup [1, 2]))
  (msRet (mAnd (mCall 1 f_is_name (maCons (mVar 1) maNil)) (mCall 1 f__are_rising_kinds (maCons (mVar 2) maNil)))))
def f__is_gap : FA := nr (runB 3 b__is_gap)
def lc_is_data_fits : List (Nat × FA) := [(110, runB 1 b_is_addr), (111, runB 2 b__is_text), (112, runB 1 b__is_named), (114, runB 3 b__is_top), (109, runB 1 b_is_key), (115, runB 4 b__is_seal), (116, runB 3 b__is_gap)]
def b_is_data : MS := msSeq (msAsg (mTab k__DATA_TESTS (mVar 0)) (mgName 2))
  (msRet (mCallL 2 1 (lc_is_data_fits.map fun p => (p.1, nr p.2)) (maCons (mVar 1) maNil)))
def f_is_data : FA := nr (runB 3 b_is_data)
def b_is_record : MS := msSeq (msIf (mtOr (mtNot (asB (mCB (fIsA tab) (maCons (mVar 0) (maCons (mC (.ty "tuple")) maNil))))) (asB (mOp fNe (mCB fLenQ (maCons (mVar 0) maNil)) (mC (.int 4))))) (msRet (mC (.bl false))) msNext)
  (msSeq (msAsg (mVar 0) (mgTup [1, 2, 3, 4]))
  (msRet (mAnd (mCall 1 f_is_name (maCons (mVar 1) maNil)) (mAnd (mCall 1 f_is_kind (maCons (mVar 2) maNil)) (mAnd (mCall 1 f_is_life (maCons (mVar 3) maNil)) (mCall 2 f_is_data (maCons (mVar 2) (maCons (mVar 4) maNil))))))))
def f_is_record : FA := nr (runB 5 b_is_record)
def b_are_records : MS := msRet (mAnd (mCB (fIsA tab) (maCons (mVar 0) (maCons (mC (.ty "list")) maNil))) (mCB fAll (maCons (mLc (miList (mVar 0)) (mgName 1) mYes (mCall 1 f_is_record (maCons (mVar 1) maNil)) [1]) maNil)))
def f_are_records : FA := nr (runB 2 b_are_records)
def b_data_rank : MS := msSeq (msIf (asB (mOp (fIn false) (mVar 0) (mTup (maCons (mC (.str "keeper")) (maCons (mC (.str "other")) maNil))))) (msRet (mCall 1 f_name_rank (maCons (mVar 1) maNil))) msNext)
  (msSeq (msIf (asB (mOp fEq (mVar 0) (mC (.str "gap")))) (msSeq (msAsg (mVar 1) (mgTup [2, 3]))
  (msRet (mTup (maCons (mCall 1 f_name_rank (maCons (mVar 2) maNil)) (maCons (mVar 3) maNil))))) msNext)
  (msRet (mVar 1)))
def f_data_rank : FA := nr (runB 4 b_data_rank)
def b_record_rank : MS := msSeq (msAsg (mVar 0) (mgTup [1, 2, 3, 4]))
  (msRet (mTup (maCons (mCall 1 f_name_rank (maCons (mVar 1) maNil)) (maCons (mVar 2) (maCons (mCall 2 f_data_rank (maCons (mVar 2) (maCons (mVar 4) maNil))) (maCons (mVar 3) maNil))))))
def f_record_rank : FA := nr (runB 5 b_record_rank)
def b_ordered : MS := msSeq (msIf (mtNot (asB (mCall 1 f_are_records (maCons (mVar 0) maNil)))) (msRaise 2) msNext)
  (msRet (mCB (fSortKey (runB 5 b_record_rank)) (maCons (mVar 0) maNil)))
def f_ordered : FA := runB 1 b_ordered
def b__law_cell_at : MS := msSeq (msIf (asB (mOp fLt (mVar 1) (mCB fLenQ (maCons (mVar 0) maNil)))) (msRet (mOp fIxL (mVar 0) (mVar 1))) msNext)
  (msRet (mC (.int 0)))
def f__law_cell_at : FA := nr (runB 2 b__law_cell_at)
def b__law_next : MS := msSeq (msDPut (mVar 0) (mC (.str "at")) (mOp fAdd (mDGet (mVar 0) (mC (.str "at"))) (mC (.int 1))))
  (msSeq (msAsg (mDGet (mVar 0) (mC (.str "at"))) (mgName 1))
  (msSeq (msAsg (mCall 2 f__law_cell_at (maCons (mDGet (mVar 0) (mC (.str "cells"))) (maCons (mOp fMod (mVar 1) (mCB fMax2 (maCons (mC (.int 1)) (maCons (mCB fLenQ (maCons (mDGet (mVar 0) (mC (.str "cells"))) maNil)) maNil)))) maNil))) (mgName 2))
  (msRet (mOp fDiv (mOp fMod (mOp fAdd (mOp fMul (mVar 2) (mC (.int 48271))) (mOp fMul (mOp fMul (mVar 1) (mVar 1)) (mC (.int 69621)))) (mC (.int 2147483647))) (mC (.int 8))))))
def f__law_next : FA := nr (runB 3 b__law_next)
def b__law_great : MS := msSeq (msAsg (mCall 1 f__law_next (maCons (mVar 0) maNil)) (mgName 2))
  (msSeq (msAsg (mOp fAdd (mOp fMul (mOp fAdd (mOp fMul (mVar 2) (mC (.int 268435399))) (mCall 1 f__law_next (maCons (mVar 0) maNil))) (mC (.int 268435399))) (mCall 1 f__law_next (maCons (mVar 0) maNil))) (mgName 3))
  (msRet (mOp fIxL (mLst (maCons (mC (.int 0)) (maCons (mC (.int 1)) (maCons (mVar 1) (maCons (mOp fSub (mVar 1) (mC (.int 1))) (maCons (mOp fMod (mVar 3) (mOp fAdd (mVar 1) (mC (.int 1)))) (maCons (mOp fMod (mVar 3) (mOp fAdd (mVar 1) (mC (.int 1)))) (maCons (mOp fMod (mOp fMod (mVar 2) (mC (.int 300))) (mOp fAdd (mVar 1) (mC (.int 1)))) maNil)))))))) (mOp fMod (mVar 2) (mC (.int 7))))))
def f__law_great : FA := nr (runB 4 b__law_great)
def b__law_signs : MS := msRet (mC (.str "abcdefghijklmnopqrstuvwxyz0123456789-"))
def f__law_signs : FA := nr (runB 0 b__law_signs)
def b__law_label : MS := msSeq (msAsg (mCall 0 f__law_signs maNil) (mgName 2))
  (msRet (mM1 fJoin (mC (.str "")) (mLc (miRange1 (maCons (mVar 1) maNil)) (mgName 3) mYes (mOp fIxS (mVar 2) (mOp fMod (mOp fAdd (mOp fAdd (mOp fDiv (mVar 0) (mC (.int 11))) (mOp fMul (mOp fMul (mC (.int 17)) (mVar 3)) (mVar 3))) (mOp fMul (mC (.int 5)) (mVar 3))) (mC (.int 37)))) [3])))
def f__law_label : FA := nr (runB 4 b__law_label)
def b__law_labels : MS := msSeq (msAsg (mCall 2 f__law_label (maCons (mCall 1 f__law_next (maCons (mVar 0) maNil)) (maCons (mC (.int 8)) maNil))) (mgName 1))
  (msSeq (msAsg (mLst maNil) (mgName 2))
  (msSeq (msFor (miRange1 (maCons (mC (.int 3)) maNil)) (mgName 3) (msSeq (msAsg (mCall 1 f__law_next (maCons (mVar 0) maNil)) (mgName 4))
  (msSeq (msAsg (mOp fIxL (mLst (maCons (mC (.int 1)) (maCons (mC (.int 8)) (maCons (mOp fAdd (mC (.int 1)) (mOp fMod (mOp fDiv (mVar 4) (mC (.int 5))) (mC (.int 8)))) (maCons (mC (.int 3)) (maCons (mC (.int 2)) maNil)))))) (mOp fMod (mVar 4) (mC (.int 5)))) (mgName 5))
  (msSeq (msAsg (mOp fMod (mOp fDiv (mVar 4) (mC (.int 40))) (mVar 5)) (mgName 6))
  (msSeq (msAsg (mOp fIxS (mCall 0 f__law_signs maNil) (mOp fMod (mOp fDiv (mVar 4) (mC (.int 320))) (mC (.int 37)))) (mgName 7))
  (msDrop (mBM fAppend (mVar 2) (maCons (mOp fAddS (mOp fAddS (mSl fSlS (mVar 1) moNone (moPart (mVar 6))) (mVar 7)) (mSl fSlS (mVar 1) (moPart (mOp fAdd (mVar 6) (mC (.int 1)))) (moPart (mVar 5)))) maNil))))))))
  (msSeq (msAsg (mCall 1 f__law_next (maCons (mVar 0) maNil)) (mgName 4))
  (msSeq (msAsg (mOp fIxS (mCall 0 f__law_signs maNil) (mOp fMod (mOp fDiv (mVar 4) (mC (.int 7))) (mC (.int 37)))) (mgName 7))
  (msSeq (msDrop (mBM fAppend (mVar 2) (maCons (mIf (asB (mOp fLt (mCB fLen (maCons (mOp fIxL (mVar 2) (mC (.int 0))) maNil)) (mC (.int 8)))) (mSl fSlS (mOp fAddS (mVar 7) (mOp fIxL (mVar 2) (mC (.int 0)))) moNone (moPart (mC (.int 8)))) (mSl fSlS (mOp fIxL (mVar 2) (mC (.int 0))) (moPart (mC (.int 1))) moNone)) maNil)))
  (msRet (mOp fCat (mVar 2) (mLst (maCons (mOp fAddS (mOp fAddS (mSl fSlS (mOp fIxL (mVar 2) (mOp fMod (mVar 4) (mC (.int 2)))) moNone (moPart (mC (.int 6)))) (mC (.str "-"))) (mOp fMulS (mVar 7) (mOp fMod (mOp fDiv (mVar 4) (mC (.int 2))) (mC (.int 2))))) maNil)))))))))
def f__law_labels : FA := nr (runB 8 b__law_labels)
def b__law_name : MS := msSeq (msAsg (mCall 1 f__law_next (maCons (mVar 0) maNil)) (mgName 2))
  (msSeq (msAsg (mOp fIxL (mLst (maCons (mC (.int 0)) (maCons (mC (.int 1)) (maCons (mC (.int 2)) (maCons (mC (.int 3)) (maCons (mC (.int 4)) (maCons (mC (.int 6)) (maCons (mC (.int 2)) maNil)))))))) (mOp fMod (mVar 2) (mC (.int 7)))) (mgName 3))
  (msSeq (msAsg (mLc (miRange1 (maCons (mVar 3) maNil)) (mgName 5) mYes (mOp fIxL (mVar 1) (mOp fMod (mCall 1 f__law_next (maCons (mVar 0) maNil)) (mC (.int 5)))) [5]) (mgName 4))
  (msSeq (msIf (mtAnd (asB (mOp fNeD (mVar 4) (mLst maNil))) (asB (mOp fEq (mOp fMod (mOp fDiv (mVar 2) (mC (.int 7))) (mC (.int 5))) (mC (.int 0))))) (mgSub (mVar 4) (mC (.int 0)) (mC (.str "*"))) msNext)
  (msRet (mCB fTupleOf (maCons (mVar 4) maNil))))))
def f__law_name : FA := nr (runB 6 b__law_name)
def b__law_plain : MS := msSeq (msAsg (mCall 2 f__law_name (maCons (mVar 0) (maCons (mVar 1) maNil))) (mgName 2))
  (msRet (mIf (asB (mOp fEqD (mSl fSlT (mVar 2) moNone (moPart (mC (.int 1)))) (mTup (maCons (mC (.str "*")) maNil)))) (mSl fSlT (mVar 2) (moPart (mC (.int 1))) moNone) (mVar 2)))
def f__law_plain : FA := nr (runB 3 b__law_plain)
def b__law_text : MS := msSeq (msAsg (mC (.str " !\"#$&'()*+,-./0123456789:;<=>?\x40[\\]^_`{|}~ABCDEFGHIJKLMNOPQRSTUVWXYZabcdefghijklmnopqrstuvwxyz")) (mgName 2))
  (msSeq (msAsg (mCB fLen (maCons (mVar 2) maNil)) (mgName 3))
  (msRet (mM1 fJoin (mC (.str "")) (mLc (miRange1 (maCons (mVar 1) maNil)) (mgName 4) mYes (mOp fIxS (mVar 2) (mOp fMod (mOp fAdd (mOp fAdd (mOp fDiv (mVar 0) (mC (.int 7))) (mOp fMul (mOp fMul (mC (.int 13)) (mVar 4)) (mVar 4))) (mOp fMul (mC (.int 5)) (mVar 4))) (mVar 3))) [4]))))
def f__law_text : FA := nr (runB 5 b__law_text)
def b__law_kinds : MS := msRet (mTup (maCons (mC (.str "addr")) (maCons (mC (.str "text")) (maCons (mC (.str "keeper")) (maCons (mC (.str "other")) (maCons (mC (.str "top")) (maCons (mC (.str "key")) (maCons (mC (.str "trust")) (maCons (mC (.str "seal")) (maCons (mC (.str "gap")) maNil))))))))))
def f__law_kinds : FA := nr (runB 0 b__law_kinds)
def b__law_data : MS := msSeq (msAsg (mCall 1 f__law_next (maCons (mVar 0) maNil)) (mgName 3))
  (msSeq (msIf (asB (mOp fEq (mVar 1) (mC (.str "addr")))) (msRet (mCall 2 f__law_great (maCons (mVar 0) (maCons (mOp fSub (mOp fPow (mC (.int 2)) (mC (.int 64))) (mC (.int 1))) maNil)))) msNext)
  (msSeq (msIf (asB (mOp fEq (mVar 1) (mC (.str "text")))) (msRet (mCall 2 f__law_text (maCons (mVar 3) (maCons (mOp fIxL (mLst (maCons (mC (.int 0)) (maCons (mC (.int 30)) (maCons (mOp fMod (mOp fDiv (mVar 3) (mC (.int 7))) (mC (.int 31))) maNil)))) (mOp fMod (mVar 3) (mC (.int 3)))) maNil)))) msNext)
  (msSeq (msIf (mtOr (asB (mOp fEq (mVar 1) (mC (.str "keeper")))) (asB (mOp fEq (mVar 1) (mC (.str "other"))))) (msRet (mCall 2 f__law_plain (maCons (mVar 0) (maCons (mVar 2) maNil)))) msNext)
  (msSeq (msIf (asB (mOp fEq (mVar 1) (mC (.str "top")))) (msRet (mTup (maCons (mCall 2 f__law_great (maCons (mVar 0) (maCons (mOp fSub (mOp fPow (mC (.int 2)) (mC (.int 32))) (mC (.int 1))) maNil))) (maCons (mCall 2 f__law_great (maCons (mVar 0) (maCons (mOp fPow (mC (.int 10)) (mC (.int 6))) maNil))) maNil)))) msNext)
  (msSeq (msIf (asB (mOp fEq (mVar 1) (mC (.str "seal")))) (msSeq (msAsg (mOp fIxL (mLc (miTup (mCall 0 f__law_kinds maNil)) (mgName 6) (asB (mOp fNe (mVar 6) (mC (.str "seal")))) (mVar 6) [6]) (mOp fMod (mVar 3) (mC (.int 8)))) (mgName 4))
  (msRet (mTup (maCons (mVar 4) (maCons (mOp fAdd (mC (.int 1)) (mCall 2 f__law_great (maCons (mVar 0) (maCons (mOp fSub (mOp fPow (mC (.int 10)) (mC (.int 12))) (mC (.int 1))) maNil)))) (maCons (mCall 2 f__law_great (maCons (mVar 0) (maCons (mC (.int 1000000006)) maNil))) maNil)))))) msNext)
  (msSeq (msIf (asB (mOp fEq (mVar 1) (mC (.str "gap")))) (msSeq (msAsg (mLc (miTup (mCall 0 f__law_kinds maNil)) (mgName 6) (asB (mOp fEq (mOp fMod (mCall 1 f__law_next (maCons (mVar 0) maNil)) (mC (.int 3))) (mC (.int 0)))) (mVar 6) [6]) (mgName 5))
  (msRet (mTup (maCons (mCall 2 f__law_name (maCons (mVar 0) (maCons (mVar 2) maNil))) (maCons (mCB fTupleOf (maCons (mCB fSortedS (maCons (mVar 5) maNil)) maNil)) maNil))))) msNext)
  (msRet (mOp fAdd (mC (.int 1)) (mCall 2 f__law_great (maCons (mVar 0) (maCons (mOp fSub (mOp fPow (mC (.int 10)) (mC (.int 12))) (mC (.int 1))) maNil)))))))))))
def f__law_data : FA := nr (runB 7 b__law_data)
def b__law_record : MS := msSeq (msAsg (mOp fIxT (mCall 0 f__law_kinds maNil) (mOp fMod (mCall 1 f__law_next (maCons (mVar 0) maNil)) (mC (.int 9)))) (mgName 2))
  (msRet (mTup (maCons (mCall 2 f__law_name (maCons (mVar 0) (maCons (mVar 1) maNil))) (maCons (mVar 2) (maCons (mCall 2 f__law_great (maCons (mVar 0) (maCons (mOp fPow (mC (.int 10)) (mC (.int 6))) maNil))) (maCons (mCall 3 f__law_data (maCons (mVar 0) (maCons (mVar 2) (maCons (mVar 1) maNil)))) maNil))))))
def f__law_record : FA := nr (runB 3 b__law_record)
def b__law_before : MS := msSeq (msAsg (mC (.int 1)) (mgName 2))
  (msSeq (msWhile 7 (mtAnd (asB (mOp fLe (mVar 2) (mCB fLenQ (maCons (mVar 0) maNil)))) (asB (mOp fLe (mVar 2) (mCB fLenQ (maCons (mVar 1) maNil))))) (msSeq (msIf (asB (mOp fNe (mOp fIxT (mVar 0) (mUn fNeg (mVar 2))) (mOp fIxT (mVar 1) (mUn fNeg (mVar 2))))) (msRet (mOp fLtS (mOp fIxT (mVar 0) (mUn fNeg (mVar 2))) (mOp fIxT (mVar 1) (mUn fNeg (mVar 2))))) msNext)
  (msAsg (mOp fAdd (mVar 2) (mC (.int 1))) (mgName 2))))
  (msRet (mOp fLt (mCB fLenQ (maCons (mVar 0) maNil)) (mCB fLenQ (maCons (mVar 1) maNil)))))
def f__law_before : FA := nr (runB 3 b__law_before)
def b__law_among : MS := msRet (mAnd (mCB (fIsA tab) (maCons (mVar 0) (maCons (mC (.ty "int")) maNil))) (mAnd (mNot (mCB (fIsA tab) (maCons (mVar 0) (maCons (mC (.ty "bool")) maNil)))) (mChain fLe fLe (mVar 1) (mVar 0) (mVar 2))))
def f__law_among : FA := nr (runB 3 b__law_among)
def b__law_is_name : MS := msSeq (msIf (mtOr (mtNot (asB (mCB (fIsA tab) (maCons (mVar 0) (maCons (mC (.ty "tuple")) maNil))))) (asB (mOp fGt (mCB fLenQ (maCons (mVar 0) maNil)) (mC (.int 6))))) (msRet (mC (.bl false))) msNext)
  (msSeq (msFor (miEnT (maCons (mVar 0) maNil)) (mgTup [2, 3]) (msSeq (msIf (mtOr (mtNot (asB (mCB (fIsA tab) (maCons (mVar 3) (maCons (mC (.ty "str")) maNil))))) (mtNot (asB (mChain fLe fLe (mC (.int 1)) (mCB fLen (maCons (mVar 3) maNil)) (mC (.int 8)))))) (msRet (mC (.bl false))) msNext)
  (msSeq (msAsg (mAnd (mVar 1) (mAnd (mOp fEq (mVar 2) (mC (.int 0))) (mOp fEq (mVar 3) (mC (.str "*"))))) (mgName 4))
  (msIf (mtAnd (asB (mOp fNeD (mLc (miStr (mVar 3)) (mgName 5) (asB (mOp fNotInSign (mVar 5) (mCall 0 f__law_signs maNil))) (mVar 5) [5]) (mLst maNil))) (mtNot (asB (mVar 4)))) (msRet (mC (.bl false))) msNext))))
  (msRet (mC (.bl true))))
def f__law_is_name : FA := nr (runB 6 b__law_is_name)
def b__law_is_kind : MS := msRet (mAnd (mCB (fIsA tab) (maCons (mVar 0) (maCons (mC (.ty "str")) maNil))) (mOp (fIn false) (mVar 0) (mCall 0 f__law_kinds maNil)))
def f__law_is_kind : FA := nr (runB 1 b__law_is_kind)
def b__law_is_data : MS := msSeq (msIf (asB (mOp fEq (mVar 0) (mC (.str "addr")))) (msRet (mCall 3 f__law_among (maCons (mVar 1) (maCons (mC (.int 0)) (maCons (mOp fSub (mOp fPow (mC (.int 2)) (mC (.int 64))) (mC (.int 1))) maNil))))) msNext)
  (msSeq (msIf (asB (mOp fEq (mVar 0) (mC (.str "text")))) (msRet (mAnd (mCB (fIsA tab) (maCons (mVar 1) (maCons (mC (.ty "str")) maNil))) (mOp fLe (mCB fLen (maCons (mVar 1) maNil)) (mC (.int 30))))) msNext)
  (msSeq (msIf (mtOr (asB (mOp fEq (mVar 0) (mC (.str "keeper")))) (asB (mOp fEq (mVar 0) (mC (.str "other"))))) (msRet (mCall 2 f__law_is_name (maCons (mVar 1) (maCons (mC (.bl false)) maNil)))) msNext)
  (msSeq (msIf (mtOr (asB (mOp fEq (mVar 0) (mC (.str "key")))) (asB (mOp fEq (mVar 0) (mC (.str "trust"))))) (msRet (mCall 3 f__law_among (maCons (mVar 1) (maCons (mC (.int 1)) (maCons (mOp fPow (mC (.int 10)) (mC (.int 12))) maNil))))) msNext)
  (msSeq (msIf (mtOr (mtNot (asB (mCB (fIsA tab) (maCons (mVar 1) (maCons (mC (.ty "tuple")) maNil))))) (asB (mOp fNeD (mCB fLen (maCons (mVar 1) maNil)) (mDGet (mDisp [(mC (.str "top"), mC (.int 2)), (mC (.str "seal"), mC (.int 3)), (mC (.str "gap"), mC (.int 2))]) (mVar 0))))) (msRet (mC (.bl false))) msNext)
  (msSeq (msIf (asB (mOp fEq (mVar 0) (mC (.str "top")))) (msRet (mAnd (mCall 3 f__law_among (maCons (mOp fIxU (mVar 1) (mC (.int 0))) (maCons (mC (.int 0)) (maCons (mOp fSub (mOp fPow (mC (.int 2)) (mC (.int 32))) (mC (.int 1))) maNil)))) (mCall 3 f__law_among (maCons (mOp fIxU (mVar 1) (mC (.int 1))) (maCons (mC (.int 0)) (maCons (mOp fPow (mC (.int 10)) (mC (.int 6))) maNil)))))) msNext)
  (msSeq (msIf (asB (mOp fEq (mVar 0) (mC (.str "seal")))) (msSeq (msAsg (mAnd (mCall 1 f__law_is_kind (maCons (mOp fIxU (mVar 1) (mC (.int 0))) maNil)) (mAnd (mOp fNeD (mOp fIxU (mVar 1) (mC (.int 0))) (mC (.str "seal"))) (mCall 3 f__law_among (maCons (mOp fIxU (mVar 1) (mC (.int 1))) (maCons (mC (.int 1)) (maCons (mOp fPow (mC (.int 10)) (mC (.int 12))) maNil)))))) (mgName 2))
  (msRet (mAnd (mVar 2) (mCall 3 f__law_among (maCons (mOp fIxU (mVar 1) (mC (.int 2))) (maCons (mC (.int 0)) (maCons (mC (.int 1000000006)) maNil))))))) msNext)
  (msSeq (msIf (mtOr (mtNot (asB (mCall 2 f__law_is_name (maCons (mOp fIxU (mVar 1) (mC (.int 0))) (maCons (mC (.bl true)) maNil))))) (mtNot (asB (mCB (fIsA tab) (maCons (mOp fIxU (mVar 1) (mC (.int 1))) (maCons (mC (.ty "tuple")) maNil)))))) (msRet (mC (.bl false))) msNext)
  (msRet (mAnd (mCB fAll (maCons (mLc (mAlt (miList (mOp fIxU (mVar 1) (mC (.int 1)))) (mAlt (miTup (mOp fIxU (mVar 1) (mC (.int 1)))) (miStr (mOp fIxU (mVar 1) (mC (.int 1)))))) (mgName 3) mYes (mCall 1 f__law_is_kind (maCons (mVar 3) maNil)) [3]) maNil)) (mOp fEqD (mCB fListOf (maCons (mOp fIxU (mVar 1) (mC (.int 1))) maNil)) (mSortedSet (mOp fIxU (mVar 1) (mC (.int 1))))))))))))))
def f__law_is_data : FA := nr (runB 4 b__law_is_data)
def b__law_is_record : MS := msSeq (msIf (mtOr (mtNot (asB (mCB (fIsA tab) (maCons (mVar 0) (maCons (mC (.ty "tuple")) maNil))))) (mtOr (asB (mOp fNe (mCB fLenQ (maCons (mVar 0) maNil)) (mC (.int 4)))) (mtNot (asB (mCall 2 f__law_is_name (maCons (mOp fIxT (mVar 0) (mC (.int 0))) (maCons (mC (.bl true)) maNil))))))) (msRet (mC (.bl false))) msNext)
  (msRet (mAnd (mCall 1 f__law_is_kind (maCons (mOp fIxT (mVar 0) (mC (.int 1))) maNil)) (mAnd (mCall 3 f__law_among (maCons (mOp fIxT (mVar 0) (mC (.int 2))) (maCons (mC (.int 0)) (maCons (mOp fPow (mC (.int 10)) (mC (.int 6))) maNil)))) (mCall 2 f__law_is_data (maCons (mOp fIxT (mVar 0) (mC (.int 1))) (maCons (mOp fIxT (mVar 0) (mC (.int 3))) maNil))))))
def f__law_is_record : FA := nr (runB 1 b__law_is_record)
def b__law_odd : MS := msSeq (msAsg (mLst (maCons (mC .non) (maCons (mC (.bl true)) (maCons (mUn fNeg (mC (.int 1))) (maCons (mC (.str "")) (maCons (mOp fAdd (mOp fPow (mC (.int 10)) (mC (.int 6))) (mC (.int 1))) (maCons (mOp fPow (mC (.int 2)) (mC (.int 64))) (maCons (mOp fAdd (mOp fPow (mC (.int 10)) (mC (.int 12))) (mC (.int 1))) (maCons (mC (.int 0)) (maCons (mOp fMulS (mC (.str "a")) (mC (.int 31))) maNil)))))))))) (mgName 2))
  (msSeq (msAsg (mOp fCat (mVar 2) (mLst (maCons (mTup (maCons (mC (.str "a")) maNil)) (maCons (mTup (maCons (mC (.str "*")) maNil)) (maCons (mTup maNil) (maCons (mLst maNil) (maCons mDNew (maCons (mC (.str "seal")) maNil)))))))) (mgName 2))
  (msSeq (msAsg (mOp fCat (mVar 2) (mLst (maCons (mOp fPow (mC (.int 2)) (mC (.int 32))) (maCons (mC (.int 1000000007)) (maCons (mTup (maCons (mC (.str "a")) (maCons (mC (.str "*")) maNil))) (maCons (mTup (maCons (mC (.str "addr")) (maCons (mC (.str "addr")) maNil))) (maCons (mTup (maCons (mC (.str "text")) (maCons (mC (.str "addr")) maNil))) maNil))))))) (mgName 2))
  (msSeq (msIf (asB (mCB (fIsA tab) (maCons (mVar 1) (maCons (mC (.ty "tuple")) maNil)))) (msAsg (mOp fCat (mVar 2) (mOp fRepL (mLst (maCons (mCB fListOf (maCons (mVar 1) maNil)) (maCons (mOp fAddU (mVar 1) (mSl fSlU (mVar 1) (moPart (mUn fNeg (mC (.int 1)))) moNone)) (maCons (mSl fSlU (mVar 1) moNone (moPart (mUn fNeg (mC (.int 1))))) maNil)))) (mC (.int 2)))) (mgName 2)) msNext)
  (msSeq (msIf (asB (mCall 3 f__law_among (maCons (mVar 1) (maCons (mC (.int 0)) (maCons (mOp fPow (mC (.int 2)) (mC (.int 64))) maNil))))) (msAsg (mOp fCat (mVar 2) (mLst (maCons (mOp fAdd (mVar 1) (mC (.int 1))) (maCons (mOp fSub (mVar 1) (mC (.int 1))) (maCons (mUn fNeg (mVar 1)) (maCons (mCB fStrI (maCons (mOp fMod (mVar 0) (mC (.int 1000))) maNil)) maNil)))))) (mgName 2)) msNext)
  (msRet (mOp fIxL (mVar 2) (mOp fMod (mVar 0) (mCB fLenQ (maCons (mVar 2) maNil)))))))))
def f__law_odd : FA := nr (runB 3 b__law_odd)
def br__law_spoilt (self_ : FA) : MS := msSeq (msAsg (mCall 1 f__law_next (maCons (mVar 0) maNil)) (mgName 2))
  (msSeq (msIf (mtOr (mtNot (asB (mCB (fIsA tab) (maCons (mVar 1) (maCons (mC (.ty "tuple")) maNil))))) (mtOr (asB (mOp fEqD (mVar 1) (mTup maNil))) (asB (mOp fEq (mOp fMod (mVar 2) (mC (.int 5))) (mC (.int 0)))))) (msRet (mCall 2 f__law_odd (maCons (mOp fDiv (mVar 2) (mC (.int 5))) (maCons (mVar 1) maNil)))) msNext)
  (msSeq (msAsg (mOp fMod (mOp fDiv (mVar 2) (mC (.int 5))) (mCB fLenQ (maCons (mVar 1) maNil))) (mgName 3))
  (msRet (mOp fCatT (mOp fCatT (mSl fSlT (mVar 1) moNone (moPart (mVar 3))) (mTup (maCons (mCall 2 self_ (maCons (mVar 0) (maCons (mOp fIxT (mVar 1) (mVar 3)) maNil))) maNil))) (mSl fSlT (mVar 1) (moPart (mOp fAdd (mVar 3) (mC (.int 1)))) moNone)))))
def fr__law_spoilt : Nat → FA
  | 0 => fun _ _ => .stuck
  | n_ + 1 => nr (runB 4 (br__law_spoilt (fr__law_spoilt n_)))
def b__law_spoilt : MS := br__law_spoilt (fr__law_spoilt 4)
def f__law_spoilt : FA := fr__law_spoilt 5
def b__law_less : MS := msSeq (msIf (mtOr (asB (mOp fEq (mVar 0) (mC (.str "keeper")))) (asB (mOp fEq (mVar 0) (mC (.str "other"))))) (msRet (mCall 2 f__law_before (maCons (mVar 1) (maCons (mVar 2) maNil)))) msNext)
  (msSeq (msIf (mtAnd (asB (mOp fEq (mVar 0) (mC (.str "gap")))) (asB (mOp fNeD (mOp fIxU (mVar 1) (mC (.int 0))) (mOp fIxU (mVar 2) (mC (.int 0)))))) (msRet (mCall 2 f__law_before (maCons (mOp fIxU (mVar 1) (mC (.int 0))) (maCons (mOp fIxU (mVar 2) (mC (.int 0))) maNil)))) msNext)
  (msSeq (msIf (asB (mOp fEq (mVar 0) (mC (.str "gap")))) (msRet (mOp fLtD (mOp fIxU (mVar 1) (mC (.int 1))) (mOp fIxU (mVar 2) (mC (.int 1))))) msNext)
  (msRet (mOp fLtD (mVar 1) (mVar 2)))))
def f__law_less : FA := nr (runB 3 b__law_less)
def b__law_ahead : MS := msSeq (msIf (asB (mOp fNeD (mOp fIxT (mVar 0) (mC (.int 0))) (mOp fIxT (mVar 1) (mC (.int 0))))) (msRet (mCall 2 f__law_before (maCons (mOp fIxT (mVar 0) (mC (.int 0))) (maCons (mOp fIxT (mVar 1) (mC (.int 0))) maNil)))) msNext)
  (msSeq (msIf (asB (mOp fNe (mOp fIxT (mVar 0) (mC (.int 1))) (mOp fIxT (mVar 1) (mC (.int 1))))) (msRet (mOp fLtS (mOp fIxT (mVar 0) (mC (.int 1))) (mOp fIxT (mVar 1) (mC (.int 1))))) msNext)
  (msSeq (msIf (asB (mOp fNeD (mOp fIxT (mVar 0) (mC (.int 3))) (mOp fIxT (mVar 1) (mC (.int 3))))) (msRet (mCall 3 f__law_less (maCons (mOp fIxT (mVar 0) (mC (.int 1))) (maCons (mOp fIxT (mVar 0) (mC (.int 3))) (maCons (mOp fIxT (mVar 1) (mC (.int 3))) maNil))))) msNext)
  (msRet (mOp fLt (mOp fIxT (mVar 0) (mC (.int 2))) (mOp fIxT (mVar 1) (mC (.int 2)))))))
def f__law_ahead : FA := nr (runB 2 b__law_ahead)
def b__law_sorted : MS := msSeq (msAsg (mLst maNil) (mgName 1))
  (msSeq (msFor (miList (mVar 0)) (mgName 2) (msSeq (msAsg (mCB fLenQ (maCons (mVar 1) maNil)) (mgName 3))
  (msSeq (msWhile 10 (mtAnd (asB (mOp fGt (mVar 3) (mC (.int 0)))) (asB (mCall 2 f__law_ahead (maCons (mVar 2) (maCons (mOp fIxL (mVar 1) (mOp fSub (mVar 3) (mC (.int 1)))) maNil))))) (msAsg (mOp fSub (mVar 3) (mC (.int 1))) (mgName 3)))
  (msDrop (mBM fInsert (mVar 1) (maCons (mVar 3) (maCons (mVar 2) maNil)))))))
  (msRet (mVar 1)))
def f__law_sorted : FA := nr (runB 4 b__law_sorted)
def b__law_some : MS := msSeq (msAsg (mLst maNil) (mgName 2))
  (msSeq (msFor (miRange1 (maCons (mOp fMod (mCall 1 f__law_next (maCons (mVar 0) maNil)) (mC (.int 10))) maNil)) (mgName 3) (msSeq (msAsg (mCall 2 f__law_record (maCons (mVar 0) (maCons (mVar 1) maNil))) (mgName 4))
  (msSeq (msAsg (mCall 1 f__law_next (maCons (mVar 0) maNil)) (mgName 5))
  (msSeq (msIf (mtAnd (asB (mOp fNeD (mVar 2) (mLst maNil))) (asB (mOp fEq (mOp fMod (mVar 5) (mC (.int 2))) (mC (.int 0))))) (msSeq (msAsg (mOp fIxL (mVar 2) (mOp fMod (mOp fDiv (mVar 5) (mC (.int 2))) (mCB fLenQ (maCons (mVar 2) maNil)))) (mgName 6))
  (msSeq (msAsg (mLst (maCons (mVar 6) (maCons (mTup (maCons (mOp fIxT (mVar 6) (mC (.int 0))) (maCons (mOp fIxT (mVar 6) (mC (.int 1))) (maCons (mOp fIxT (mVar 4) (mC (.int 2))) (maCons (mOp fIxT (mVar 6) (mC (.int 3))) maNil))))) (maCons (mOp fCatT (mTup (maCons (mOp fIxT (mVar 4) (mC (.int 0))) maNil)) (mSl fSlT (mVar 6) (moPart (mC (.int 1))) moNone)) maNil)))) (mgName 7))
  (msSeq (msDrop (mBM fAppend (mVar 7) (maCons (mTup (maCons (mOp fIxT (mVar 6) (mC (.int 0))) (maCons (mOp fIxT (mVar 6) (mC (.int 1))) (maCons (mOp fIxT (mVar 6) (mC (.int 2))) (maCons (mCall 3 f__law_data (maCons (mVar 0) (maCons (mOp fIxT (mVar 6) (mC (.int 1))) (maCons (mVar 1) maNil)))) maNil))))) maNil)))
  (msAsg (mOp fIxL (mVar 7) (mOp fMod (mOp fDiv (mVar 5) (mC (.int 30))) (mC (.int 4)))) (mgName 4))))) msNext)
  (msDrop (mBM fAppend (mVar 2) (maCons (mVar 4) maNil)))))))
  (msRet (mVar 2)))
def f__law_some : FA := nr (runB 8 b__law_some)
def b__law_word : MS := msSeq (msAsg (mC .non) (mgName 1))
  (msSeq (msTry tab 0 2 1 (msDrop (mCall 1 f_ordered (maCons (mVar 0) maNil))))
  (msSeq (msAsg (mCB (fIsA tab) (maCons (mVar 1) (maCons (mTup (maCons (mC (.cls 6)) (maCons (mC (.cls 3)) (maCons (mC (.cls 8)) (maCons (mC (.cls 1)) maNil))))) maNil))) (mgName 3))
  (msSeq (msAsg (mOr (mVar 3) (mCB (fIsA tab) (maCons (mVar 1) (maCons (mTup (maCons (mC (.cls 5)) (maCons (mC (.cls 7)) (maCons (mC (.cls 4)) maNil)))) maNil)))) (mgName 3))
  (msRet (mAnd (mCB (fIsA tab) (maCons (mVar 1) (maCons (mC (.cls 2)) maNil))) (mAnd (mCB (fIsA tab) (maCons (mVar 1) (maCons (mC (.ty "ValueError")) maNil))) (mNot (mVar 3))))))))
def f__law_word : FA := nr (runB 4 b__law_word)
def b_law : MS := msSeq (msAsg (mDisp [(mC (.str "cells"), mVar 0), (mC (.str "at"), mC (.int 0))]) (mgName 1))
  (msSeq (msAsg (mCall 1 f__law_labels (maCons (mVar 1) maNil)) (mgName 2))
  (msSeq (msIf (mtOr (mtNot (asB (mCB (fIsA tab) (maCons (mC (.ct k_KINDS)) (maCons (mC (.ty "tuple")) maNil))))) (asB (mOp fNeD (mC (.ct k_KINDS)) (mCall 0 f__law_kinds maNil)))) (msRet (mC (.bl false))) msNext)
  (msSeq (msAsg (mCall 2 f__law_some (maCons (mVar 1) (maCons (mVar 2) maNil))) (mgName 3))
  (msSeq (msAsg (mCall 1 f__law_sorted (maCons (mVar 3) maNil)) (mgName 4))
  (msSeq (msAsg (mCB fListOf (maCons (mVar 3) maNil)) (mgName 5))
  (msSeq (msAsg (mCall 1 f_ordered (maCons (mVar 5) maNil)) (mgName 6))
  (msSeq (msIf (mtOr (mtNot (asB (mCB (fIsA tab) (maCons (mVar 6) (maCons (mC (.ty "list")) maNil))))) (mtOr (asB (mOp fNeD (mVar 6) (mVar 4))) (mtOr (asB (mOp fNeD (mVar 5) (mVar 3))) (asB (mOp fNeD (mCall 1 f_ordered (maCons (mBack fBackL (mVar 3) (moPart (mUn fNeg (mC (.int 1))))) maNil)) (mVar 4)))))) (msRet (mC (.bl false))) msNext)
  (msSeq (msDrop (mBM fAppend (mVar 6) (maCons (mC .non) maNil)))
  (msSeq (msIf (asB (mOp fNeD (mCall 1 f_ordered (maCons (mVar 5) maNil)) (mVar 4))) (msRet (mC (.bl false))) msNext)
  (msSeq (msFor (miRange1 (maCons (mC (.int 4)) maNil)) (mgName 7) (msSeq (msAsg (mCall 2 f__law_record (maCons (mVar 1) (maCons (mVar 2) maNil))) (mgName 8))
  (msSeq (msAsg (mCall 2 f__law_spoilt (maCons (mVar 1) (maCons (mVar 8) maNil))) (mgName 9))
  (msSeq (msAsg (mCall 1 f_is_record (maCons (mVar 9) maNil)) (mgName 10))
  (msSeq (msIf (mtOr (asB (mOp fNotB (mCall 1 f_is_record (maCons (mVar 8) maNil)) (mC (.bl true)))) (mtOr (mtNot (asB (mCB (fIsA tab) (maCons (mVar 10) (maCons (mC (.ty "bool")) maNil))))) (asB (mOp fNe (mVar 10) (mCall 1 f__law_is_record (maCons (mVar 9) maNil)))))) (msRet (mC (.bl false))) msNext)
  (msSeq (msAsg (mCall 1 f__law_next (maCons (mVar 1) maNil)) (mgName 11))
  (msSeq (msAsg (mOp fMod (mVar 11) (mOp fAdd (mCB fLenQ (maCons (mVar 3) maNil)) (mC (.int 1)))) (mgName 12))
  (msIf (mtAnd (mtNot (asB (mVar 10))) (mtNot (asB (mCall 1 f__law_word (maCons (mOp fCat (mOp fCat (mSl fSlL (mVar 3) moNone (moPart (mVar 12))) (mLst (maCons (mVar 9) maNil))) (mSl fSlL (mVar 3) (moPart (mVar 12)) moNone)) maNil))))) (msRet (mC (.bl false))) msNext))))))))
  (msRet (mCall 1 f__law_word (maCons (mOp fIxL (mLst (maCons (mC .non) (maCons (mCB fTupleOf (maCons (mVar 3) maNil)) (maCons (mC (.str "records")) (maCons mDNew (maCons (mC (.int 5)) maNil)))))) (mOp fMod (mCall 1 f__law_next (maCons (mVar 1) maNil)) (mC (.int 5)))) maNil)))))))))))))
def f_law : FA := runB 13 b_law
end Nh
namespace Nh
open PySem PySem.Spec PyProof.Rows L2
/-! ### what a mirror gives, by what is wanted -/
def wp {α : Type} (r : Res α) (Q : α → Store → Prop) (R : Nat → Store → Prop := fun _ _ => False) : Prop := match r with
  | .ok x μ => Q x μ
  | .raise n μ => R n μ
  | .stuck => False
structure Ps where
  nx : Env → Store → Prop
  rt : Dat → Store → Prop
  bk : Env → Store → Prop := fun _ _ => False
  ct : Env → Store → Prop := fun _ _ => False
  ra : Nat → Env → Store → Prop := fun _ _ _ => False
def wps (r : SRes) (P : Ps) : Prop := match r with
  | .nx δ μ => P.nx δ μ
  | .rt d μ => P.rt d μ
  | .bk δ μ => P.bk δ μ
  | .ct δ μ => P.ct δ μ
  | .raise n δ μ => P.ra n δ μ
  | .stuck => False
section
variable {α β : Type} {Q Q' : α → Store → Prop} {R R' : Nat → Store → Prop} {P P' : Ps} {δ : Env} {μ : Store}
theorem wp_mono {r : Res α} (h : wp r Q R) (hq : ∀ x μ, Q x μ → Q' x μ) (hr : ∀ n μ, R n μ → R' n μ) : wp r Q' R' := by
  cases r with
  | ok x μ => exact hq _ _ h
  | raise n μ => exact hr _ _ h
  | stuck => exact h
theorem wp_imp {r : Res α} (h : wp r Q) (hq : ∀ x μ, Q x μ → Q' x μ) : wp r Q' R' := wp_mono h hq fun _ _ z => z.elim
theorem wp_bind {r : Res α} {f : α → Store → Res β} {Q : β → Store → Prop} : wp (r.bind f) Q R ↔ wp r (fun x μ => wp (f x μ) Q R) R := by
  cases r <;> rfl
theorem wp_ok {x : α} : wp (.ok x μ) Q R ↔ Q x μ := Iff.rfl
theorem wp_nrR {r : Res α} : wp (nrR r) Q R ↔ wp r Q := by cases r <;> rfl
theorem wps_toS {r : Res α} {f : α → Store → SRes} : wps (r.toS δ f) P ↔ wp r (fun x μ => wps (f x μ) P) (fun n μ => P.ra n δ μ) := by
  cases r <;> rfl
theorem wps_nx : wps (.nx δ μ) P ↔ P.nx δ μ := Iff.rfl
theorem wps_rt {d : Dat} : wps (.rt d μ) P ↔ P.rt d μ := Iff.rfl
theorem wps_seq {a b : MS} : wps (msSeq a b δ μ) P ↔ wps (a δ μ) { P with nx := fun δ μ => wps (b δ μ) P } := by
  unfold msSeq
  cases a δ μ <;> rfl
theorem wps_mono {r : SRes} (h : wps r P) (h1 : ∀ δ μ, P.nx δ μ → P'.nx δ μ) (h2 : ∀ d μ, P.rt d μ → P'.rt d μ) (h3 : ∀ δ μ, P.bk δ μ → P'.bk δ μ) (h4 : ∀ δ μ, P.ct δ μ → P'.ct δ μ) (h5 : ∀ n δ μ, P.ra n δ μ → P'.ra n δ μ) : wps r P' := by
  cases r with
  | nx δ μ => exact h1 _ _ h
  | rt d μ => exact h2 _ _ h
  | bk δ μ => exact h3 _ _ h
  | ct δ μ => exact h4 _ _ h
  | raise n δ μ => exact h5 _ _ _ h
  | stuck => exact h
theorem wp_run {N : Nat} {b : MS} {ds : List Dat} {Q : Dat → Store → Prop} : wp (runB N b ds μ) Q R ↔ wps (b (startD N ds) μ) { nx := fun _ μ => Q .non μ, rt := Q, ra := fun n _ μ => R n μ } := by
  unfold runB
  cases b (startD N ds) μ <;> rfl
theorem wp_nr {f : FA} {ds : List Dat} {Q : Dat → Store → Prop} (h : wp (f ds μ) Q) : wp (nr f ds μ) Q R := by
  unfold nr
  cases hf : f ds μ with
  | ok x μ' => rw [hf] at h; exact h
  | raise n μ' => rw [hf] at h; exact h.elim
  | stuck => rw [hf] at h; exact h
theorem wps_if {q : M Bool} {a b : MS} : wps (msIf q a b δ μ) P ↔ wp (q δ μ) (fun k μ1 => if k = true then wps (a δ μ1) P else wps (b δ μ1) P) (fun n μ => P.ra n δ μ) := by
  unfold msIf
  rw [wps_toS]
  constructor
  · intro h
    refine wp_mono h (fun k μ1 z => ?_) fun _ _ z => z
    cases k <;> exact z
  · intro h
    refine wp_mono h (fun k μ1 z => ?_) fun _ _ z => z
    cases k <;> exact z
theorem wp_if {q : M Bool} {a b : M α} : wp (mIf q a b δ μ) Q R ↔ wp (q δ μ) (fun k μ1 => if k = true then wp (a δ μ1) Q R else wp (b δ μ1) Q R) R := by
  unfold mIf
  rw [wp_bind]
  constructor
  · intro h
    refine wp_mono h (fun k μ1 z => ?_) fun _ _ z => z
    cases k <;> exact z
  · intro h
    refine wp_mono h (fun k μ1 z => ?_) fun _ _ z => z
    cases k <;> exact z
theorem wp_tAnd {a b : M Bool} {Q : Bool → Store → Prop} : wp (mtAnd a b δ μ) Q R ↔ wp (a δ μ) (fun k μ1 => if k = true then wp (b δ μ1) Q R else Q false μ1) R := by
  unfold mtAnd
  rw [wp_bind]
  constructor <;>
  · intro h
    refine wp_mono h (fun k μ1 z => ?_) fun _ _ z => z
    cases k <;> exact z
theorem wp_tOr {a b : M Bool} {Q : Bool → Store → Prop} : wp (mtOr a b δ μ) Q R ↔ wp (a δ μ) (fun k μ1 => if k = true then Q true μ1 else wp (b δ μ1) Q R) R := by
  unfold mtOr
  rw [wp_bind]
  constructor <;>
  · intro h
    refine wp_mono h (fun k μ1 z => ?_) fun _ _ z => z
    cases k <;> exact z
theorem wp_tNot {a : M Bool} {Q : Bool → Store → Prop} : wp (mtNot a δ μ) Q R ↔ wp (a δ μ) (fun k μ1 => Q (!k) μ1) R := by
  unfold mtNot
  rw [wp_bind]
  rfl
end

/-! ### comprehensions over what stands still -/
theorem getElem?_mid {μ g : Store} {x : Cell} : (μ ++ (x :: g))[μ.length]? = some x := by simp
theorem set_mid {μ g : Store} {x y : Cell} : (μ ++ (x :: g)).set μ.length y = μ ++ (y :: g) := by simp
theorem lcLoop_map {s : Src} {mg : MG} {mt : M Bool} {me : M Dat} {δ0 : Env} {μ : Store} {items : List Dat} {p : Dat → Bool} {f : Dat → Dat} (hn : s.n = items.length) (hget : ∀ i μ', s.get i μ' = items[i]?) (hfin : ∀ μ', s.fin μ' = true) (hlen : items.length < sizeLine)
    (step : ∀ (i : Nat) (d : Dat) (g : Store) (acc : List Dat), items[i]? = some d → ∃ δ1, mg d δ0 = some δ1 ∧ wp (mt δ1 (μ ++ (.lst acc :: g))) fun b μ3 => b = p d ∧ ∃ g1, μ3 = μ ++ (.lst acc :: g1) ∧
      (b = true → wp (me δ1 μ3) fun y μ4 => y = f d ∧ ∃ g2, μ4 = μ ++ (.lst acc :: g2))) :
    ∀ (r i : Nat) (acc : List Dat) (g : Store), i + r = items.length → acc.length ≤ i → ∃ g', lcLoop s mg mt me δ0 μ.length r i (μ ++ (.lst acc :: g)) = .ok () (μ ++ (.lst (acc ++ ((items.drop i).filter p).map f) :: g')) := by
  intro r
  induction r with
  | zero =>
    intro i acc g hi ha
    refine ⟨g, ?_⟩
    unfold lcLoop
    rw [if_pos (hfin _), List.drop_eq_nil_of_le (by omega), List.filter_nil, List.map_nil, List.append_nil]
  | succ r ih =>
    intro i acc g hi ha
    have hlt : i < items.length := by omega
    obtain ⟨δ1, h1, h2⟩ := step i items[i] g acc (List.getElem?_eq_getElem hlt)
    unfold lcLoop
    rw [hget, List.getElem?_eq_getElem hlt, Option.bind_some, h1]
    dsimp only
    have hd : items.drop i = items[i] :: items.drop (i + 1) := List.drop_eq_getElem_cons hlt
    cases hm : mt δ1 (μ ++ (.lst acc :: g)) with
    | ok b μ3 =>
      rw [hm] at h2
      obtain ⟨rfl, g1, rfl, h3⟩ := h2
      show ∃ g', (if p items[i] = true then _ else _) = _
      rw [hd, List.filter_cons]
      by_cases hp : p items[i] = true
      · rw [if_pos hp, if_pos hp]
        have h4 := h3 hp
        cases hme : me δ1 (μ ++ (.lst acc :: g1)) with
        | ok y μ4 =>
          rw [hme] at h4
          obtain ⟨rfl, g2, rfl⟩ := h4
          dsimp only [nrR, Res.bind]
          rw [getElem?_mid]
          dsimp only
          rw [if_pos (by omega), set_mid, List.map_cons]
          obtain ⟨g', e⟩ := ih (i + 1) (acc ++ [f items[i]]) g2 (by omega) (by simp; omega)
          exact ⟨g', by rw [e]; simp⟩
        | raise n μ4 => rw [hme] at h4; exact h4.elim
        | stuck => rw [hme] at h4; exact h4.elim
      · rw [if_neg hp, if_neg hp]
        exact ih (i + 1) acc g1 (by omega) (by omega)
    | raise n μ3 => rw [hm] at h2; exact h2.elim
    | stuck => rw [hm] at h2; exact h2.elim
theorem wp_lc_map {src : M Src} {s : Src} {mg : MG} {mt : M Bool} {me : M Dat} {vs : List Nat} {δ : Env} {μ : Store} {Q : Dat → Store → Prop} {R : Nat → Store → Prop} (items : List Dat) (p : Dat → Bool) (f : Dat → Dat) (hsrc : src δ μ = .ok s μ)
    (hn : s.n = items.length) (hget : ∀ i μ', s.get i μ' = items[i]?) (hfin : ∀ μ', s.fin μ' = true) (hlen : items.length < sizeLine)
    (step : ∀ (i : Nat) (d : Dat) (g : Store) (acc : List Dat), items[i]? = some d → ∃ δ1, mg d (wipeD δ vs) = some δ1 ∧ wp (mt δ1 (μ ++ (.lst acc :: g))) fun b μ3 => b = p d ∧ ∃ g1, μ3 = μ ++ (.lst acc :: g1) ∧
      (b = true → wp (me δ1 μ3) fun y μ4 => y = f d ∧ ∃ g2, μ4 = μ ++ (.lst acc :: g2)))
    (h : ∀ g, Q (.cell μ.length) (μ ++ (.lst ((items.filter p).map f) :: g))) : wp (mLc src mg mt me vs δ μ) Q R := by
  unfold mLc
  rw [hsrc]
  obtain ⟨g', e⟩ := lcLoop_map hn hget hfin hlen step s.n 0 [] [] (by omega) (Nat.zero_le _)
  show wp ((lcLoop s mg mt me (wipeD δ vs) μ.length s.n 0 (μ ++ [.lst []])).bind _) Q R
  rw [e]
  exact h g'
theorem srcS_get (z : Str) (i : Nat) (μ : Store) : (srcS z).get i μ = (z.cps.toList.map fun q => Dat.str ⟨#[q]⟩)[i]? := by
  show (z.cps[i]?).map _ = _
  rw [List.getElem?_map, Array.getElem?_toList]
theorem filter_yes {α : Type} (l : List α) : l.filter (fun _ => true) = l := List.filter_eq_self.mpr fun _ _ => rfl
def rangeD (lo : Int) (n : Nat) : List Dat := (List.range n).map fun i => Dat.int (lo + (i : Nat))
/-! ### the primitives -/
section
variable {μ : Store} {δ : Env}
theorem isA_str (s : Str) : fIsA tab [.str s, .ty "str"] μ = .ok (.bl true) μ := rfl
theorem isA_non (t : String) (b : Bool) (h : kitB "NoneType" t = some b) : fIsA tab [.non, .ty t] μ = .ok (.bl b) μ := by
  show (match kitB "NoneType" t with | some b => Res.ok (Dat.bl b) μ | none => Res.stuck) = _
  rw [h]
theorem inSign_star (z : Str) : fInSign (.str "*") (.str z) μ = .ok (.bl (decide (42 ∈ z.cps.toList))) μ := rfl
theorem inSign_one (q : Nat) (z : Str) : fInSign (.str ⟨#[q]⟩) (.str z) μ = .ok (.bl (decide (q ∈ z.cps.toList))) μ := rfl
theorem notInSign_one (q : Nat) (z : Str) : fNotInSign (.str ⟨#[q]⟩) (.str z) μ = .ok (.bl (!decide (q ∈ z.cps.toList))) μ := rfl
theorem fLen_str {s : Str} (h : s.length ≤ sizeLine) : fLen [.str s] μ = .ok (.int (s.length : Int)) μ := by
  simp only [fLen, lenD, if_pos h]
theorem fEq_str (a b : Str) : fEq (.str a) (.str b) μ = .ok (.bl (decide (a = b))) μ := by
  simp only [fEq, toV, scal, V.str.injEq, if_true]
theorem fEq_int (a b : Int) : fEq (.int a) (.int b) μ = .ok (.bl (decide (a = b))) μ := by
  simp only [fEq, toV, scal, V.int.injEq, if_true]
theorem fLe_int (a b : Int) : fLe (.int a) (.int b) μ = .ok (.bl (decide (a ≤ b))) μ := rfl
theorem fLt_int (a b : Int) : fLt (.int a) (.int b) μ = .ok (.bl (decide (a < b))) μ := rfl
theorem fGt_int (a b : Int) : fGt (.int a) (.int b) μ = .ok (.bl (decide (b < a))) μ := rfl
theorem fAdd_int (a b : Int) : fAdd (.int a) (.int b) μ = .ok (.int (a + b)) μ := rfl
theorem fSub_int (a b : Int) : fSub (.int a) (.int b) μ = .ok (.int (a - b)) μ := rfl
theorem fMod_int {a b : Int} (h : 0 < b) : fMod (.int a) (.int b) μ = .ok (.int (a % b)) μ := by
  simp only [fMod, intOpC, if_pos h]
theorem fDiv_int {a b : Int} (h : 0 < b ∧ b < 1073741824) : fDiv (.int a) (.int b) μ = .ok (.int (a / b)) μ := by
  simp only [fDiv, intOpC]
  rw [if_pos (show CDiv a b from h)]
theorem fMul_int {a b : Int} (h : (-(2 ^ 64) < a ∧ a < 2 ^ 64) ∨ (-(2 ^ 64) < b ∧ b < 2 ^ 64)) : fMul (.int a) (.int b) μ = .ok (.int (a * b)) μ := by
  simp only [fMul, intOpC]
  rw [if_pos (show CMul a b from h)]
theorem fNeg_int (a : Int) : fNeg (.int a) μ = .ok (.int (-a)) μ := rfl
theorem fAddS_str {a b : Str} (h : a.length + b.length ≤ sizeLine) : fAddS (.str a) (.str b) μ = .ok (.str (a ++ b)) μ := by
  simp only [fAddS, if_pos h]
theorem blsD_map (bs : List Bool) : blsD (bs.map Dat.bl) = some bs := by
  induction bs with
  | nil => rfl
  | cons b r ih => rw [List.map_cons, blsD, ih]; rfl
theorem strsD_map (ss : List Str) : strsD (ss.map Dat.str) = some ss := by
  induction ss with
  | nil => rfl
  | cons b r ih => rw [List.map_cons, strsD, ih]; rfl
theorem fAll_mid {g : Store} {ds : List Dat} {bs : List Bool} (h : ds = bs.map Dat.bl) : fAll [.cell μ.length] (μ ++ (.lst ds :: g)) = .ok (.bl (bs.all id)) (μ ++ (.lst ds :: g)) := by
  subst h
  simp only [fAll, lstAt, getElem?_mid, Option.bind_some, blsD_map]
theorem fJoin_mid {g : Store} {ds : List Dat} {ss : List Str} (a : Str) (h : ds = ss.map Dat.str) (hz : (ss.map (·.length)).sum + ss.length * a.length ≤ 16777216) : fJoin (.str a) (.cell μ.length) (μ ++ (.lst ds :: g)) = .ok (.str (Txt.join a ss)) (μ ++ (.lst ds :: g)) := by
  subst h
  simp only [fJoin, seqD, lstAt, getElem?_mid, Option.bind_some, strsD_map, if_pos hz]
end
local macro_rules | `(tactic| walk_at "nwp") => `(tactic| simp only [wp_bind, wp_ok, wp_nrR, wps_toS, wps_nx, wps_rt, wps_seq, wp_run, wps_if, wp_if, wp_tAnd, wp_tOr, wp_tNot, startD, List.map_cons, List.map_nil, List.length_cons, List.length_nil, Nat.reduceAdd, Nat.reduceSub, List.replicate_succ, List.replicate_zero, List.cons_append, List.nil_append, List.getElem?_cons_zero, List.getElem?_cons_succ, List.set_cons_zero, List.set_cons_succ,
  asB, mVar, mC, mOp, mCB, maCons, maNil, mCall, msRet, msAsg, mgName, msDrop, msNext, msRaise, mTup, mChain, mUn, if_true, if_false, Bool.not_true, Bool.not_false, Bool.false_eq_true, reduceIte, Nat.reduceEqDiff, Nat.reduceLeDiff,
  eq_self_iff_true, true_and, isA_str, inSign_star, inSign_one, notInSign_one, fEq_str, fEq_int, fLe_int, fLt_int, fGt_int, fAdd_int, fSub_int, fNeg_int])
def isLabelS (s : Str) : Bool := if 1 ≤ s.length ∧ s.length ≤ 8 then (if 42 ∈ s.cps.toList then decide (s = "*") else s.cps.toList.all fun q => decide (q ∈ ("abcdefghijklmnopqrstuvwxyz0123456789-*" : Str).cps.toList)) else false
theorem is_label_str (s : Str) (hs : s.length ≤ sizeLine) (μ : Store) : wp (f_is_label [.str s] μ) fun d μ' => d = .bl (isLabelS s) ∧ ∃ g, μ' = μ ++ g := by
  refine wp_nr ?_
  rw [wp_run]
  unfold b_is_label
  walk_at "nwp"
  rw [fLen_str hs]
  walk_at "nwp"
  unfold isLabelS
  by_cases h1 : (1 : Int) ≤ s.length
  · rw [decide_eq_true h1]
    walk_at "nwp"
    by_cases h2 : (s.length : Int) ≤ 8
    · rw [decide_eq_true h2, if_pos (by omega : 1 ≤ s.length ∧ s.length ≤ 8)]
      walk_at "nwp"
      by_cases h3 : 42 ∈ s.cps.toList
      · rw [decide_eq_true h3, if_pos h3]
        walk_at "nwp"
        exact ⟨[], by simp⟩
      · rw [decide_eq_false h3, if_neg h3]
        walk_at "nwp"
        refine wp_lc_map (s := srcS s) (s.cps.toList.map fun q => Dat.str ⟨#[q]⟩) (fun _ => true) (fun d => match d with | .str z => .bl (decide (z.cps.toList.headD 0 ∈ ("abcdefghijklmnopqrstuvwxyz0123456789-*" : Str).cps.toList)) | _ => .non) rfl (by simp [srcS]) (srcS_get s) (fun _ => rfl) (by simp; have := sizeLine_eq; have hh : s.cps.size = s.length := rfl; omega) (fun i d g acc hd => ?_) fun g => ?_
        · rw [List.getElem?_map] at hd
          cases hq : s.cps.toList[i]? with
          | none => rw [hq] at hd; cases hd
          | some q =>
            rw [hq] at hd
            cases hd
            refine ⟨_, rfl, rfl, g, rfl, fun _ => ?_⟩
            walk_at "nwp"
            exact ⟨rfl, g, rfl⟩
        · rw [fAll_mid (bs := s.cps.toList.map fun q => decide (q ∈ ("abcdefghijklmnopqrstuvwxyz0123456789-*" : Str).cps.toList)) (by rw [filter_yes, List.map_map, List.map_map]; rfl)]
          refine ⟨?_, _, rfl⟩
          simp
    · rw [decide_eq_false h2, if_neg (show ¬ (1 ≤ s.length ∧ s.length ≤ 8) by omega)]
      walk_at "nwp"
      exact ⟨[], by simp⟩
  · rw [decide_eq_false h1, if_neg (show ¬ (1 ≤ s.length ∧ s.length ≤ 8) by omega)]
    walk_at "nwp"
    exact ⟨[], by simp⟩
end Nh

namespace Nh
open PySem PySem.Spec PyProof.Rows L2
local macro_rules | `(tactic| walk_at "nwp") => `(tactic| simp only [wp_bind, wp_ok, wp_nrR, wps_toS, wps_nx, wps_rt, wps_seq, wp_run, wps_if, wp_if, wp_tAnd, wp_tOr, wp_tNot, startD, List.map_cons, List.map_nil, List.length_cons, List.length_nil, Nat.reduceAdd, Nat.reduceSub, List.replicate_succ, List.replicate_zero, List.cons_append, List.nil_append, List.getElem?_cons_zero, List.getElem?_cons_succ, List.set_cons_zero, List.set_cons_succ,
  asB, mVar, mC, mOp, mCB, maCons, maNil, mCall, msRet, msAsg, mgName, msDrop, msNext, msRaise, mTup, mChain, mUn, if_true, if_false, Bool.not_true, Bool.not_false, Bool.false_eq_true, reduceIte, Nat.reduceEqDiff, Nat.reduceLeDiff,
  eq_self_iff_true, true_and, isA_str, inSign_star, inSign_one, notInSign_one, fEq_str, fEq_int, fLe_int, fLt_int, fGt_int, fAdd_int, fSub_int, fNeg_int])
theorem sl16 : sizeLine = 16777216 := sizeLine_eq
/-! ### kinds of data -/
theorem isA_k {μ : Store} {d : Dat} {k t : String} {b : Bool} (h : tyD μ d = some (.inl k)) (hb : kitB k t = some b) : fIsA tab [d, .ty t] μ = .ok (.bl b) μ := by
  simp only [fIsA, h, tabHas, oneD, hb, if_true]
theorem get_app {μ g : Store} {i : Nat} {x : Cell} (h : μ[i]? = some x) : (μ ++ g)[i]? = some x := by
  have hi := (List.getElem?_eq_some_iff.mp h).1
  rw [List.getElem?_append_left hi]
  exact h
theorem tyD_app {μ g : Store} {d : Dat} {t : Sum String Nat} (h : tyD μ d = some t) : tyD (μ ++ g) d = some t := by
  cases d with
  | cell k =>
    cases hk : μ[k]? with
    | none => simp only [tyD, kindD, hk] at h; cases h
    | some x => simp only [tyD, kindD, get_app hk]; simp only [tyD, kindD, hk] at h; exact h
  | _ => exact h
def isLabelD : Dat → Bool
  | .str s => isLabelS s
  | _ => false
/-- a thing that may be asked whether it is a label -/
def okS (s : Str) : Prop := ∀ q ∈ s.cps.toList, q < 0x110000
def Ok1 (μ : Store) (d : Dat) : Prop := (∃ s, d = .str s ∧ s.length ≤ 100000 ∧ okS s) ∨ ((∀ s, d ≠ .str s) ∧ ∃ k, tyD μ d = some (.inl k) ∧ kitB k "str" = some false)
theorem Ok1.app {μ g : Store} {d : Dat} (h : Ok1 μ d) : Ok1 (μ ++ g) d := by
  rcases h with h | ⟨h, k, h1, h2⟩
  · exact .inl h
  · exact .inr ⟨h, k, tyD_app h1, h2⟩
theorem isLabelD_no {d : Dat} (h : ∀ s, d ≠ .str s) : isLabelD d = false := by
  cases d with
  | str s => exact (h s rfl).elim
  | _ => rfl
theorem is_label_spec {μ : Store} {d : Dat} (h : Ok1 μ d) : wp (f_is_label [d] μ) fun r μ' => r = .bl (isLabelD d) ∧ ∃ g, μ' = μ ++ g := by
  rcases h with ⟨s, rfl, hs, _⟩ | ⟨h, k, h1, h2⟩
  · exact is_label_str s (by rw [sl16]; omega) μ
  · rw [isLabelD_no h]
    refine wp_nr ?_
    rw [wp_run]
    unfold b_is_label
    walk_at "nwp"
    rw [isA_k h1 h2]
    walk_at "nwp"
    exact ⟨[], by simp⟩
/-! ### names -/
def isStarD : Dat → Bool
  | .str s => decide (s = "*")
  | _ => false
def isNameD : Dat → Bool
  | .tup ds => decide (ds.length ≤ 6) && (ds.all isLabelD && !(ds.drop 1).any isStarD)
  | _ => false
def OkN (μ : Store) (d : Dat) : Prop := (∃ ds, d = .tup ds ∧ ∀ e ∈ ds, Ok1 μ e) ∨ ((∀ ds, d ≠ .tup ds) ∧ ∃ k, tyD μ d = some (.inl k) ∧ kitB k "tuple" = some false)
theorem OkN.app {μ g : Store} {d : Dat} (h : OkN μ d) : OkN (μ ++ g) d := by
  rcases h with ⟨ds, h1, h3⟩ | ⟨h, k, h1, h2⟩
  · exact .inl ⟨ds, h1, fun e he => (h3 e he).app⟩
  · exact .inr ⟨h, k, tyD_app h1, h2⟩
theorem label_strs : ∀ {ds : List Dat}, ds.all isLabelD = true → ∃ ss : List Str, ds = ss.map Dat.str
  | [], _ => ⟨[], rfl⟩
  | d :: r, h => by
    rw [List.all_cons, Bool.and_eq_true] at h
    obtain ⟨ss, e⟩ := label_strs h.2
    cases d with
    | str s => exact ⟨s :: ss, by rw [e]; rfl⟩
    | _ => cases h.1
theorem toVs_strs : ∀ ss : List Str, toVs (ss.map Dat.str) = some (ss.map V.str)
  | [] => rfl
  | s :: r => by rw [List.map_cons, toVs, toVs_strs r]; rfl
theorem inV_star : ∀ ss : List Str, inV (V.str "*") (ss.map V.str) = (ss.map Dat.str).any isStarD
  | [] => rfl
  | s :: r => by
    have ih := inV_star r
    unfold inV at ih ⊢
    rw [List.map_cons, List.map_cons, List.any_cons, List.any_cons, ih]
    show ((s == ("*" : Str)) || _) = (decide (s = "*") || _)
    rfl
theorem fNotIn_star (ss : List Str) (μ : Store) : fIn true (.str "*") (.tup (ss.map .str)) μ = .ok (.bl (!(ss.map Dat.str).any isStarD)) μ := by
  simp only [fIn, toV, seqD, Option.bind_some, toVs_strs, if_true, inV_star]
theorem cutD_map {α β : Type} (f : α → β) (l : List α) (lo hi : Option Int) : cutD (l.map f) lo hi = (cutD l lo hi).map f := by
  unfold cutD
  rw [List.length_map, ← List.map_drop, ← List.map_take]
theorem cutD_from {α : Type} (l : List α) (n : Nat) : cutD l (some (n : Int)) none = l.drop n := by
  unfold cutD
  rw [HT.sIx_nat l.length 0 n, HT.sIx_none]
  by_cases h : n ≤ l.length
  · rw [Nat.min_eq_left h]
    exact List.take_of_length_le (by rw [List.length_drop]; exact Nat.le_refl _)
  · rw [Nat.min_eq_right (by omega), List.drop_eq_nil_of_le (Nat.le_refl _), List.drop_eq_nil_of_le (by omega), List.take_nil]
theorem cutD_to {α : Type} (l : List α) (n : Nat) : cutD l none (some (n : Int)) = l.take n := by
  unfold cutD
  rw [HT.sIx_nat l.length l.length n, HT.sIx_none, List.drop_zero, Nat.sub_zero]
  by_cases h : n ≤ l.length
  · rw [Nat.min_eq_left h]
  · rw [Nat.min_eq_right (by omega), List.take_of_length_le (Nat.le_refl _), List.take_of_length_le (by omega)]
theorem is_name_spec {μ : Store} {d : Dat} (h : OkN μ d) : wp (f_is_name [d] μ) fun r μ' => r = .bl (isNameD d) ∧ ∃ g, μ' = μ ++ g := by
  rcases h with ⟨ds, rfl, h3⟩ | ⟨h, k, h1, h2⟩
  · refine wp_nr ?_
    rw [wp_run]
    unfold b_is_name
    walk_at "nwp"
    rw [isA_k (k := "tuple") (b := true) rfl (by decide +kernel)]
    walk_at "nwp"
    rw [show fLenQ [.tup ds] μ = .ok (.int (ds.length : Int)) μ from rfl]
    walk_at "nwp"
    unfold isNameD
    by_cases h6 : (6 : Int) < ds.length
    · rw [decide_eq_true h6]
      walk_at "nwp"
      rw [decide_eq_false (show ¬ ds.length ≤ 6 by omega)]
      exact ⟨rfl, [], by simp⟩
    · rw [decide_eq_false h6]
      walk_at "nwp"
      rw [decide_eq_true (show ds.length ≤ 6 by omega)]
      unfold mAnd
      walk_at "nwp"
      refine wp_lc_map (s := srcT ds) ds (fun _ => true) (fun e => .bl (isLabelD e)) rfl rfl (fun _ _ => rfl) (fun _ => rfl) (by rw [sl16]; omega) (fun i e g acc he => ?_) fun g => ?_
      · refine ⟨_, rfl, rfl, g, rfl, fun _ => ?_⟩
        show wp (mCall 1 f_is_label (maCons (mVar 1) maNil) [some (.tup ds), some e] _) _ _
        walk_at "nwp"
        have hm : e ∈ ds := List.mem_of_getElem? he
        refine wp_imp (is_label_spec ((h3 e hm).app)) ?_
        rintro r μ' ⟨rfl, g2, rfl⟩
        exact ⟨rfl, g ++ g2, by simp⟩
      · rw [filter_yes, fAll_mid (bs := ds.map isLabelD) (by rw [List.map_map]; rfl), List.all_map]
        walk_at "nwp"
        cases hall : ds.all isLabelD with
        | false =>
          rw [show (ds.all (id ∘ isLabelD)) = false from hall]
          exact ⟨rfl, _, rfl⟩
        | true =>
          rw [show (ds.all (id ∘ isLabelD)) = true from hall]
          obtain ⟨ss, rfl⟩ := label_strs hall
          dsimp only
          walk_at "nwp"
          unfold mSl moPart moNone
          walk_at "nwp"
          rw [show fSlT (.tup (ss.map .str)) (some 1) none (μ ++ Cell.lst ((ss.map Dat.str).map fun e => .bl (isLabelD e)) :: g) = .ok (.tup ((ss.drop 1).map .str)) _ from by
            show Res.ok (Dat.tup (cutD (ss.map Dat.str) (some ((1 : Nat) : Int)) none)) _ = _
            rw [cutD_from, List.map_drop]]
          walk_at "nwp"
          rw [fNotIn_star, List.map_drop]
          exact ⟨rfl, _, rfl⟩
  · refine wp_nr ?_
    rw [wp_run]
    unfold b_is_name
    walk_at "nwp"
    rw [isA_k h1 h2]
    walk_at "nwp"
    have e : isNameD d = false := by
      cases d with
      | tup ds => exact (h ds rfl).elim
      | _ => rfl
    rw [e]
    exact ⟨rfl, [], by simp⟩
end Nh

namespace Nh
open PySem PySem.Spec PyProof.Rows L2
local macro_rules | `(tactic| walk_at "nwp") => `(tactic| simp only [wp_bind, wp_ok, wp_nrR, wps_toS, wps_nx, wps_rt, wps_seq, wp_run, wps_if, wp_if, wp_tAnd, wp_tOr, wp_tNot, startD, List.map_cons, List.map_nil, List.length_cons, List.length_nil, Nat.reduceAdd, Nat.reduceSub, List.replicate_succ, List.replicate_zero, List.cons_append, List.nil_append, List.getElem?_cons_zero, List.getElem?_cons_succ, List.set_cons_zero, List.set_cons_succ,
  asB, mVar, mC, mOp, mCB, maCons, maNil, mCall, msRet, msAsg, mgName, msDrop, msNext, msRaise, mTup, mChain, mUn, if_true, if_false, Bool.not_true, Bool.not_false, Bool.false_eq_true, reduceIte, Nat.reduceEqDiff, Nat.reduceLeDiff,
  eq_self_iff_true, true_and, isA_str, inSign_star, inSign_one, notInSign_one, fEq_str, fEq_int, fLe_int, fLt_int, fGt_int, fAdd_int, fSub_int, fNeg_int])

/-! ### texts -/
theorem len_app (a b : Str) : (a ++ b).length = a.length + b.length := Array.size_append
theorem toList_app (a b : Str) : (a ++ b).cps.toList = a.cps.toList ++ b.cps.toList := Array.toList_append
theorem str_ext {a b : Str} (h : a.cps.toList = b.cps.toList) : a = b := by
  obtain ⟨x⟩ := a
  obtain ⟨y⟩ := b
  exact congrArg Str.mk (Array.toList_inj.mp h)
theorem len_toList (a : Str) : a.cps.toList.length = a.length := rfl
theorem okS.strOk {s : Str} (h : okS s) : PyData.strOk s = true := by
  unfold PyData.strOk
  rw [← Array.all_toList, List.all_eq_true]
  exact fun q hq => decide_eq_true (h q hq)
theorem okS.app {a b : Str} (h1 : okS a) (h2 : okS b) : okS (a ++ b) := by
  intro q hq
  rw [toList_app] at hq
  rcases List.mem_append.mp hq with h | h
  · exact h1 q h
  · exact h2 q h
theorem label_len {s : Str} (h : isLabelS s = true) : 1 ≤ s.length ∧ s.length ≤ 8 := by
  unfold isLabelS at h
  split at h
  · assumption
  · cases h
theorem label_ok {s : Str} (h : isLabelS s = true) : okS s := by
  unfold isLabelS at h
  split at h
  · split at h
    · have e := of_decide_eq_true h
      subst e
      intro q hq
      have : q = 42 := by simpa using (show q ∈ [42] from hq)
      omega
    · intro q hq
      have h2 := of_decide_eq_true (List.all_eq_true.mp h q hq)
      have h3 : ∀ q ∈ ("abcdefghijklmnopqrstuvwxyz0123456789-*" : Str).cps.toList, q < 0x110000 := by decide +kernel
      exact h3 q h2
  · cases h
/-- a label has no dot -/
theorem label_dot {s : Str} (h : isLabelS s = true) : 46 ∉ s.cps.toList := by
  unfold isLabelS at h
  split at h
  · split at h
    · have e := of_decide_eq_true h
      subst e
      decide +kernel
    · intro hq
      have h2 := of_decide_eq_true (List.all_eq_true.mp h 46 hq)
      have h3 : ¬ 46 ∈ ("abcdefghijklmnopqrstuvwxyz0123456789-*" : Str).cps.toList := by decide +kernel
      exact h3 h2
  · cases h
/-! ### names of texts -/
def isNameS (ss : List Str) : Bool := isNameD (.tup (ss.map .str))
theorem isNameS_len {ss : List Str} (h : isNameS ss = true) : ss.length ≤ 6 := by
  unfold isNameS isNameD at h
  rw [Bool.and_eq_true] at h
  have := of_decide_eq_true h.1
  rw [List.length_map] at this
  exact this
theorem isNameS_lab {ss : List Str} (h : isNameS ss = true) : ∀ s ∈ ss, isLabelS s = true := by
  unfold isNameS isNameD at h
  rw [Bool.and_eq_true, Bool.and_eq_true, List.all_map] at h
  exact fun s hs => List.all_eq_true.mp h.2.1 s hs
theorem name_strs {d : Dat} (h : isNameD d = true) : ∃ ss : List Str, d = .tup (ss.map .str) ∧ isNameS ss = true := by
  cases d with
  | tup ds =>
    have h' := h
    unfold isNameD at h'
    rw [Bool.and_eq_true, Bool.and_eq_true] at h'
    obtain ⟨ss, rfl⟩ := label_strs h'.2.1
    exact ⟨ss, rfl, h⟩
  | _ => cases h
def dotted (s : Str) : Str := s ++ "."
def textS (ss : List Str) : Str := if ss.isEmpty = true then "." else Txt.join "" (ss.map dotted)
theorem sum_le {ss : List Str} {k : Nat} (h : ∀ s ∈ ss, s.length ≤ k) : (ss.map (·.length)).sum ≤ ss.length * k := by
  induction ss with
  | nil => simp
  | cons s r ih =>
    rw [List.map_cons, List.sum_cons, List.length_cons, Nat.succ_mul]
    have h1 := h s List.mem_cons_self
    have h2 := ih fun t ht => h t (List.mem_cons_of_mem _ ht)
    omega
theorem join_dots {ss : List Str} {μ g : Store} (h : isNameS ss = true) : fJoin (.str "") (.cell μ.length) (μ ++ (.lst ((ss.map dotted).map .str) :: g)) = .ok (.str (Txt.join "" (ss.map dotted))) (μ ++ (.lst ((ss.map dotted).map .str) :: g)) := by
  refine fJoin_mid "" rfl ?_
  have h1 : ∀ s ∈ ss.map dotted, s.length ≤ 9 := by
    intro s hs
    obtain ⟨t, ht, rfl⟩ := List.mem_map.mp hs
    have := (label_len (isNameS_lab h t ht)).2
    show (t ++ ("." : Str)).length ≤ 9
    rw [len_app]
    have : ("." : Str).length = 1 := rfl
    omega
  have h2 := sum_le h1
  have h3 := isNameS_len h
  rw [List.length_map] at h2 ⊢
  have : ("" : Str).length = 0 := rfl
  rw [this]
  omega
theorem dots_step {ss : List Str} {i : Nat} {d : Dat} (h : isNameS ss = true) (hd : (ss.map Dat.str)[i]? = some d) : ∃ s, d = .str s ∧ s.length ≤ 8 ∧ s ∈ ss := by
  rw [List.getElem?_map] at hd
  cases hs : ss[i]? with
  | none => rw [hs] at hd; cases hd
  | some s =>
    rw [hs] at hd
    cases hd
    have hm := List.mem_of_getElem? hs
    exact ⟨s, rfl, (label_len (isNameS_lab h s hm)).2, hm⟩
def dotD : Dat → Dat
  | .str s => .str (dotted s)
  | d => d
/-! ### == -/
theorem pyAll_strs (f : Dat → Option PyData) (hf : ∀ s, f (.str s) = some (.str s)) : ∀ ss : List Str, pyAll f (ss.map .str) = some (ss.map .str)
  | [] => rfl
  | s :: r => by rw [List.map_cons, pyAll, hf, pyAll_strs f hf r]; rfl
theorem py_strs (μ : Store) (n : Nat) (ss : List Str) : py μ (n + 2) (.tup (ss.map .str)) = some (.tuple (ss.map .str)) := by
  show (pyAll (py μ (n + 1)) (ss.map .str)).map PyData.tuple = _
  rw [pyAll_strs _ (fun s => rfl)]
  rfl
theorem depth_strs : ∀ ss : List Str, PyData.depthAll (ss.map .str) = 0
  | [] => rfl
  | s :: r => by
    rw [List.map_cons]
    show max (PyData.depth (.str s)) (PyData.depthAll (r.map .str)) = 0
    rw [depth_strs r]
    rfl
theorem lay_strs : ∀ {ss : List Str}, (∀ s ∈ ss, okS s) → PyData.canLayAll0 (ss.map .str) = true
  | [], _ => rfl
  | s :: r, h => by
    rw [List.map_cons]
    show (PyData.strOk s && PyData.canLayAll0 (r.map .str)) = true
    rw [(h s List.mem_cons_self).strOk, lay_strs fun t ht => h t (List.mem_cons_of_mem _ ht)]
    rfl
/-- what may be compared -/
structure Shp (e : PyData) : Prop where
  lay : e.canLay0 = true
  dep : e.depth ≤ 5
theorem Shp.shaped {e : PyData} (h : Shp e) : SeqAt.shaped e = true := by
  unfold SeqAt.shaped
  rw [h.lay, decide_eq_true (show e.depth ≤ 64 by have := h.dep; omega)]
  rfl
theorem shp_strs {ss : List Str} (h : ∀ s ∈ ss, okS s) : Shp (.tuple (ss.map .str)) := by
  refine ⟨lay_strs h, ?_⟩
  show PyData.depthAll (ss.map .str) + 1 ≤ 5
  rw [depth_strs]
  omega
theorem shp_str {s : Str} (h : okS s) : Shp (.str s) := ⟨h.strOk, by show 0 ≤ 5; omega⟩
theorem shp_none : Shp .none := ⟨rfl, by show 0 ≤ 5; omega⟩
theorem shp_bool (b : Bool) : Shp (.bool b) := ⟨rfl, by show 0 ≤ 5; omega⟩
theorem shp_pair {a b : PyData} (ha : Shp a) (hb : Shp b) (h1 : a.depth ≤ 4) (h2 : b.depth ≤ 4) : Shp (.tuple [a, b]) := by
  refine ⟨?_, ?_⟩
  · show (a.canLay0 && (b.canLay0 && true)) = true
    rw [ha.lay, hb.lay]
    rfl
  · show max a.depth (max b.depth 0) + 1 ≤ 5
    omega
theorem eqv_strs : ∀ (ss ts : List Str), PyData.eqvAll (ss.map .str) (ts.map .str) = decide (ss = ts)
  | [], [] => rfl
  | [], t :: ts => rfl
  | s :: ss, [] => rfl
  | s :: ss, t :: ts => by
    rw [List.map_cons, List.map_cons]
    show ((s == t) && PyData.eqvAll (ss.map .str) (ts.map .str)) = _
    rw [eqv_strs ss ts]
    by_cases h1 : s = t
    · subst h1
      by_cases h2 : ss = ts
      · subst h2; simp
      · simp [h2]
    · simp [h1]
theorem eqD_names (ss ts : List Str) (μ : Store) (h1 : ∀ s ∈ ss, okS s) (h2 : ∀ s ∈ ts, okS s) : fEqD (.tup (ss.map .str)) (.tup (ts.map .str)) μ = .ok (.bl (decide (ss = ts))) μ := by
  simp only [fEqD, py_strs μ 10, (shp_strs h1).shaped, (shp_strs h2).shaped, Bool.and_self, if_true]
  rw [show PyData.eqv (.tuple (ss.map .str)) (.tuple (ts.map .str)) = PyData.eqvAll (ss.map .str) (ts.map .str) from rfl, eqv_strs]
theorem isNameS_ok {ss : List Str} (h : isNameS ss = true) : ∀ s ∈ ss, okS s := fun s hs => label_ok (isNameS_lab h s hs)
/-! ### below, star_of -/
def belowS (ss ts : List Str) : Bool := if ss.length < ts.length then false else decide (ss.drop (ss.length - ts.length) = ts)
end Nh

namespace Nh
open PySem PySem.Spec PyProof.Rows L2
local macro_rules | `(tactic| walk_at "nwp") => `(tactic| simp only [wp_bind, wp_ok, wp_nrR, wps_toS, wps_nx, wps_rt, wps_seq, wp_run, wps_if, wp_if, wp_tAnd, wp_tOr, wp_tNot, startD, List.map_cons, List.map_nil, List.length_cons, List.length_nil, Nat.reduceAdd, Nat.reduceSub, List.replicate_succ, List.replicate_zero, List.cons_append, List.nil_append, List.getElem?_cons_zero, List.getElem?_cons_succ, List.set_cons_zero, List.set_cons_succ,
  asB, mVar, mC, mOp, mCB, maCons, maNil, mCall, msRet, msAsg, mgName, msDrop, msNext, msRaise, mTup, mChain, mUn, if_true, if_false, Bool.not_true, Bool.not_false, Bool.false_eq_true, reduceIte, Nat.reduceEqDiff, Nat.reduceLeDiff,
  eq_self_iff_true, true_and, isA_str, inSign_star, inSign_one, notInSign_one, fEq_str, fEq_int, fLe_int, fLt_int, fGt_int, fAdd_int, fSub_int, fNeg_int])

/-! ### texts as lists of signs -/
def joinL (sep : List Nat) : List (List Nat) → List Nat
  | [] => []
  | [x] => x
  | x :: y :: r => x ++ sep ++ joinL sep (y :: r)
theorem join_toList (y : Str) : ∀ ps : List Str, (Str.join y ps).cps.toList = joinL y.cps.toList (ps.map fun p => p.cps.toList)
  | [] => rfl
  | [x] => rfl
  | x :: z :: r => by
    show (x ++ y ++ Str.join y (z :: r)).cps.toList = _
    rw [toList_app, toList_app, join_toList y (z :: r)]
    rfl
theorem joinL_mem_le (sep : List Nat) : ∀ (ps : List (List Nat)) (p : List Nat), p ∈ ps → p.length ≤ (joinL sep ps).length
  | [], _, h => by cases h
  | [x], p, h => by
    rw [List.mem_singleton.mp h]
    exact Nat.le_refl _
  | x :: y :: r, p, h => by
    show p.length ≤ (x ++ sep ++ joinL sep (y :: r)).length
    rw [List.length_append, List.length_append]
    rcases List.mem_cons.mp h with e | h
    · rw [e]; omega
    · have := joinL_mem_le sep (y :: r) p h
      omega
theorem joinL_sub (sep : List Nat) : ∀ (ps : List (List Nat)) (p : List Nat), p ∈ ps → ∀ q ∈ p, q ∈ joinL sep ps
  | [], _, h, _, _ => by cases h
  | [x], p, h, q, hq => by
    rw [List.mem_singleton.mp h] at hq
    exact hq
  | x :: y :: r, p, h, q, hq => by
    show q ∈ x ++ sep ++ joinL sep (y :: r)
    rcases List.mem_cons.mp h with e | h
    · rw [e] at hq
      exact List.mem_append_left _ (List.mem_append_left _ hq)
    · exact List.mem_append_right _ (joinL_sub sep (y :: r) p h q hq)
theorem cut_at (c : Nat) : ∀ (a b s t : List Nat), c ∉ a → c ∉ b → a ++ c :: s = b ++ c :: t → a = b ∧ s = t
  | [], [], s, t, _, _, h => ⟨rfl, (List.cons.inj h).2⟩
  | [], y :: b, s, t, _, hb, h => by
    have e := (List.cons.inj h).1
    exact absurd (e ▸ List.mem_cons_self) hb
  | x :: a, [], s, t, ha, _, h => by
    have e := (List.cons.inj h).1
    exact absurd (e ▸ List.mem_cons_self) ha
  | x :: a, y :: b, s, t, ha, hb, h => by
    have h' := List.cons.inj h
    obtain ⟨e1, e2⟩ := cut_at c a b s t (fun z => ha (List.mem_cons_of_mem _ z)) (fun z => hb (List.mem_cons_of_mem _ z)) h'.2
    exact ⟨by rw [h'.1, e1], e2⟩
theorem joinL_inj (c : Nat) : ∀ (as bs : List (List Nat)), as ≠ [] → bs ≠ [] → (∀ a ∈ as, c ∉ a) → (∀ b ∈ bs, c ∉ b) → joinL [c] as = joinL [c] bs → as = bs
  | [], _, h, _, _, _, _ => (h rfl).elim
  | _, [], _, h, _, _, _ => (h rfl).elim
  | [a], [b], _, _, _, _, h => by
    have e : a = b := h
    rw [e]
  | [a], b :: b2 :: bs, _, _, ha, _, h => by
    have h' : a = b ++ [c] ++ joinL [c] (b2 :: bs) := h
    exact absurd (show c ∈ a by rw [h']; simp) (ha a List.mem_cons_self)
  | a :: a2 :: as, [b], _, _, _, hb, h => by
    have h' : a ++ [c] ++ joinL [c] (a2 :: as) = b := h
    exact absurd (show c ∈ b by rw [← h']; simp) (hb b List.mem_cons_self)
  | a :: a2 :: as, b :: b2 :: bs, _, _, ha, hb, h => by
    have h' : a ++ [c] ++ joinL [c] (a2 :: as) = b ++ [c] ++ joinL [c] (b2 :: bs) := h
    rw [List.append_assoc, List.append_assoc] at h'
    obtain ⟨e1, e2⟩ := cut_at c a b _ _ (ha a List.mem_cons_self) (hb b List.mem_cons_self) h'
    have ih := joinL_inj c (a2 :: as) (b2 :: bs) (fun z => nomatch z) (fun z => nomatch z) (fun x hx => ha x (List.mem_cons_of_mem _ hx)) (fun x hx => hb x (List.mem_cons_of_mem _ hx)) e2
    rw [e1, ih]
theorem dot_is : (("." : Str)) = ⟨#[46]⟩ := by decide +kernel
theorem map_toList_inj : ∀ {as bs : List Str}, (as.map fun p => p.cps.toList) = (bs.map fun p => p.cps.toList) → as = bs
  | [], [], _ => rfl
  | [], b :: bs, h => nomatch h
  | a :: as, [], h => nomatch h
  | a :: as, b :: bs, h => by
    rw [List.map_cons, List.map_cons] at h
    have h' := List.cons.inj h
    rw [str_ext h'.1, map_toList_inj h'.2]
theorem split_join {ss : List Str} (hne : ss ≠ []) (hd : ∀ s ∈ ss, 46 ∉ s.cps.toList) (h0 : Str.join "." ss ≠ Str.empty) : Txt.split (Str.join "." ss) "." = ss := by
  have e := StrLaws.join_split (Str.join "." ss) "."
  have hf : ∀ p ∈ Txt.split (Str.join "." ss) ".", 46 ∉ p.cps.toList := by
    rw [dot_is]
    exact StrLaws.split_free _ 46
  have hn : Txt.split (Str.join "." ss) "." ≠ [] := by
    intro z
    rw [z] at e
    exact h0 e.symm
  refine map_toList_inj (joinL_inj 46 _ _ ?_ ?_ ?_ ?_ ?_)
  · intro z
    exact hn (List.map_eq_nil_iff.mp z)
  · intro z
    exact hne (List.map_eq_nil_iff.mp z)
  · intro a ha
    obtain ⟨p, hp, rfl⟩ := List.mem_map.mp ha
    exact hf p hp
  · intro a ha
    obtain ⟨p, hp, rfl⟩ := List.mem_map.mp ha
    exact hd p hp
  · have e2 := congrArg (fun s : Str => s.cps.toList) e
    rw [join_toList, join_toList, dot_is] at e2
    exact e2
theorem split_le {x p : Str} (h : p ∈ Txt.split x ".") : p.length ≤ x.length := by
  have e := StrLaws.join_split x "."
  have e2 := congrArg (fun s : Str => s.cps.toList) e
  rw [join_toList] at e2
  have := joinL_mem_le ("." : Str).cps.toList ((Txt.split x ".").map fun p : Str => p.cps.toList) p.cps.toList (List.mem_map.mpr ⟨p, h, rfl⟩)
  rw [e2] at this
  exact this
theorem split_ok {x p : Str} (hx : okS x) (h : p ∈ Txt.split x ".") : okS p := by
  have e := StrLaws.join_split x "."
  have e2 := congrArg (fun s : Str => s.cps.toList) e
  rw [join_toList] at e2
  intro q hq
  have := joinL_sub ("." : Str).cps.toList ((Txt.split x ".").map fun p : Str => p.cps.toList) p.cps.toList (List.mem_map.mpr ⟨p, h, rfl⟩) q hq
  rw [e2] at this
  exact hx q this
/-! ### cuts of texts -/
theorem cutS_toList (z : Str) (lo hi : Option Int) : (cutS z lo hi).cps.toList = cutD z.cps.toList lo hi := by
  unfold cutS cutD
  rfl
theorem cutD_last {α : Type} (l : List α) (x : α) : cutD (l ++ [x]) none (some (-1)) = l := by
  unfold cutD
  have h1 : HT.sIx (l ++ [x]).length 0 none = 0 := HT.sIx_none _ _
  have h2 : HT.sIx (l ++ [x]).length (l ++ [x]).length (some (-1)) = l.length := by
    simp [HT.sIx]
    omega
  rw [h1, h2, List.drop_zero, Nat.sub_zero]
  exact List.take_left
theorem endswith_dot (s : Str) : Txt.endswith s "." = decide (s.cps.toList.getLast? = some 46) := by
  obtain ⟨a⟩ := s
  obtain ⟨l⟩ := a
  show (decide (0 + 1 ≤ l.length) && (l.toArray.extract (l.length - 1) (l.length - 1 + 1) == #[46])) = _
  rcases List.eq_nil_or_concat l with rfl | ⟨r, q, rfl⟩
  · rfl
  · rw [List.concat_eq_append]
    have e : ((r ++ [q]).toArray.extract ((r ++ [q]).length - 1) ((r ++ [q]).length - 1 + 1)) = #[q] := by
      apply Array.toList_inj.mp
      simp
    rw [e, List.getLast?_concat, decide_eq_true (by simp : 0 + 1 ≤ (r ++ [q]).length)]
    by_cases h : q = 46
    · subst h; rfl
    · rw [decide_eq_false (by simpa using h)]
      simp [h]
/-! ### name_of -/
def nameS (s : Str) : Option (List Str) := if s.cps.toList.getLast? = some 46 then (if s = "." then some [] else if isNameS (Txt.split (cutS s none (some (-1))) ".") = true then some (Txt.split (cutS s none (some (-1))) ".") else none) else none
theorem okN_strs {μ : Store} {ss : List Str} (h : ∀ s ∈ ss, s.length ≤ 100000 ∧ okS s) : OkN μ (.tup (ss.map .str)) := by
  refine .inl ⟨_, rfl, fun e he => ?_⟩
  obtain ⟨s, hs, rfl⟩ := List.mem_map.mp he
  exact .inl ⟨s, rfl, h s hs⟩
theorem cutS_len (z : Str) (lo hi : Option Int) : (cutS z lo hi).length ≤ z.length := cutS_length z lo hi
theorem cutS_ok {z : Str} (h : okS z) (lo hi : Option Int) : okS (cutS z lo hi) := by
  intro q hq
  rw [cutS_toList] at hq
  exact h q (List.mem_of_mem_drop (List.mem_of_mem_take hq))
theorem parts_ok {s : Str} (hl : s.length ≤ 10000) (hk : okS s) : ∀ p ∈ Txt.split (cutS s none (some (-1))) ".", p.length ≤ 100000 ∧ okS p := fun p hp => by
  have h1 := split_le hp
  have h2 := cutS_len s none (some (-1))
  exact ⟨by omega, split_ok (cutS_ok hk _ _) hp⟩
theorem split_eval {s : Str} (hl : s.length ≤ 10000) (μ : Store) : fSplit (.str (cutS s none (some (-1)))) (.str ".") μ = .ok (.cell μ.length) (μ ++ [.lst ((Txt.split (cutS s none (some (-1))) ".").map .str)]) := by
  unfold fSplit
  dsimp only
  have h2 := cutS_len s none (some (-1))
  have hs := sl16
  rw [if_pos (show (("." : Str).length == 0) = false ∧ (cutS s none (some (-1))).length + 2 ≤ sizeLine from ⟨rfl, by omega⟩)]
  rfl
/-- there and back -/
theorem text_toList {ss : List Str} (h : ss ≠ []) : (textS ss).cps.toList = joinL [46] (ss.map fun p => p.cps.toList) ++ [46] := by
  unfold textS
  rw [if_neg (by cases ss with | nil => exact (h rfl).elim | cons _ _ => exact Bool.false_ne_true)]
  rw [show Txt.join "" (ss.map dotted) = Str.join "" (ss.map dotted) from StrLaws.glued_eq_join _ _, join_toList]
  have e0 : ("" : Str).cps.toList = [] := rfl
  rw [e0, List.map_map]
  induction ss with
  | nil => exact (h rfl).elim
  | cons s r ih =>
    cases r with
    | nil =>
      show (dotted s).cps.toList = s.cps.toList ++ [46]
      unfold dotted
      rw [toList_app]
      rfl
    | cons t r =>
      have ih' := ih (fun z => nomatch z)
      show (dotted s).cps.toList ++ [] ++ joinL [] ((t :: r).map ((fun p : Str => p.cps.toList) ∘ dotted)) = s.cps.toList ++ [46] ++ joinL [46] ((t :: r).map fun p : Str => p.cps.toList) ++ [46]
      rw [ih']
      unfold dotted
      rw [toList_app]
      simp
      rfl
theorem name_text {ss : List Str} (h : isNameS ss = true) : nameS (textS ss) = some ss := by
  cases ss with
  | nil => decide +kernel
  | cons s r =>
    have hne : s :: r ≠ [] := fun z => nomatch z
    have e := text_toList hne
    have hl := label_len (isNameS_lab h s List.mem_cons_self)
    have hj : joinL [46] ((s :: r).map fun p => p.cps.toList) ≠ [] := by
      intro z
      have := joinL_mem_le [46] ((s :: r).map fun p => p.cps.toList) s.cps.toList (by simp)
      rw [z, len_toList] at this
      simp at this
      omega
    unfold nameS
    rw [if_pos (by rw [e, List.getLast?_concat]), if_neg (fun z => by
      rw [z] at e
      have e2 : ("." : Str).cps.toList = [] ++ [46] := rfl
      rw [e2] at e
      exact hj (List.append_inj_left' e rfl).symm)]
    have ec : cutS (textS (s :: r)) none (some (-1)) = Str.join "." (s :: r) := by
      apply str_ext
      rw [cutS_toList, e, cutD_last, join_toList]
      rfl
    rw [ec, split_join hne (fun t ht => label_dot (isNameS_lab h t ht)) (fun z => by
      have := congrArg (fun s : Str => s.cps.toList) z
      rw [join_toList] at this
      exact hj this), if_pos h]
end Nh

namespace Nh
open PySem PySem.Spec PyProof.Rows L2
local macro_rules | `(tactic| walk_at "nwp") => `(tactic| try simp only [wp_bind, wp_ok, wp_nrR, wps_toS, wps_nx, wps_rt, wps_seq, wp_run, wps_if, wp_if, wp_tAnd, wp_tOr, wp_tNot, startD, List.map_cons, List.map_nil, List.length_cons, List.length_nil, Nat.reduceAdd, Nat.reduceSub, List.replicate_succ, List.replicate_zero, List.cons_append, List.nil_append, List.getElem?_cons_zero, List.getElem?_cons_succ, List.set_cons_zero, List.set_cons_succ,
  asB, mVar, mC, mOp, mCB, maCons, maNil, mCall, msRet, msAsg, mgName, msDrop, msNext, msRaise, mTup, mChain, mUn, if_true, if_false, Bool.not_true, Bool.not_false, Bool.false_eq_true, reduceIte, Nat.reduceEqDiff, Nat.reduceLeDiff,
  eq_self_iff_true, true_and, isA_str, inSign_star, inSign_one, notInSign_one, fEq_str, fEq_int, fLe_int, fLt_int, fGt_int, fAdd_int, fSub_int, fNeg_int])

/-! ### loops -/
theorem forLoop_inv {s : Src} {g : MG} {b : MS} {P : Ps} {items : List Dat} (hn : s.n = items.length) (hget : ∀ i μ, s.get i μ = items[i]?) (hfin : ∀ μ, s.fin μ = true) (I : Nat → Env → Store → Prop)
    (step : ∀ (i : Nat) (d : Dat) (δ : Env) (μ : Store), items[i]? = some d → I i δ μ → ∃ δ1, g d δ = some δ1 ∧ wps (b δ1 μ) { nx := I (i + 1), ct := I (i + 1), rt := P.rt, bk := P.nx, ra := P.ra }) (hd : ∀ δ μ, I items.length δ μ → P.nx δ μ) :
    ∀ (r i : Nat) (δ : Env) (μ : Store), i + r = items.length → I i δ μ → wps (forLoop s g b r i δ μ) P := by
  intro r
  induction r with
  | zero =>
    intro i δ μ hi h
    unfold forLoop
    rw [if_pos (hfin _)]
    have e : i = items.length := by omega
    subst e
    exact hd _ _ h
  | succ r ih =>
    intro i δ μ hi h
    have hlt : i < items.length := by omega
    obtain ⟨δ1, h1, h2⟩ := step i items[i] δ μ (List.getElem?_eq_getElem hlt) h
    unfold forLoop
    rw [hget, List.getElem?_eq_getElem hlt, Option.bind_some, h1]
    dsimp only
    cases hb : b δ1 μ with
    | nx δ' μ' => rw [hb] at h2; exact ih (i + 1) δ' μ' (by omega) h2
    | ct δ' μ' => rw [hb] at h2; exact ih (i + 1) δ' μ' (by omega) h2
    | bk δ' μ' => rw [hb] at h2; exact h2
    | rt d μ' => rw [hb] at h2; exact h2
    | raise n δ' μ' => rw [hb] at h2; exact h2
    | stuck => rw [hb] at h2; exact h2
theorem wps_for {src : M Src} {s : Src} {g : MG} {b : MS} {P : Ps} {δ : Env} {μ μ1 : Store} (items : List Dat) (I : Nat → Env → Store → Prop) (hsrc : src δ μ = .ok s μ1) (hn : s.n = items.length) (hget : ∀ i μ, s.get i μ = items[i]?) (hfin : ∀ μ, s.fin μ = true)
    (h0 : I 0 δ μ1) (step : ∀ (i : Nat) (d : Dat) (δ : Env) (μ : Store), items[i]? = some d → I i δ μ → ∃ δ1, g d δ = some δ1 ∧ wps (b δ1 μ) { nx := I (i + 1), ct := I (i + 1), rt := P.rt, bk := P.nx, ra := P.ra })
    (hd : ∀ δ μ, I items.length δ μ → P.nx δ μ) : wps (msFor src g b δ μ) P := by
  unfold msFor
  rw [hsrc]
  exact forLoop_inv hn hget hfin I step hd s.n 0 δ μ1 (by omega) h0
theorem lcLoop_inv {s : Src} {mg : MG} {me : M Dat} {δ0 : Env} {L : Nat} {items : List Dat} (hn : s.n = items.length) (hget : ∀ i μ', s.get i μ' = items[i]?) (hfin : ∀ μ', s.fin μ' = true) (hlen : items.length < sizeLine) (I : Nat → List Dat → Store → Prop)
    (step : ∀ (i : Nat) (d : Dat) (acc : List Dat) (μ : Store), items[i]? = some d → I i acc μ → acc.length = i → ∃ δ1, mg d δ0 = some δ1 ∧ wp (me δ1 μ) fun y μ4 => μ4[L]? = some (.lst acc) ∧ I (i + 1) (acc ++ [y]) (μ4.set L (.lst (acc ++ [y])))) :
    ∀ (r i : Nat) (acc : List Dat) (μ : Store), i + r = items.length → acc.length = i → I i acc μ → ∃ acc' μ', lcLoop s mg mYes me δ0 L r i μ = .ok () μ' ∧ acc'.length = items.length ∧ I items.length acc' μ' := by
  intro r
  induction r with
  | zero =>
    intro i acc μ hi ha h
    refine ⟨acc, μ, ?_, by omega, by rw [show items.length = i by omega]; exact h⟩
    unfold lcLoop
    rw [if_pos (hfin _)]
  | succ r ih =>
    intro i acc μ hi ha h
    have hlt : i < items.length := by omega
    obtain ⟨δ1, h1, h2⟩ := step i items[i] acc μ (List.getElem?_eq_getElem hlt) h ha
    unfold lcLoop
    rw [hget, List.getElem?_eq_getElem hlt, Option.bind_some, h1]
    dsimp only [mYes, nrR, Res.bind]
    rw [if_pos rfl]
    cases hme : me δ1 μ with
    | ok y μ4 =>
      rw [hme] at h2
      obtain ⟨h3, h4⟩ := h2
      dsimp only [nrR, Res.bind]
      rw [h3]
      dsimp only
      rw [if_pos (by omega)]
      exact ih (i + 1) (acc ++ [y]) _ (by omega) (by rw [List.length_append, List.length_singleton]; omega) h4
    | raise n μ4 => rw [hme] at h2; exact h2.elim
    | stuck => rw [hme] at h2; exact h2.elim
theorem wp_lc_inv {src : M Src} {s : Src} {mg : MG} {me : M Dat} {vs : List Nat} {δ : Env} {μ : Store} {Q : Dat → Store → Prop} {R : Nat → Store → Prop} (items : List Dat) (I : Nat → List Dat → Store → Prop) (hsrc : src δ μ = .ok s μ)
    (hn : s.n = items.length) (hget : ∀ i μ', s.get i μ' = items[i]?) (hfin : ∀ μ', s.fin μ' = true) (hlen : items.length < sizeLine) (h0 : I 0 [] (μ ++ [.lst []]))
    (step : ∀ (i : Nat) (d : Dat) (acc : List Dat) (μ2 : Store), items[i]? = some d → I i acc μ2 → acc.length = i → ∃ δ1, mg d (wipeD δ vs) = some δ1 ∧ wp (me δ1 μ2) fun y μ4 => μ4[μ.length]? = some (.lst acc) ∧ I (i + 1) (acc ++ [y]) (μ4.set μ.length (.lst (acc ++ [y]))))
    (hd : ∀ acc μ2, acc.length = items.length → I items.length acc μ2 → Q (.cell μ.length) μ2) : wp (mLc src mg mYes me vs δ μ) Q R := by
  unfold mLc
  rw [hsrc]
  obtain ⟨acc, μ', e, hl, h⟩ := lcLoop_inv hn hget hfin hlen I step s.n 0 [] (μ ++ [.lst []]) (by omega) rfl h0
  show wp ((lcLoop s mg mYes me (wipeD δ vs) μ.length s.n 0 (μ ++ [.lst []])).bind _) Q R
  rw [e]
  exact hd acc μ' hl h
theorem range_src {j : Int} (h : -(2 ^ 62) ≤ j ∧ j < 2 ^ 62) (δ : Env) (μ : Store) : miRange1 (maCons (mC (.int j)) maNil) δ μ = .ok (srcR 0 j.toNat) μ := by
  unfold miRange1
  show (if -(2 ^ 62) ≤ j ∧ j < 2 ^ 62 then Res.ok (srcR 0 j.toNat) μ else .stuck) = _
  rw [if_pos h]
theorem srcR_get (lo : Int) (n i : Nat) (μ : Store) (h : i < n) : (srcR lo n).get i μ = (rangeD lo n)[i]? := by
  unfold rangeD
  rw [List.getElem?_map, List.getElem?_range h]
  rfl
/-- a range whose items beyond its end are not asked -/
def srcQ (lo : Int) (n : Nat) : Src := ⟨n, fun i _ => (rangeD lo n)[i]?, fun _ => true⟩
theorem rangeD_len (lo : Int) (n : Nat) : (rangeD lo n).length = n := by
  unfold rangeD
  rw [List.length_map, List.length_range]
theorem rangeD_get {lo : Int} {n i : Nat} {d : Dat} (h : (rangeD lo n)[i]? = some d) : i < n ∧ d = .int (lo + i) := by
  unfold rangeD at h
  rw [List.getElem?_map] at h
  by_cases hi : i < n
  · rw [List.getElem?_range hi] at h
    cases h
    exact ⟨hi, rfl⟩
  · rw [List.getElem?_eq_none (by rw [List.length_range]; omega)] at h
    cases h
theorem forLoop_q {lo : Int} {n : Nat} {g : MG} {b : MS} : ∀ (r i : Nat) (δ : Env) (μ : Store), i + r = n → forLoop (srcR lo n) g b r i δ μ = forLoop (srcQ lo n) g b r i δ μ := by
  intro r
  induction r with
  | zero => intro i δ μ _; rfl
  | succ r ih =>
    intro i δ μ hi
    unfold forLoop
    rw [srcR_get lo n i μ (by omega)]
    show _ = (match ((rangeD lo n)[i]?).bind fun d => g d δ with | none => SRes.stuck | some δ1 => _)
    cases ((rangeD lo n)[i]?).bind fun d => g d δ with
    | none => rfl
    | some δ1 =>
      dsimp only
      cases b δ1 μ with
      | nx δ' μ' => exact ih (i + 1) δ' μ' (by omega)
      | ct δ' μ' => exact ih (i + 1) δ' μ' (by omega)
      | _ => rfl
theorem lcLoop_q {lo : Int} {n : Nat} {g : MG} {tt : M Bool} {te : M Dat} {δ : Env} {k : Nat} : ∀ (r i : Nat) (μ : Store), i + r = n → lcLoop (srcR lo n) g tt te δ k r i μ = lcLoop (srcQ lo n) g tt te δ k r i μ := by
  intro r
  induction r with
  | zero => intro i μ _; rfl
  | succ r ih =>
    intro i μ hi
    unfold lcLoop
    rw [srcR_get lo n i μ (by omega)]
    show _ = (match ((rangeD lo n)[i]?).bind fun d => g d δ with | none => Res.stuck | some δ1 => _)
    cases ((rangeD lo n)[i]?).bind fun d => g d δ with
    | none => rfl
    | some δ1 =>
      dsimp only
      cases nrR (tt δ1 μ) with
      | ok b μ1 =>
        dsimp only [Res.bind]
        by_cases hb : b = true
        · rw [if_pos hb, if_pos hb]
          cases nrR (te δ1 μ1) with
          | ok y μ2 =>
            dsimp only [Res.bind]
            cases μ2[k]? with
            | none => rfl
            | some x =>
              cases x with
              | lst acc =>
                dsimp only
                by_cases hz : acc.length < sizeLine
                · rw [if_pos hz, if_pos hz]
                  exact ih (i + 1) _ (by omega)
                · rw [if_neg hz, if_neg hz]
              | _ => rfl
          | _ => rfl
        · rw [if_neg hb, if_neg hb]
          exact ih (i + 1) _ (by omega)
      | _ => rfl
/-- a range stands for its list -/
def miQ (lo : Int) (n : Nat) : M Src := fun _ μ => .ok (srcQ lo n) μ
theorem msFor_q {src : M Src} {lo : Int} {n : Nat} {g : MG} {b : MS} {δ : Env} {μ μ1 : Store} (h : src δ μ = .ok (srcR lo n) μ1) : msFor src g b δ μ = msFor (miQ lo n) g b δ μ1 := by
  unfold msFor
  rw [h]
  exact forLoop_q n 0 δ μ1 (by omega)
theorem mLc_q {src : M Src} {lo : Int} {n : Nat} {g : MG} {tt : M Bool} {te : M Dat} {vs : List Nat} {δ : Env} {μ μ1 : Store} (h : src δ μ = .ok (srcR lo n) μ1) : mLc src g tt te vs δ μ = mLc (miQ lo n) g tt te vs δ μ1 := by
  unfold mLc
  rw [h]
  show (lcLoop (srcR lo n) g tt te (wipeD δ vs) μ1.length n 0 (μ1 ++ [.lst []])).bind _ = (lcLoop (srcQ lo n) g tt te (wipeD δ vs) μ1.length n 0 (μ1 ++ [.lst []])).bind _
  rw [lcLoop_q n 0 _ (by omega)]
/-! ### a list that was just written, at a reckoned place -/
theorem atI_some {α : Type} {l : List α} {i : Int} (h0 : 0 ≤ i) (h1 : i < l.length) : ∃ x, atI l i = some x ∧ x ∈ l := by
  have hi : i.toNat < l.length := by omega
  refine ⟨l[i.toNat], ?_, List.getElem_mem hi⟩
  have e : ((i.toNat : Nat) : Int) = i := by omega
  have q := atI_nat (List.getElem?_eq_getElem hi)
  rw [e] at q
  exact q
theorem fIxL_new {μ : Store} {ds : List Dat} {i : Int} (h0 : 0 ≤ i) (h1 : i < ds.length) : ∃ d, fIxL (.cell μ.length) (.int i) (μ ++ [.lst ds]) = .ok d (μ ++ [.lst ds]) ∧ d ∈ ds := by
  obtain ⟨d, e, hm⟩ := atI_some h0 h1
  refine ⟨d, ?_, hm⟩
  simp only [fIxL, lstAt, getElem?_mid, e]
theorem fIxL_at {μ : Store} {k : Nat} {ds : List Dat} {i : Int} (hk : μ[k]? = some (.lst ds)) (h0 : 0 ≤ i) (h1 : i < ds.length) : ∃ d, fIxL (.cell k) (.int i) μ = .ok d μ ∧ d ∈ ds := by
  obtain ⟨d, e, hm⟩ := atI_some h0 h1
  refine ⟨d, ?_, hm⟩
  simp only [fIxL, lstAt, hk, e]
/-! ### draws -/
def D (ns : List Int) (k : Nat) : Cell := .dict [(.inr "cells", .ro ns), (.inr "at", .int k)]
theorem look_at (a b : Dat) : lookD [(.inr "cells", a), (.inr "at", b)] (.inr "at") = some b := by rfl
theorem look_cells (a b : Dat) : lookD [(.inr "cells", a), (.inr "at", b)] (.inr "cells") = some a := by rfl
theorem put_at (a b d : Dat) : putD [(.inr "cells", a), (.inr "at", b)] (.inr "at") d = [(.inr "cells", a), (.inr "at", d)] := by rfl
theorem cell_at_spec {ns : List Int} {k : Int} (h0 : 0 ≤ k) (μ : Store) : wp (f__law_cell_at [.ro ns, .int k] μ) fun d μ' => (∃ i : Int, d = .int i) ∧ μ' = μ := by
  refine wp_nr ?_
  rw [wp_run]
  unfold b__law_cell_at
  walk_at "nwp"
  rw [show fLenQ [.ro ns] μ = .ok (.int (ns.length : Int)) μ from by
    show Res.ok (Dat.int ((ns.map Dat.int).length : Int)) μ = _
    rw [List.length_map]]
  walk_at "nwp"
  by_cases h : k < (ns.length : Int)
  · rw [decide_eq_true h]
    walk_at "nwp"
    obtain ⟨d, e, hm⟩ := atI_some (l := ns.map Dat.int) h0 (by rw [List.length_map]; exact h)
    rw [show fIxL (.ro ns) (.int k) μ = .ok d μ from by simp only [fIxL, lstAt, e]]
    obtain ⟨i, _, rfl⟩ := List.mem_map.mp hm
    exact ⟨⟨i, rfl⟩, rfl⟩
  · rw [decide_eq_false h]
    walk_at "nwp"
    exact ⟨⟨0, rfl⟩, by first | rfl | trivial⟩
theorem next_spec {ns : List Int} {k : Nat} (hk : k ≤ 100000) (r : Store) : wp (f__law_next [.cell 0] (D ns k :: r)) fun d μ' => ∃ n : Int, d = .int n ∧ 0 ≤ n ∧ n < 268435456 ∧ μ' = D ns (k + 1) :: r := by
  refine wp_nr ?_
  rw [wp_run]
  unfold b__law_next msDPut mDGet
  walk_at "nwp"
  dsimp only [keyD, D]
  walk_at "nwp"
  rw [look_at]
  walk_at "nwp"
  rw [if_pos (show 2 < sizeLine by rw [sl16]; omega), put_at]
  walk_at "nwp"
  rw [look_at]
  walk_at "nwp"
  rw [look_cells]
  walk_at "nwp"
  rw [look_cells]
  walk_at "nwp"
  rw [show ∀ μ, fLenQ [.ro ns] μ = .ok (.int (ns.length : Int)) μ from fun μ => by
    show Res.ok (Dat.int ((ns.map Dat.int).length : Int)) μ = _
    rw [List.length_map]]
  walk_at "nwp"
  rw [show ∀ (i j : Int) μ, fMax2 [.int i, .int j] μ = .ok (.int (if j > i then j else i)) μ from fun _ _ _ => rfl]
  walk_at "nwp"
  have hm : 0 < (if (ns.length : Int) > 1 then (ns.length : Int) else 1) := by split <;> omega
  rw [fMod_int hm]
  walk_at "nwp"
  refine wp_imp (cell_at_spec (Int.emod_nonneg _ (by omega)) _) ?_
  rintro d μ' ⟨⟨i, rfl⟩, rfl⟩
  walk_at "nwp"
  rw [fMul_int (.inr (by omega))]
  walk_at "nwp"
  rw [fMul_int (.inl (by omega))]
  walk_at "nwp"
  rw [fMul_int (.inr (by omega))]
  walk_at "nwp"
  rw [fMod_int (by omega)]
  walk_at "nwp"
  rw [fDiv_int (by omega)]
  refine ⟨_, rfl, ?_, ?_, ?_⟩
  · have := Int.emod_nonneg (i * 48271 + (k + 1 : Int) * (k + 1) * 69621) (show (2147483647 : Int) ≠ 0 by omega)
    omega
  · have := Int.emod_lt_of_pos (i * 48271 + (k + 1 : Int) * (k + 1) * 69621) (show (0 : Int) < 2147483647 by omega)
    omega
  · rfl
end Nh

namespace Nh
open PySem PySem.Spec PyProof.Rows L2
local macro_rules | `(tactic| walk_at "nwp") => `(tactic| try simp only [wp_bind, wp_ok, wp_nrR, wps_toS, wps_nx, wps_rt, wps_seq, wp_run, wps_if, wp_if, wp_tAnd, wp_tOr, wp_tNot, startD, List.map_cons, List.map_nil, List.length_cons, List.length_nil, Nat.reduceAdd, Nat.reduceSub, List.replicate_succ, List.replicate_zero, List.cons_append, List.nil_append, List.getElem?_cons_zero, List.getElem?_cons_succ, List.set_cons_zero, List.set_cons_succ,
  asB, mVar, mC, mOp, mCB, maCons, maNil, mCall, msRet, msAsg, mgName, msDrop, msNext, msRaise, mTup, mChain, mUn, if_true, if_false, Bool.not_true, Bool.not_false, Bool.false_eq_true, reduceIte, Nat.reduceEqDiff, Nat.reduceLeDiff,
  eq_self_iff_true, true_and, isA_str, inSign_star, inSign_one, notInSign_one, fEq_str, fEq_int, fLe_int, fLt_int, fGt_int, fAdd_int, fSub_int, fNeg_int])

/-! ### the drawn labels -/
def SG : Str := "abcdefghijklmnopqrstuvwxyz0123456789-"
theorem SG_len : SG.cps.toList.length = 37 := by decide +kernel
theorem SG_ok : ∀ q ∈ SG.cps.toList, q < 0x110000 ∧ q ≠ 42 ∧ q ∈ ("abcdefghijklmnopqrstuvwxyz0123456789-*" : Str).cps.toList := by decide +kernel
def allSG (l : List Nat) : Prop := ∀ q ∈ l, q ∈ SG.cps.toList
def GL (l : Str) : Prop := 1 ≤ l.length ∧ l.length ≤ 8 ∧ allSG l.cps.toList
theorem GL.label {l : Str} (h : GL l) : isLabelS l = true := by
  obtain ⟨h1, h2, h3⟩ := h
  unfold isLabelS
  rw [if_pos ⟨h1, h2⟩, if_neg (fun z => (SG_ok 42 (h3 42 z)).2.1 rfl)]
  exact List.all_eq_true.mpr fun q hq => decide_eq_true (SG_ok q (h3 q hq)).2.2
theorem GL.ok {l : Str} (h : GL l) : okS l := label_ok h.label
theorem GL.star {l : Str} (h : GL l) : l ≠ "*" := fun z => by
  subst z
  exact (SG_ok 42 (h.2.2 42 (by decide +kernel))).2.1 rfl
theorem signs_is (μ : Store) : f__law_signs [] μ = .ok (.str SG) μ := rfl
/-- one sign of the drawn ones -/
theorem sign_at {i : Int} (h0 : 0 ≤ i) (h1 : i < 37) (μ : Store) : ∃ q, fIxS (.str SG) (.int i) μ = .ok (.str ⟨#[q]⟩) μ ∧ q ∈ SG.cps.toList := by
  obtain ⟨q, e, hq⟩ := atI_some (l := SG.cps.toList) h0 (by rw [SG_len]; exact h1)
  refine ⟨q, ?_, hq⟩
  unfold fIxS
  dsimp only
  rw [if_pos (by rw [sl16]; decide +kernel), e]
def sgn (n : Int) (i : Int) : Nat := (atI SG.cps.toList ((n / 11 + 17 * i * i + 5 * i) % 37)).getD 0
theorem sgn_at (n i : Int) (μ : Store) : fIxS (.str SG) (.int ((n / 11 + 17 * i * i + 5 * i) % 37)) μ = .ok (.str ⟨#[sgn n i]⟩) μ ∧ sgn n i ∈ SG.cps.toList := by
  have h0 := Int.emod_nonneg (n / 11 + 17 * i * i + 5 * i) (show (37 : Int) ≠ 0 by omega)
  have h1 := Int.emod_lt_of_pos (n / 11 + 17 * i * i + 5 * i) (show (0 : Int) < 37 by omega)
  obtain ⟨q, e, hq⟩ := atI_some (l := SG.cps.toList) h0 (by rw [SG_len]; exact h1)
  unfold sgn
  rw [e]
  refine ⟨?_, hq⟩
  unfold fIxS
  dsimp only
  rw [if_pos (by rw [sl16]; decide +kernel), e]
  rfl
theorem joinL_ones : ∀ qs : List Nat, joinL [] (qs.map fun q => [q]) = qs
  | [] => rfl
  | [q] => rfl
  | q :: p :: r => by
    show [q] ++ [] ++ joinL [] ((p :: r).map fun q => [q]) = _
    rw [joinL_ones (p :: r)]
    rfl
theorem label_spec {n z : Int} {m : Nat} (hz : z = m) (hm : m ≤ 8) (μ : Store) : wp (f__law_label [.int n, .int z] μ) fun d μ' => (∃ l : Str, d = .str l ∧ l.length = m ∧ allSG l.cps.toList) ∧ ∃ g, μ' = μ ++ g := by
  refine wp_nr ?_
  rw [wp_run]
  unfold b__law_label
  walk_at "nwp"
  rw [signs_is]
  walk_at "nwp"
  unfold mM1
  walk_at "nwp"
  rw [mLc_q (lo := 0) (n := m) (μ1 := μ) (by
    have e := range_src (j := z) (by omega) [some (.int n), some (.int z), some (.str SG), none] μ
    rw [show z.toNat = m by omega] at e
    exact e)]
  refine wp_lc_map (s := srcQ 0 m) (rangeD 0 m) (fun _ => true) (fun d => match d with | .int i => .str ⟨#[sgn n i]⟩ | _ => .non) rfl (rangeD_len _ _).symm (fun _ _ => rfl) (fun _ => rfl) (by rw [sl16, rangeD_len]; omega) (fun i d g acc hd => ?_) fun g => ?_
  · obtain ⟨hi, rfl⟩ := rangeD_get hd
    refine ⟨_, rfl, rfl, g, rfl, fun _ => ?_⟩
    dsimp only [wipeD]
    walk_at "nwp"
    have hi' : (0 : Int) + (i : Nat) < 8 := by omega
    have hi0 : (0 : Int) ≤ 0 + (i : Nat) := by omega
    generalize (0 : Int) + (i : Nat) = j at hi' hi0 ⊢
    rw [fDiv_int (by omega)]
    walk_at "nwp"
    rw [fMul_int (.inl (by omega))]
    walk_at "nwp"
    rw [fMul_int (.inr (by omega))]
    walk_at "nwp"
    rw [fMul_int (.inl (by omega))]
    walk_at "nwp"
    rw [fMod_int (by omega)]
    walk_at "nwp"
    rw [(sgn_at n j _).1]
    exact ⟨rfl, g, rfl⟩
  · have e1 : ((rangeD 0 m).filter fun _ => true).map (fun d => match d with | .int i => Dat.str ⟨#[sgn n i]⟩ | _ => .non) = (((List.range m).map fun i => sgn n (0 + (i : Nat))).map fun q => (⟨#[q]⟩ : Str)).map Dat.str := by
      rw [filter_yes]
      unfold rangeD
      rw [List.map_map, List.map_map, List.map_map]
      rfl
    rw [e1, fJoin_mid "" rfl (by
      have : ∀ qs : List Nat, ((qs.map fun q => (⟨#[q]⟩ : Str)).map (·.length)).sum = qs.length := by
        intro qs
        induction qs with
        | nil => rfl
        | cons q r ih =>
          rw [List.map_cons, List.map_cons, List.sum_cons, ih, List.length_cons]
          show 1 + r.length = r.length + 1
          omega
      rw [this, List.length_map, List.length_map, List.length_range]
      have : ("" : Str).length = 0 := rfl
      rw [this]
      omega)]
    have e2 : (Txt.join "" (((List.range m).map fun i => sgn n (0 + (i : Nat))).map fun q => (⟨#[q]⟩ : Str))).cps.toList = (List.range m).map fun i => sgn n (0 + (i : Nat)) := by
      rw [show ∀ ps, Txt.join "" ps = Str.join "" ps from fun ps => StrLaws.glued_eq_join _ _, join_toList, List.map_map]
      exact joinL_ones _
    refine ⟨⟨_, rfl, ?_, ?_⟩, _, rfl⟩
    · rw [← len_toList, e2, List.length_map, List.length_range]
    · rw [e2]
      intro q hq
      obtain ⟨i, _, rfl⟩ := List.mem_map.mp hq
      exact (sgn_at n _ []).2
/-! ### the store of the law's own functions -/
section
variable {ns : List Int} {k : Nat} {r g h : Store} {j : Nat} {x : Cell}
theorem get_r : (D ns k :: (r ++ g))[r.length + j + 1]? = g[j]? := by
  rw [List.getElem?_cons_succ, List.getElem?_append_right (by omega)]
  congr 1
  omega
theorem set_r : (D ns k :: (r ++ g)).set (r.length + j + 1) x = D ns k :: (r ++ g.set j x) := by
  rw [List.set_cons_succ, List.set_append_right _ _ (by omega)]
  congr 3
  omega
theorem len_r : (D ns k :: (r ++ g)).length = r.length + g.length + 1 := by
  rw [List.length_cons, List.length_append]
theorem app_r : (D ns k :: (r ++ g)) ++ h = D ns k :: (r ++ (g ++ h)) := by
  rw [List.cons_append, List.append_assoc]
end
theorem fIxL_r {ns : List Int} {k : Nat} {r g : Store} {j : Nat} {ds : List Dat} {i : Int} (hg : g[j]? = some (.lst ds)) (h0 : 0 ≤ i) (h1 : i < ds.length) : ∃ d, fIxL (.cell (r.length + j + 1)) (.int i) (D ns k :: (r ++ g)) = .ok d (D ns k :: (r ++ g)) ∧ d ∈ ds :=
  fIxL_at (by rw [get_r]; exact hg) h0 h1
theorem fAppend_r {ns : List Int} {k : Nat} {r g : Store} {j : Nat} {es : List Dat} {y : Dat} (hg : g[j]? = some (.lst es)) (hz : es.length < 1000) : fAppend (.cell (r.length + j + 1)) [y] (D ns k :: (r ++ g)) = .ok .non (D ns k :: (r ++ g.set j (.lst (es ++ [y])))) := by
  simp only [fAppend, get_r, hg]
  rw [if_pos (by rw [sl16]; omega), set_r]
theorem cutD_both {α : Type} (l : List α) (a b : Nat) : cutD l (some (a : Int)) (some (b : Int)) = (l.drop (min a l.length)).take (min b l.length - min a l.length) := by
  unfold cutD
  rw [HT.sIx_nat l.length 0 a, HT.sIx_nat l.length l.length b]
theorem fSlS_eq {s : Str} {lo hi : Option Int} (h : s.length ≤ 10000) (μ : Store) : fSlS (.str s) lo hi μ = .ok (.str (cutS s lo hi)) μ := by
  unfold fSlS
  dsimp only
  rw [if_pos (by rw [sl16]; omega)]
theorem allSG.app {a b : List Nat} (h1 : allSG a) (h2 : allSG b) : allSG (a ++ b) := fun q hq => by
  rcases List.mem_append.mp hq with h | h
  · exact h1 q h
  · exact h2 q h
theorem allSG.cut {s : Str} (h : allSG s.cps.toList) (lo hi : Option Int) : allSG (cutS s lo hi).cps.toList := fun q hq => by
  rw [cutS_toList] at hq
  exact h q (List.mem_of_mem_drop (List.mem_of_mem_take hq))
theorem allSG.one {q : Nat} (h : q ∈ SG.cps.toList) : allSG (⟨#[q]⟩ : Str).cps.toList := fun p hp => by
  have : p = q := by simpa using hp
  rw [this]
  exact h
theorem labels_turn {ns : List Int} {r g : Store} {k jj : Nat} {base : Str} {ls : List Str} {x4 x5 x6 x7 : Option Dat} {i : Dat} (hb : base.length = 8) (hbs : allSG base.cps.toList) (hk : k ≤ 90000) (hg : g[jj]? = some (.lst (ls.map .str))) (hl : ls.length ≤ 10) {P : Ps}
    (hP : ∀ (l : Str) (g' : Store) (y4 y5 y6 y7 : Option Dat), GL l → g'[jj]? = some (.lst ((ls ++ [l]).map .str)) → P.nx [some (.cell 0), some (.str base), some (.cell (r.length + jj + 1)), some i, y4, y5, y6, y7] (D ns (k + 1) :: (r ++ g'))) :
    wps ((msSeq (msAsg (mCall 1 f__law_next (maCons (mVar 0) maNil)) (mgName 4))
  (msSeq (msAsg (mOp fIxL (mLst (maCons (mC (.int 1)) (maCons (mC (.int 8)) (maCons (mOp fAdd (mC (.int 1)) (mOp fMod (mOp fDiv (mVar 4) (mC (.int 5))) (mC (.int 8)))) (maCons (mC (.int 3)) (maCons (mC (.int 2)) maNil)))))) (mOp fMod (mVar 4) (mC (.int 5)))) (mgName 5))
  (msSeq (msAsg (mOp fMod (mOp fDiv (mVar 4) (mC (.int 40))) (mVar 5)) (mgName 6))
  (msSeq (msAsg (mOp fIxS (mCall 0 f__law_signs maNil) (mOp fMod (mOp fDiv (mVar 4) (mC (.int 320))) (mC (.int 37)))) (mgName 7))
  (msDrop (mBM fAppend (mVar 2) (maCons (mOp fAddS (mOp fAddS (mSl fSlS (mVar 1) moNone (moPart (mVar 6))) (mVar 7)) (mSl fSlS (mVar 1) (moPart (mOp fAdd (mVar 6) (mC (.int 1)))) (moPart (mVar 5)))) maNil))))))) [some (.cell 0), some (.str base), some (.cell (r.length + jj + 1)), some i, x4, x5, x6, x7] (D ns k :: (r ++ g))) P := by
  walk_at "nwp"
  refine wp_imp (next_spec (by omega) _) ?_
  rintro d μ' ⟨n, rfl, h0, h1, rfl⟩
  walk_at "nwp"
  unfold mLst
  walk_at "nwp"
  rw [fDiv_int (by omega)]
  walk_at "nwp"
  rw [fMod_int (by omega)]
  walk_at "nwp"
  rw [if_pos (by rw [sl16]; omega)]
  unfold allocR
  walk_at "nwp"
  rw [fMod_int (by omega)]
  walk_at "nwp"
  simp only [List.append_assoc, List.length_append]
  obtain ⟨d, e, hd⟩ := fIxL_r (ns := ns) (k := k + 1) (r := r) (g := g ++ [.lst [.int 1, .int 8, .int (1 + n / 5 % 8), .int 3, .int 2]]) (j := g.length) (i := n % 5) getElem?_mid (by omega) (by simp; omega)
  rw [e]
  obtain ⟨sz, rfl, hs1, hs2⟩ : ∃ sz : Int, d = .int sz ∧ 1 ≤ sz ∧ sz ≤ 8 := by
    simp only [List.mem_cons, List.not_mem_nil, or_false] at hd
    rcases hd with rfl | rfl | rfl | rfl | rfl
    · exact ⟨_, rfl, by omega, by omega⟩
    · exact ⟨_, rfl, by omega, by omega⟩
    · exact ⟨_, rfl, by omega, by omega⟩
    · exact ⟨_, rfl, by omega, by omega⟩
    · exact ⟨_, rfl, by omega, by omega⟩
  walk_at "nwp"
  rw [fDiv_int (by omega)]
  walk_at "nwp"
  rw [fMod_int (by omega)]
  walk_at "nwp"
  rw [signs_is]
  walk_at "nwp"
  rw [fDiv_int (by omega)]
  walk_at "nwp"
  rw [fMod_int (by omega)]
  walk_at "nwp"
  have ha0 := Int.emod_nonneg (n / 40) (show sz ≠ 0 by omega)
  have ha1 := Int.emod_lt_of_pos (n / 40) (show 0 < sz by omega)
  obtain ⟨q, eq, hq⟩ := sign_at (i := n / 320 % 37) (by omega) (by omega) (D ns (k + 1) :: (r ++ (g ++ [.lst [.int 1, .int 8, .int (1 + n / 5 % 8), .int 3, .int 2]])))
  rw [eq]
  walk_at "nwp"
  unfold mBM
  walk_at "nwp"
  have hg2 : (g ++ [Cell.lst [.int 1, .int 8, .int (1 + n / 5 % 8), .int 3, .int 2]])[jj]? = some (.lst (ls.map .str)) := get_app hg
  rw [show ∀ k', lstAt (D ns k' :: (r ++ (g ++ [Cell.lst [.int 1, .int 8, .int (1 + n / 5 % 8), .int 3, .int 2]]))) (.cell (r.length + jj + 1)) = some (ls.map .str) from fun k' => by
    simp only [lstAt, get_r, hg2]]
  rw [if_pos (show (some (ls.map Dat.str)).isSome = true from rfl)]
  unfold mSl moPart moNone
  walk_at "nwp"
  generalize hat : n / 40 % sz = at_ at ha0 ha1 ⊢
  obtain ⟨a, rfl⟩ : ∃ a : Nat, at_ = (a : Int) := ⟨at_.toNat, by omega⟩
  obtain ⟨b, rfl⟩ : ∃ b : Nat, sz = (b : Int) := ⟨sz.toNat, by omega⟩
  rw [fSlS_eq (by omega)]
  walk_at "nwp"
  have l1 : (cutS base none (some (a : Int))).length = a := by
    rw [← len_toList, cutS_toList, cutD_to, List.length_take, len_toList, hb]
    omega
  have l2 : (cutS base (some ((a : Int) + 1)) (some (b : Int))).length = b - a - 1 := by
    rw [← len_toList, cutS_toList, show ((a : Int) + 1) = ((a + 1 : Nat) : Int) by omega, cutD_both, List.length_take, List.length_drop, len_toList, hb]
    omega
  have l3 : ((⟨#[q]⟩ : Str)).length = 1 := rfl
  rw [fAddS_str (by rw [sl16, l1, l3]; omega)]
  walk_at "nwp"
  rw [fSlS_eq (by omega)]
  walk_at "nwp"
  rw [fAddS_str (by rw [sl16, len_app, l1, l2, l3]; omega)]
  walk_at "nwp"
  rw [fAppend_r hg2 (by rw [List.length_map]; omega)]
  refine hP (cutS base none (some (a : Int)) ++ ⟨#[q]⟩ ++ cutS base (some ((a : Int) + 1)) (some (b : Int))) _ _ _ _ _ ⟨?_, ?_, ?_⟩ ?_
  · rw [len_app, len_app, l1, l2, l3]; omega
  · rw [len_app, len_app, l1, l2, l3]; omega
  · rw [toList_app, toList_app]
    exact ((hbs.cut _ _).app (allSG.one hq)).app (hbs.cut _ _)
  · rw [List.getElem?_set_self (List.getElem?_eq_some_iff.mp hg2).1, List.map_append]
    rfl
end Nh

namespace Nh
open PySem PySem.Spec PyProof.Rows L2
local macro_rules | `(tactic| walk_at "nwp") => `(tactic| try simp only [wp_bind, wp_ok, wp_nrR, wps_toS, wps_nx, wps_rt, wps_seq, wp_run, wps_if, wp_if, wp_tAnd, wp_tOr, wp_tNot, startD, List.map_cons, List.map_nil, List.length_cons, List.length_nil, Nat.reduceAdd, Nat.reduceSub, List.replicate_succ, List.replicate_zero, List.cons_append, List.nil_append, List.getElem?_cons_zero, List.getElem?_cons_succ, List.set_cons_zero, List.set_cons_succ,
  asB, mVar, mC, mOp, mCB, maCons, maNil, mCall, msRet, msAsg, mgName, msDrop, msNext, msRaise, mTup, mChain, mUn, if_true, if_false, Bool.not_true, Bool.not_false, Bool.false_eq_true, reduceIte, Nat.reduceEqDiff, Nat.reduceLeDiff,
  eq_self_iff_true, true_and, isA_str, inSign_star, inSign_one, notInSign_one, fEq_str, fEq_int, fLe_int, fLt_int, fGt_int, fAdd_int, fSub_int, fNeg_int])

theorem strs_at {ls : List Str} {d : Dat} (h : d ∈ ls.map Dat.str) : ∃ l ∈ ls, d = .str l := by
  obtain ⟨l, hl, e⟩ := List.mem_map.mp h
  exact ⟨l, hl, e.symm⟩
theorem labels_spec {ns : List Int} {k : Nat} (hk : k ≤ 80000) (r : Store) : wp (f__law_labels [.cell 0] (D ns k :: r)) fun d μ' => ∃ (ls : List Str) (g : Store) (jj k' : Nat), d = .cell (r.length + jj + 1) ∧ g[jj]? = some (.lst (ls.map .str)) ∧ ls.length = 5 ∧ (∀ l ∈ ls, GL l) ∧ μ' = D ns k' :: (r ++ g) ∧ k' ≤ k + 10 := by
  refine wp_nr ?_
  rw [wp_run]
  unfold b__law_labels
  walk_at "nwp"
  refine wp_imp (next_spec (by omega) _) ?_
  rintro d μ' ⟨n0, rfl, h0, h1, rfl⟩
  walk_at "nwp"
  refine wp_imp (label_spec (z := 8) (m := 8) rfl (by omega) _) ?_
  rintro d μ' ⟨⟨base, rfl, hb, hbs⟩, g1, rfl⟩
  walk_at "nwp"
  unfold mLst
  walk_at "nwp"
  rw [if_pos (Nat.zero_le _)]
  unfold allocR
  walk_at "nwp"
  simp only [List.append_assoc, List.length_append]
  rw [msFor_q (lo := 0) (n := 3) (range_src (by omega) _ _)]
  refine wps_for (s := srcQ 0 3) (rangeD 0 3) (fun i δ μ => ∃ (ls : List Str) (g : Store) (k' : Nat) (x3 x4 x5 x6 x7 : Option Dat), δ = [some (.cell 0), some (.str base), some (.cell (r.length + g1.length + 1)), x3, x4, x5, x6, x7] ∧ μ = D ns k' :: (r ++ g) ∧
    g[g1.length]? = some (.lst (ls.map .str)) ∧ ls.length = i ∧ (∀ l ∈ ls, GL l) ∧ k' ≤ k + 1 + i) rfl (rangeD_len _ _).symm (fun _ _ => rfl) (fun _ => rfl)
    ⟨[], g1 ++ [.lst []], k + 1, none, none, none, none, none, rfl, rfl, getElem?_mid, rfl, (fun l hl => nomatch hl), by omega⟩ ?_ ?_
  · rintro i d δ μ hd ⟨ls, g, k', x3, x4, x5, x6, x7, rfl, rfl, hg, hl, hG, hk'⟩
    obtain ⟨hi, rfl⟩ := rangeD_get hd
    refine ⟨_, rfl, ?_⟩
    refine labels_turn hb hbs (by omega) hg (by omega) fun l g' y4 y5 y6 y7 hl' hg' => ?_
    refine ⟨ls ++ [l], g', k' + 1, _, y4, y5, y6, y7, rfl, rfl, hg', by rw [List.length_append, List.length_singleton, hl], fun t ht => ?_, by omega⟩
    rcases List.mem_append.mp ht with h | h
    · exact hG t h
    · rw [List.mem_singleton.mp h]; exact hl'
  · rintro δ μ ⟨ls, g, k', x3, x4, x5, x6, x7, rfl, rfl, hg, hl, hG, hk'⟩
    rw [rangeD_len] at hl hk'
    walk_at "nwp"
    refine wp_imp (next_spec (by omega) _) ?_
    rintro d μ' ⟨n, rfl, h0', h1', rfl⟩
    walk_at "nwp"
    rw [signs_is]
    walk_at "nwp"
    rw [fDiv_int (by omega)]
    walk_at "nwp"
    rw [fMod_int (by omega)]
    walk_at "nwp"
    obtain ⟨q, eq, hq⟩ := sign_at (i := n / 7 % 37) (by omega) (by omega) (D ns (k' + 1) :: (r ++ g))
    rw [eq]
    walk_at "nwp"
    -- the fourth
    generalize hm4 : (mIf (asB (mOp fLt (mCB fLen (maCons (mOp fIxL (mVar 2) (mC (.int 0))) maNil)) (mC (.int 8)))) (mSl fSlS (mOp fAddS (mVar 7) (mOp fIxL (mVar 2) (mC (.int 0)))) moNone (moPart (mC (.int 8)))) (mSl fSlS (mOp fIxL (mVar 2) (mC (.int 0))) (moPart (mC (.int 1))) moNone)) = m4
    unfold mBM
    walk_at "nwp"
    have hget : ∀ k'', lstAt (D ns k'' :: (r ++ g)) (.cell (r.length + g1.length + 1)) = some (ls.map .str) := fun k'' => by
      simp only [lstAt, get_r, hg]
    rw [hget, if_pos (show (some (ls.map Dat.str)).isSome = true from rfl)]
    walk_at "nwp"
    obtain ⟨d0, e0, hd0⟩ := fIxL_r (ns := ns) (k := k' + 1) (r := r) (g := g) (j := g1.length) (i := 0) hg (by omega) (by rw [List.length_map, hl]; omega)
    obtain ⟨l0, hl0, rfl⟩ := strs_at hd0
    obtain ⟨a1, a2, a3⟩ := hG l0 hl0
    have l3 : ((⟨#[q]⟩ : Str)).length = 1 := rfl
    have fourth : ∀ (Q : Dat → Store → Prop) (R : Nat → Store → Prop), (∀ l, GL l → Q (.str l) (D ns (k' + 1) :: (r ++ g))) →
        wp (m4
          [some (.cell 0), some (.str base), some (.cell (r.length + g1.length + 1)), x3, some (.int n), x5, x6, some (.str ⟨#[q]⟩)] (D ns (k' + 1) :: (r ++ g))) Q R := by
      intro Q R hQ
      subst hm4
      walk_at "nwp"
      rw [e0]
      walk_at "nwp"
      rw [fLen_str (by rw [sl16]; omega)]
      walk_at "nwp"
      unfold mSl moPart moNone
      by_cases h8 : (l0.length : Int) < 8
      · rw [decide_eq_true h8]
        walk_at "nwp"
        rw [e0]
        walk_at "nwp"
        rw [fAddS_str (by rw [sl16, l3]; omega)]
        walk_at "nwp"
        rw [fSlS_eq (by rw [len_app, l3]; omega)]
        refine hQ _ ⟨?_, ?_, ((allSG.one hq).app a3 |> fun z => (show allSG ((⟨#[q]⟩ : Str) ++ l0).cps.toList by rw [toList_app]; exact z)).cut _ _⟩
        · rw [← len_toList, cutS_toList, show (8 : Int) = ((8 : Nat) : Int) from rfl, cutD_to, List.length_take, len_toList, len_app, l3]
          omega
        · rw [← len_toList, cutS_toList, show (8 : Int) = ((8 : Nat) : Int) from rfl, cutD_to, List.length_take, len_toList, len_app, l3]
          omega
      · rw [decide_eq_false h8]
        walk_at "nwp"
        rw [e0]
        walk_at "nwp"
        rw [fSlS_eq (by omega)]
        refine hQ _ ⟨?_, ?_, a3.cut _ _⟩
        · rw [← len_toList, cutS_toList, show (1 : Int) = ((1 : Nat) : Int) from rfl, cutD_from, List.length_drop, len_toList]
          omega
        · rw [← len_toList, cutS_toList, show (1 : Int) = ((1 : Nat) : Int) from rfl, cutD_from, List.length_drop, len_toList]
          omega
    refine fourth _ _ fun l4 hl4 => ?_
    walk_at "nwp"
    rw [fAppend_r hg (by rw [List.length_map]; omega)]
    walk_at "nwp"
    have hlt : g1.length < g.length := (List.getElem?_eq_some_iff.mp hg).1
    have hg4 : (g.set g1.length (.lst (ls.map Dat.str ++ [.str l4])))[g1.length]? = some (.lst ((ls ++ [l4]).map .str)) := by
      rw [List.getElem?_set_self hlt, List.map_append]
      rfl
    generalize hgg : g.set g1.length (.lst (ls.map Dat.str ++ [.str l4])) = g4 at hg4 ⊢
    have hG4 : ∀ l ∈ ls ++ [l4], GL l := fun t ht => by
      rcases List.mem_append.mp ht with h | h
      · exact hG t h
      · rw [List.mem_singleton.mp h]; exact hl4
    -- the fifth
    unfold mSl moPart moNone
    walk_at "nwp"
    rw [fMod_int (by omega)]
    walk_at "nwp"
    obtain ⟨d1, e1, hd1⟩ := fIxL_r (ns := ns) (k := k' + 1) (r := r) (g := g4) (j := g1.length) (i := n % 2) hg4 (by omega) (by rw [List.length_map, List.length_append, List.length_singleton, hl]; omega)
    obtain ⟨l1, hl1, rfl⟩ := strs_at hd1
    obtain ⟨b1, b2, b3⟩ := hG4 l1 hl1
    rw [e1]
    walk_at "nwp"
    rw [fSlS_eq (by omega)]
    walk_at "nwp"
    have c6 : (cutS l1 none (some 6)).length = min 6 l1.length := by
      rw [← len_toList, cutS_toList, show (6 : Int) = ((6 : Nat) : Int) from rfl, cutD_to, List.length_take, len_toList]
    have cd : ("-" : Str).length = 1 := rfl
    rw [fAddS_str (by rw [sl16, c6, cd]; omega)]
    walk_at "nwp"
    rw [fDiv_int (by omega)]
    walk_at "nwp"
    rw [fMod_int (by omega)]
    walk_at "nwp"
    rw [show ∀ μ, fMulS (.str ⟨#[q]⟩) (.int (n / 2 % 2)) μ = .ok (.str (Txt.mul ⟨#[q]⟩ (n / 2 % 2))) μ from fun μ => by
      unfold fMulS
      dsimp only
      rw [if_pos ⟨by omega, by omega, by rw [l3]; omega⟩]]
    walk_at "nwp"
    have hmul : (Txt.mul (⟨#[q]⟩ : Str) (n / 2 % 2)).length ≤ 1 ∧ allSG (Txt.mul (⟨#[q]⟩ : Str) (n / 2 % 2)).cps.toList := by
      unfold Txt.mul
      by_cases hz : n / 2 % 2 < 1
      · rw [if_pos hz]
        exact ⟨Nat.zero_le _, fun p hp => nomatch hp⟩
      · rw [if_neg hz]
        have e : n / 2 % 2 = 1 := by omega
        rw [e]
        exact ⟨Nat.le_refl _, allSG.one hq⟩
    rw [fAddS_str (by rw [sl16, len_app, c6, cd]; omega)]
    walk_at "nwp"
    rw [if_pos (by rw [sl16]; omega)]
    walk_at "nwp"
    simp only [List.append_assoc, List.length_append]
    generalize hl5 : cutS l1 none (some 6) ++ ("-" : Str) ++ Txt.mul ⟨#[q]⟩ (n / 2 % 2) = l5
    have hdash : allSG ("-" : Str).cps.toList := fun p hp => by
      have : p = 45 := by simpa using (show p ∈ [45] from hp)
      rw [this]
      decide +kernel
    have hG5 : GL l5 := by
      subst hl5
      refine ⟨?_, ?_, ?_⟩
      · rw [len_app, len_app, c6, cd]; omega
      · rw [len_app, len_app, c6, cd]; omega
      · rw [toList_app, toList_app]
        exact ((b3.cut _ _).app hdash).app hmul.2
    have f1 : celL (D ns (k' + 1) :: (r ++ (g4 ++ [.lst [.str l5]]))) (.cell (r.length + g1.length + 1)) = some ((ls ++ [l4]).map .str) := by
      simp only [celL, get_r, get_app hg4]
    have f2 : celL (D ns (k' + 1) :: (r ++ (g4 ++ [.lst [.str l5]]))) (.cell (r.length + g4.length + 1)) = some [.str l5] := by
      simp only [celL, get_r, getElem?_mid]
    unfold fCat
    rw [f1, f2]
    dsimp only
    rw [if_pos (by rw [sl16, List.length_map, List.length_append, List.length_singleton, hl]; exact (by decide : 3 + 1 + 1 ≤ 16777216))]
    unfold allocR
    walk_at "nwp"
    simp only [List.append_assoc, List.length_append, List.length_cons, List.length_nil]
    refine ⟨ls ++ [l4] ++ [l5], g4 ++ [.lst [.str l5], .lst (((ls ++ [l4]).map .str) ++ [.str l5])], g4.length + 1, k' + 1, ?_, ?_, ?_, ?_, ?_, ?_⟩
    · congr 1
    · rw [List.getElem?_append_right (by omega)]
      simp
    · simp [hl]
    · intro t ht
      rcases List.mem_append.mp ht with h | h
      · exact hG4 t h
      · rw [List.mem_singleton.mp h]; exact hG5
    · simp
    · omega
end Nh

namespace Nh
open PySem PySem.Spec PyProof.Rows L2
local macro_rules | `(tactic| walk_at "nwp") => `(tactic| try simp only [wp_bind, wp_ok, wp_nrR, wps_toS, wps_nx, wps_rt, wps_seq, wp_run, wps_if, wp_if, wp_tAnd, wp_tOr, wp_tNot, startD, List.map_cons, List.map_nil, List.length_cons, List.length_nil, Nat.reduceAdd, Nat.reduceSub, List.replicate_succ, List.replicate_zero, List.cons_append, List.nil_append, List.getElem?_cons_zero, List.getElem?_cons_succ, List.set_cons_zero, List.set_cons_succ,
  asB, mVar, mC, mOp, mCB, maCons, maNil, mCall, msRet, msAsg, mgName, msDrop, msNext, msRaise, mTup, mChain, mUn, if_true, if_false, Bool.not_true, Bool.not_false, Bool.false_eq_true, reduceIte, Nat.reduceEqDiff, Nat.reduceLeDiff,
  eq_self_iff_true, true_and, isA_str, inSign_star, inSign_one, notInSign_one, fEq_str, fEq_int, fLe_int, fLt_int, fGt_int, fAdd_int, fSub_int, fNeg_int])

/-- a drawn name: none to six labels, the first one perhaps a star -/
def NG (ss : List Str) : Prop := ss.length ≤ 6 ∧ (∀ t ∈ ss.drop 1, GL t) ∧ ∀ t ∈ ss.take 1, GL t ∨ t = "*"
theorem get_q {r g h : Store} {x : Cell} : (r ++ (g ++ (x :: h)))[r.length + g.length]? = some x := by
  rw [← List.append_assoc, ← List.length_append]
  exact getElem?_mid
theorem set_q {r g h : Store} {x y : Cell} : (r ++ (g ++ (x :: h))).set (r.length + g.length) y = r ++ (g ++ (y :: h)) := by
  rw [← List.append_assoc, ← List.length_append, set_mid, List.append_assoc]
theorem star_label : isLabelS "*" = true := by decide +kernel
theorem NG.name {ss : List Str} (h : NG ss) : isNameS ss = true := by
  obtain ⟨h1, h2, h3⟩ := h
  unfold isNameS isNameD
  dsimp only
  rw [decide_eq_true (by rw [List.length_map]; exact h1), Bool.true_and, Bool.and_eq_true]
  refine ⟨?_, ?_⟩
  · rw [List.all_map, List.all_eq_true]
    intro t ht
    show isLabelS t = true
    have ht' : t ∈ ss.take 1 ++ ss.drop 1 := by rw [List.take_append_drop]; exact ht
    rcases List.mem_append.mp ht' with h | h
    · rcases h3 t h with g | rfl
      · exact g.label
      · exact star_label
    · exact (h2 t h).label
  · rw [← List.map_drop, List.any_map, Bool.not_eq_true', List.any_eq_false]
    intro t ht
    show ¬ decide (t = "*") = true
    rw [decide_eq_false (h2 t ht).star]
    exact Bool.false_ne_true
theorem NG.drop {ss : List Str} (h : NG ss) (n : Nat) : NG (ss.drop n) := by
  cases n with
  | zero => exact h
  | succ n =>
    obtain ⟨h1, h2, h3⟩ := h
    have sub : ∀ t ∈ ss.drop (n + 1), GL t := fun t ht => h2 t (by
      rw [show n + 1 = 1 + n by omega, ← List.drop_drop] at ht
      exact List.mem_of_mem_drop ht)
    exact ⟨by rw [List.length_drop]; omega, fun t ht => sub t (List.mem_of_mem_drop ht), fun t ht => .inl (sub t (List.mem_of_mem_take ht))⟩
theorem NG.of_gl {ss : List Str} (hl : ss.length ≤ 6) (h : ∀ t ∈ ss, GL t) : NG ss := ⟨hl, fun t ht => h t (List.mem_of_mem_drop ht), fun t ht => .inl (h t (List.mem_of_mem_take ht))⟩
theorem NG.head {ss : List Str} {l : Str} (h : NG ss) (hl : GL l) : NG (l :: ss.drop 1) := by
  refine ⟨?_, fun t ht => h.2.1 t (by simpa using ht), fun t ht => ?_⟩
  · have := h.1
    rw [List.length_cons, List.length_drop]
    omega
  · have : t = l := by simpa using ht
    rw [this]
    exact .inl hl
theorem GL.sizes {l : Str} (h : GL l) : l.length ≤ 8 := h.2.1
theorem neD_lists {μ : Store} {a b : Nat} {ss ts : List Str} (ha : μ[a]? = some (.lst (ss.map .str))) (hb : μ[b]? = some (.lst (ts.map .str))) (h1 : ∀ s ∈ ss, okS s) (h2 : ∀ s ∈ ts, okS s) : fNeD (.cell a) (.cell b) μ = .ok (.bl (!decide (ss = ts))) μ := by
  have p : ∀ {a : Nat} {ss : List Str}, μ[a]? = some (.lst (ss.map .str)) → py μ 12 (.cell a) = some (.list (ss.map .str)) := by
    intro a ss h
    show (match μ[a]? with | some (.lst ds) => (pyAll (py μ 11) ds).map PyData.list | _ => none) = _
    rw [h]
    dsimp only
    rw [pyAll_strs _ (fun s => rfl)]
    rfl
  have q : ∀ {ss : List Str}, (∀ s ∈ ss, okS s) → SeqAt.shaped (.list (ss.map .str)) = true := fun {ss} h => (show Shp (.list (ss.map .str)) from ⟨lay_strs h, by
    show PyData.depthAll (ss.map .str) + 1 ≤ 5
    rw [depth_strs]
    omega⟩).shaped
  simp only [fNeD, p ha, p hb, q h1, q h2, Bool.and_self, if_true]
  rw [show PyData.eqv (.list (ss.map .str)) (.list (ts.map .str)) = PyData.eqvAll (ss.map .str) (ts.map .str) from rfl, eqv_strs]
theorem name_spec {ns : List Int} {k c : Nat} {r : Store} {ls : List Str} (hk : k ≤ 80000) (hc : r[c]? = some (.lst (ls.map .str))) (hl : ls.length = 5) (hG : ∀ l ∈ ls, GL l) :
    wp (f__law_name [.cell 0, .cell (c + 1)] (D ns k :: r)) fun d μ' => ∃ (ss : List Str) (g : Store) (k' : Nat), d = .tup (ss.map .str) ∧ NG ss ∧ μ' = D ns k' :: (r ++ g) ∧ k' ≤ k + 8 := by
  refine wp_nr ?_
  rw [wp_run]
  unfold b__law_name
  walk_at "nwp"
  refine wp_imp (next_spec (by omega) _) ?_
  rintro d μ' ⟨n, rfl, h0, h1, rfl⟩
  walk_at "nwp"
  unfold mLst
  walk_at "nwp"
  rw [if_pos (by rw [sl16]; omega)]
  unfold allocR
  walk_at "nwp"
  rw [fMod_int (by omega)]
  walk_at "nwp"
  obtain ⟨d, e, hd⟩ := fIxL_r (ns := ns) (k := k + 1) (r := r) (g := [.lst [.int 0, .int 1, .int 2, .int 3, .int 4, .int 6, .int 2]]) (j := 0) (i := n % 7) rfl (by omega) (by simp; omega)
  rw [e]
  obtain ⟨m, rfl, hm⟩ : ∃ m : Nat, d = .int (m : Int) ∧ m ≤ 6 := by
    simp only [List.mem_cons, List.not_mem_nil, or_false] at hd
    rcases hd with rfl | rfl | rfl | rfl | rfl | rfl | rfl
    · exact ⟨0, rfl, by omega⟩
    · exact ⟨1, rfl, by omega⟩
    · exact ⟨2, rfl, by omega⟩
    · exact ⟨3, rfl, by omega⟩
    · exact ⟨4, rfl, by omega⟩
    · exact ⟨6, rfl, by omega⟩
    · exact ⟨2, rfl, by omega⟩
  walk_at "nwp"
  generalize hmenu : ([Cell.lst [.int 0, .int 1, .int 2, .int 3, .int 4, .int 6, .int 2]] : Store) = g1
  have hg1 : g1.length = 1 := by rw [← hmenu]; rfl
  rw [mLc_q (lo := 0) (n := m) (μ1 := D ns (k + 1) :: (r ++ g1)) (by
    have e := range_src (j := (m : Int)) (by omega) [some (.cell 0), some (.cell (c + 1)), some (.int n), some (.int (m : Int)), none, none] (D ns (k + 1) :: (r ++ g1))
    rw [Int.toNat_natCast] at e
    exact e)]
  refine wp_lc_inv (s := srcQ 0 m) (rangeD 0 m) (fun i acc μ2 => ∃ (k2 : Nat) (ts : List Str) (g : Store), acc = ts.map .str ∧ (∀ t ∈ ts, GL t) ∧ μ2 = D ns k2 :: (r ++ (g1 ++ (.lst acc :: g))) ∧ k2 ≤ k + 1 + i) rfl (rangeD_len _ _).symm (fun _ _ => rfl) (fun _ => rfl) (by rw [sl16, rangeD_len]; omega)
    ⟨k + 1, [], [], rfl, (fun t ht => nomatch ht), by simp, by omega⟩ ?_ ?_
  · rintro i d acc μ2 hd ⟨k2, ts, g, rfl, hts, rfl, hk2⟩ hacc
    obtain ⟨hi, rfl⟩ := rangeD_get hd
    refine ⟨_, rfl, ?_⟩
    dsimp only [wipeD]
    walk_at "nwp"
    refine wp_imp (next_spec (by omega) _) ?_
    rintro d μ' ⟨n2, rfl, h2, h3, rfl⟩
    walk_at "nwp"
    rw [fMod_int (by omega)]
    walk_at "nwp"
    obtain ⟨d2, e2, hd2⟩ := fIxL_at (μ := D ns (k2 + 1) :: (r ++ (g1 ++ (.lst (ts.map .str) :: g)))) (k := c + 1) (ds := ls.map .str) (i := n2 % 5) (by rw [List.getElem?_cons_succ]; exact get_app hc) (by omega) (by rw [List.length_map, hl]; omega)
    obtain ⟨l, hlm, rfl⟩ := strs_at hd2
    rw [e2]
    walk_at "nwp"
    have em : r ++ (g1 ++ (Cell.lst (ts.map .str) :: g)) = (r ++ g1) ++ (Cell.lst (ts.map .str) :: g) := by rw [List.append_assoc]
    refine ⟨by rw [em]; exact getElem?_mid, k2 + 1, ts ++ [l], g, by rw [List.map_append]; rfl, fun t ht => ?_, ?_, by omega⟩
    · rcases List.mem_append.mp ht with h | h
      · exact hts t h
      · rw [List.mem_singleton.mp h]; exact hG l hlm
    · rw [em, set_mid, List.append_assoc]
  · rintro acc μ2 hacc ⟨k2, ts, g, rfl, hts, rfl, hk2⟩
    rw [rangeD_len] at hacc hk2
    rw [List.length_map] at hacc
    rw [show (D ns (k + 1) :: (r ++ g1)).length = r.length + g1.length + 1 from len_r]
    walk_at "nwp"
    rw [if_pos (Nat.zero_le _)]
    walk_at "nwp"
    simp only [List.append_assoc, List.length_append, List.length_cons, List.cons_append]
    rw [neD_lists (ss := ts) (ts := []) (by rw [get_r]; exact getElem?_mid) (by
      rw [show r.length + (g1.length + (g.length + 1)) + 1 = r.length + (g1 ++ (Cell.lst (ts.map .str) :: g)).length + 1 by simp, show r ++ (g1 ++ Cell.lst (ts.map .str) :: (g ++ [.lst []])) = r ++ ((g1 ++ (Cell.lst (ts.map .str) :: g)) ++ [.lst []]) by simp, get_r]
      exact getElem?_mid) (fun s hs => (hts s hs).ok) (fun s hs => nomatch hs)]
    walk_at "nwp"
    have fin : ∀ (us : List Str) (g' : Store), NG us → wp (fTupleOf [.cell (r.length + g1.length + 1)] (D ns k2 :: (r ++ (g1 ++ (Cell.lst (us.map .str) :: g'))))) (fun d μ' => ∃ (ss : List Str) (g : Store) (k' : Nat), d = .tup (ss.map .str) ∧ NG ss ∧ μ' = D ns k' :: (r ++ g) ∧ k' ≤ k + 8) := by
      intro us g' hn
      rw [show fTupleOf [.cell (r.length + g1.length + 1)] (D ns k2 :: (r ++ (g1 ++ (Cell.lst (us.map .str) :: g')))) = .ok (.tup (us.map .str)) (D ns k2 :: (r ++ (g1 ++ (Cell.lst (us.map .str) :: g')))) from by
        simp only [fTupleOf, seqD, lstAt, get_r, getElem?_mid]]
      exact ⟨us, _, k2, rfl, hn, rfl, by omega⟩
    have hn0 : NG ts := NG.of_gl (by omega) hts
    by_cases ht : ts = []
    · rw [decide_eq_true ht]
      walk_at "nwp"
      exact fin ts _ hn0
    · rw [decide_eq_false ht]
      walk_at "nwp"
      rw [fDiv_int (by omega)]
      walk_at "nwp"
      rw [fMod_int (by omega)]
      walk_at "nwp"
      by_cases h5 : n / 7 % 5 = 0
      · rw [decide_eq_true h5]
        unfold mgSub
        walk_at "nwp"
        rw [get_q]
        dsimp only
        obtain ⟨t, us, rfl⟩ : ∃ t us, ts = t :: us := by
          cases ts with
          | nil => exact (ht rfl).elim
          | cons t us => exact ⟨t, us, rfl⟩
        rw [show ixN ((t :: us).map Dat.str).length 0 = some 0 by simp [ixN]]
        dsimp only
        walk_at "nwp"
        rw [set_q]
        have := fin ("*" :: us) (g ++ [.lst []]) ⟨by simp at hacc ⊢; omega, fun t ht => hts t (by simp at ht; exact List.mem_cons_of_mem _ ht), fun t ht => .inr (by simpa using ht)⟩
        exact this
      · rw [decide_eq_false h5]
        walk_at "nwp"
        exact fin ts _ hn0
end Nh

namespace Nh
open PySem PySem.Spec PyProof.Rows L2
local macro_rules | `(tactic| walk_at "nwp") => `(tactic| try simp only [wp_bind, wp_ok, wp_nrR, wps_toS, wps_nx, wps_rt, wps_seq, wp_run, wps_if, wp_if, wp_tAnd, wp_tOr, wp_tNot, startD, List.map_cons, List.map_nil, List.length_cons, List.length_nil, Nat.reduceAdd, Nat.reduceSub, List.replicate_succ, List.replicate_zero, List.cons_append, List.nil_append, List.getElem?_cons_zero, List.getElem?_cons_succ, List.set_cons_zero, List.set_cons_succ,
  asB, mVar, mC, mOp, mCB, maCons, maNil, mCall, msRet, msAsg, mgName, msDrop, msNext, msRaise, mTup, mChain, mUn, if_true, if_false, Bool.not_true, Bool.not_false, Bool.false_eq_true, reduceIte, Nat.reduceEqDiff, Nat.reduceLeDiff,
  eq_self_iff_true, true_and, isA_str, inSign_star, inSign_one, notInSign_one, fEq_str, fEq_int, fLe_int, fLt_int, fGt_int, fAdd_int, fSub_int, fNeg_int])

/-! ### names in order -/
def ltT (a b : Str) : Bool := decide (a.cps.toList < b.cps.toList)
theorem nat_tri : ∀ (a b : List Nat), ¬ a < b → ¬ b < a → a = b
  | [], [], _, _ => rfl
  | [], b :: bs, h, _ => (h (List.nil_lt_cons _ _)).elim
  | a :: as, [], _, h => (h (List.nil_lt_cons _ _)).elim
  | a :: as, b :: bs, h1, h2 => by
    rw [List.cons_lt_cons_iff] at h1 h2
    have e : a = b := by omega
    subst e
    rw [nat_tri as bs (fun z => h1 (.inr ⟨rfl, z⟩)) (fun z => h2 (.inr ⟨rfl, z⟩))]
theorem ltT_irrefl (a : Str) : ltT a a = false := decide_eq_false (List.lt_irrefl _)
theorem ltT_asymm {a b : Str} (h : ltT a b = true) : ltT b a = false := decide_eq_false (List.lt_asymm (of_decide_eq_true h))
theorem ltT_trans {a b c : Str} (h1 : ltT a b = true) (h2 : ltT b c = true) : ltT a c = true := decide_eq_true (List.lt_trans (of_decide_eq_true h1) (of_decide_eq_true h2))
theorem ltT_tri {a b : Str} (h1 : ltT a b = false) (h2 : ltT b a = false) : a = b := str_ext (nat_tri _ _ (of_decide_eq_false h1) (of_decide_eq_false h2))
def lexS : List Str → List Str → Bool
  | [], [] => false
  | [], _ :: _ => true
  | _ :: _, [] => false
  | a :: as, b :: bs => if a = b then lexS as bs else ltT a b
theorem lexS_irrefl : ∀ a : List Str, lexS a a = false
  | [] => rfl
  | a :: as => by
    unfold lexS
    rw [if_pos rfl, lexS_irrefl as]
theorem lexS_asymm : ∀ {a b : List Str}, lexS a b = true → lexS b a = false
  | [], [], h => by cases h
  | [], _ :: _, _ => rfl
  | _ :: _, [], h => by cases h
  | a :: as, b :: bs, h => by
    unfold lexS at h ⊢
    by_cases e : a = b
    · subst e
      rw [if_pos rfl] at h ⊢
      exact lexS_asymm h
    · rw [if_neg e] at h
      rw [if_neg (fun z => e z.symm)]
      exact ltT_asymm h
theorem lexS_tri : ∀ {a b : List Str}, lexS a b = false → lexS b a = false → a = b
  | [], [], _, _ => rfl
  | [], _ :: _, h, _ => by cases h
  | _ :: _, [], _, h => by cases h
  | a :: as, b :: bs, h1, h2 => by
    unfold lexS at h1 h2
    by_cases e : a = b
    · subst e
      rw [if_pos rfl] at h1 h2
      rw [lexS_tri h1 h2]
    · rw [if_neg e] at h1
      rw [if_neg (fun z => e z.symm)] at h2
      exact (e (ltT_tri h1 h2)).elim
theorem lexS_trans : ∀ {a b c : List Str}, lexS a b = true → lexS b c = true → lexS a c = true
  | [], [], _, h, _ => by cases h
  | [], _ :: _, [], _, h => by cases h
  | [], _ :: _, _ :: _, _, _ => rfl
  | _ :: _, [], _, h, _ => by cases h
  | _ :: _, _ :: _, [], _, h => by cases h
  | a :: as, b :: bs, c :: cs, h1, h2 => by
    unfold lexS at h1 h2 ⊢
    by_cases e1 : a = b
    · subst e1
      rw [if_pos rfl] at h1
      by_cases e2 : a = c
      · subst e2
        rw [if_pos rfl] at h2 ⊢
        exact lexS_trans h1 h2
      · rw [if_neg e2] at h2 ⊢
        exact h2
    · rw [if_neg e1] at h1
      by_cases e2 : b = c
      · subst e2
        rw [if_neg e1]
        exact h1
      · rw [if_neg e2] at h2
        have h3 := ltT_trans h1 h2
        by_cases e3 : a = c
        · subst e3
          rw [ltT_asymm h1] at h2
          cases h2
        · rw [if_neg e3]
          exact h3
/-- a name is not behind another -/
def leN (a b : List Str) : Bool := !lexS b.reverse a.reverse
theorem leN_total (a b : List Str) : (leN a b || leN b a) = true := by
  unfold leN
  cases h : lexS b.reverse a.reverse with
  | false => rfl
  | true => rw [lexS_asymm h]; rfl
theorem leN_trans (a b c : List Str) (h1 : leN a b = true) (h2 : leN b c = true) : leN a c = true := by
  unfold leN at h1 h2 ⊢
  rw [Bool.not_eq_true'] at h1 h2 ⊢
  cases h : lexS c.reverse a.reverse with
  | false => rfl
  | true =>
    exfalso
    cases h3 : lexS b.reverse c.reverse with
    | true =>
      rw [lexS_trans h3 h] at h1
      cases h1
    | false =>
      have e := lexS_tri h2 h3
      rw [e] at h
      rw [h] at h1
      cases h1
theorem leN_anti {a b : List Str} (h1 : leN a b = true) (h2 : leN b a = true) : a = b := by
  unfold leN at h1 h2
  rw [Bool.not_eq_true'] at h1 h2
  exact List.reverse_inj.mp (lexS_tri h2 h1)
theorem sorted_one {l1 l2 : List (List Str)} (h1 : l1.Pairwise fun a b => leN a b = true) (h2 : l2.Pairwise fun a b => leN a b = true) (p : l1.Perm l2) : l1 = l2 :=
  List.Perm.eq_of_pairwise (fun a b _ _ x y => leN_anti x y) h1 h2 p
/-! ### the keys' order -/
def keyN (ss : List Str) : PyData := .tuple (ss.reverse.map .str)
theorem alike_strs : ∀ as bs : List Str, PySem.W.alikeAll (as.map .str) (bs.map .str) = true
  | [], _ => by simp [PySem.W.alikeAll]
  | a :: as, [] => by simp [PySem.W.alikeAll]
  | a :: as, b :: bs => by
    rw [List.map_cons, List.map_cons]
    simp only [PySem.W.alikeAll, PySem.W.alike, alike_strs as bs, Bool.and_self]
theorem toks_strs : ∀ as bs : List Str, PyProof.Rows.lexLt PyProof.Rows.itemOrd (PySem.W.keyToksAll (as.map .str)) (PySem.W.keyToksAll (bs.map .str)) = lexS as bs
  | [], [] => by rfl
  | [], b :: bs => by rfl
  | a :: as, [] => by rfl
  | a :: as, b :: bs => by
    rw [List.map_cons, List.map_cons]
    have hal : PySem.W.alike (.str a) (.str b) = true := by simp only [PySem.W.alike]
    unfold lexS
    by_cases e : a = b
    · subst e
      rw [if_pos rfl, PySem.W.dataLt_all_yes hal (beq_self_eq_true a), toks_strs as bs]
    · rw [if_neg e, PySem.W.dataLt_all_no hal (show PyData.eqv (.str a) (.str b) = false from beq_eq_false_iff_ne.mpr e), PySem.W.dataLt_str]
      rfl
theorem dataLt_keys (a b : List Str) : PySem.W.dataLt (keyN a) (keyN b) = lexS a.reverse b.reverse := by
  unfold keyN
  rw [PySem.W.dataLt_tuple, toks_strs]
def tupN (ss : List Str) : Dat := .tup (ss.map .str)
theorem sortedBy_names (nl : List (List Str)) : sortedBy (nl.map keyN) (nl.map tupN) = (nl.mergeSort leN).map tupN := by
  rw [← sortedBy_map]
  congr 1
  unfold sortedBy
  have e : (nl.map keyN).zip nl = nl.map fun x => (keyN x, x) := by
    induction nl with
    | nil => rfl
    | cons x r ih => rw [List.map_cons, List.map_cons, List.zip_cons_cons, ih]
  have m : (nl.mergeSort leN).map (fun x => (keyN x, x)) = (nl.map fun x => (keyN x, x)).mergeSort (PySem.W.dataLe false Prod.fst) := List.map_mergeSort (fun a _ b _ => by
    rw [PySem.W.dataLe_eq]
    show leN a b = !PySem.W.dataLt (keyN b) (keyN a)
    rw [dataLt_keys]
    rfl)
  rw [e, ← m, List.map_map]
  exact List.map_id _
theorem merge_sorted (nl : List (List Str)) : (nl.mergeSort leN).Pairwise fun a b => leN a b = true := List.pairwise_mergeSort leN_trans leN_total nl
end Nh

namespace Nh
open PySem PySem.Spec PyProof.Rows L2
local macro_rules | `(tactic| walk_at "nwp") => `(tactic| try simp only [wp_bind, wp_ok, wp_nrR, wps_toS, wps_nx, wps_rt, wps_seq, wp_run, wps_if, wp_if, wp_tAnd, wp_tOr, wp_tNot, startD, List.map_cons, List.map_nil, List.length_cons, List.length_nil, Nat.reduceAdd, Nat.reduceSub, List.replicate_succ, List.replicate_zero, List.cons_append, List.nil_append, List.getElem?_cons_zero, List.getElem?_cons_succ, List.set_cons_zero, List.set_cons_succ,
  asB, mVar, mC, mOp, mCB, maCons, maNil, mCall, msRet, msAsg, mgName, msDrop, msNext, msRaise, mTup, mChain, mUn, if_true, if_false, Bool.not_true, Bool.not_false, Bool.false_eq_true, reduceIte, Nat.reduceEqDiff, Nat.reduceLeDiff,
  eq_self_iff_true, true_and, isA_str, inSign_star, inSign_one, notInSign_one, fEq_str, fEq_int, fLe_int, fLt_int, fGt_int, fAdd_int, fSub_int, fNeg_int])
/-! ### loops over a list that stands in the store -/
theorem forLoop_inv2 {s : Src} {g : MG} {b : MS} {P : Ps} {items : List Dat} (hn : s.n = items.length) (I : Nat → Env → Store → Prop) (hget : ∀ i δ μ, I i δ μ → s.get i μ = items[i]?) (hfin : ∀ i δ μ, I i δ μ → s.fin μ = true)
    (step : ∀ (i : Nat) (d : Dat) (δ : Env) (μ : Store), items[i]? = some d → I i δ μ → ∃ δ1, g d δ = some δ1 ∧ wps (b δ1 μ) { nx := I (i + 1), ct := I (i + 1), rt := P.rt, bk := P.nx, ra := P.ra }) (hd : ∀ δ μ, I items.length δ μ → P.nx δ μ) :
    ∀ (r i : Nat) (δ : Env) (μ : Store), i + r = items.length → I i δ μ → wps (forLoop s g b r i δ μ) P := by
  intro r
  induction r with
  | zero =>
    intro i δ μ hi h
    unfold forLoop
    rw [if_pos (hfin _ _ _ h)]
    have e : i = items.length := by omega
    subst e
    exact hd _ _ h
  | succ r ih =>
    intro i δ μ hi h
    have hlt : i < items.length := by omega
    obtain ⟨δ1, h1, h2⟩ := step i items[i] δ μ (List.getElem?_eq_getElem hlt) h
    unfold forLoop
    rw [hget _ _ _ h, List.getElem?_eq_getElem hlt, Option.bind_some, h1]
    dsimp only
    cases hb : b δ1 μ with
    | nx δ' μ' => rw [hb] at h2; exact ih (i + 1) δ' μ' (by omega) h2
    | ct δ' μ' => rw [hb] at h2; exact ih (i + 1) δ' μ' (by omega) h2
    | bk δ' μ' => rw [hb] at h2; exact h2
    | rt d μ' => rw [hb] at h2; exact h2
    | raise n δ' μ' => rw [hb] at h2; exact h2
    | stuck => rw [hb] at h2; exact h2
theorem wps_for2 {src : M Src} {s : Src} {g : MG} {b : MS} {P : Ps} {δ : Env} {μ μ1 : Store} (items : List Dat) (I : Nat → Env → Store → Prop) (hsrc : src δ μ = .ok s μ1) (hn : s.n = items.length) (hget : ∀ i δ μ, I i δ μ → s.get i μ = items[i]?) (hfin : ∀ i δ μ, I i δ μ → s.fin μ = true)
    (h0 : I 0 δ μ1) (step : ∀ (i : Nat) (d : Dat) (δ : Env) (μ : Store), items[i]? = some d → I i δ μ → ∃ δ1, g d δ = some δ1 ∧ wps (b δ1 μ) { nx := I (i + 1), ct := I (i + 1), rt := P.rt, bk := P.nx, ra := P.ra })
    (hd : ∀ δ μ, I items.length δ μ → P.nx δ μ) : wps (msFor src g b δ μ) P := by
  unfold msFor
  rw [hsrc]
  exact forLoop_inv2 hn I hget hfin step hd s.n 0 δ μ1 (by omega) h0

theorem wps_try {b : MS} {m i j : Nat} {δ : Env} {μ : Store} {P : Ps} (h : wps (b δ μ) { P with ra := fun n δ' μ' => tab.sub n m = some true ∧ i < δ'.length ∧ P.nx (((δ'.set i (some (.cell μ'.length))).set j (some (.cell μ'.length))).set i none) (μ' ++ [.exc n]) }) : wps (msTry tab m i j b δ μ) P := by
  unfold msTry
  cases hb : b δ μ with
  | raise n δ' μ' =>
    rw [hb] at h
    obtain ⟨h1, h2, h3⟩ := h
    dsimp only
    rw [h1]
    dsimp only
    rw [if_pos h2]
    exact h3
  | nx δ' μ' => rw [hb] at h; exact h
  | rt d μ' => rw [hb] at h; exact h
  | bk δ' μ' => rw [hb] at h; exact h
  | ct δ' μ' => rw [hb] at h; exact h
  | stuck => rw [hb] at h; exact h

theorem wh_inv {q : M Bool} {b : MS} {P : Ps} (I : Nat → Env → Store → Prop)
    (step : ∀ n δ μ, I n δ μ → wp (q δ μ) (fun k μ1 => if k = true then ∃ m, n = m + 1 ∧ wps (b δ μ1) { nx := I m, ct := I m, rt := P.rt, bk := P.nx, ra := P.ra } else P.nx δ μ1) fun n μ => P.ra n δ μ) :
    ∀ (N n : Nat) (δ : Env) (μ : Store), n ≤ N → I n δ μ → wps (whLoop q b (N + 1) δ μ) P := by
  intro N
  induction N with
  | zero =>
    intro n δ μ hn h
    have h1 := step n δ μ h
    unfold whLoop
    rw [wps_toS]
    refine wp_mono h1 (fun k μ1 z => ?_) fun _ _ z => z
    cases k with
    | false => exact z
    | true =>
      obtain ⟨m, rfl, _⟩ := z
      omega
  | succ N ih =>
    intro n δ μ hn h
    have h1 := step n δ μ h
    unfold whLoop
    rw [wps_toS]
    refine wp_mono h1 (fun k μ1 z => ?_) fun _ _ z => z
    cases k with
    | false => exact z
    | true =>
      obtain ⟨m, rfl, hb⟩ := z
      show wps (match b δ μ1 with | .nx δ' μ' => whLoop q b (N + 1) δ' μ' | .ct δ' μ' => whLoop q b (N + 1) δ' μ' | .bk δ' μ' => .nx δ' μ' | r => r) P
      cases hr : b δ μ1 with
      | nx δ' μ' => rw [hr] at hb; exact ih m δ' μ' (by omega) hb
      | ct δ' μ' => rw [hr] at hb; exact ih m δ' μ' (by omega) hb
      | bk δ' μ' => rw [hr] at hb; exact hb
      | rt d μ' => rw [hr] at hb; exact hb
      | raise n δ' μ' => rw [hr] at hb; exact hb
      | stuck => rw [hr] at hb; exact hb
theorem wps_while {q : M Bool} {b : MS} {P : Ps} {δ : Env} {μ : Store} {N n : Nat} (I : Nat → Env → Store → Prop) (hn : n ≤ N) (h0 : I n δ μ)
    (step : ∀ n δ μ, I n δ μ → wp (q δ μ) (fun k μ1 => if k = true then ∃ m, n = m + 1 ∧ wps (b δ μ1) { nx := I m, ct := I m, rt := P.rt, bk := P.nx, ra := P.ra } else P.nx δ μ1) fun n μ => P.ra n δ μ) :
    wps (msWhile (N + 1) q b δ μ) P := wh_inv I step N n δ μ hn h0
theorem atI_back {α : Type} (l : List α) (j : Nat) (h : j < l.length) : atI l (-((j : Int) + 1)) = l.reverse[j]? := by
  unfold atI ixN
  rw [if_neg (by omega), if_pos (by omega), List.getElem?_reverse h]
  show l[(-((j : Int) + 1) + (l.length : Int)).toNat]? = _
  congr 1
  omega
theorem fNe_str (a b : Str) (μ : Store) : fNe (.str a) (.str b) μ = .ok (.bl (!decide (a = b))) μ := by
  simp only [fNe, toV, scal, V.str.injEq, if_true]
theorem lenT (ss : List Str) (μ : Store) : fLenQ [tupN ss] μ = .ok (.int (ss.length : Int)) μ := by
  show Res.ok (Dat.int ((ss.map Dat.str).length : Int)) μ = _
  rw [List.length_map]
theorem before_spec {a b : List Str} (ha : a.length ≤ 6) (μ : Store) : wp (f__law_before [tupN a, tupN b] μ) fun d μ' => d = .bl (lexS a.reverse b.reverse) ∧ μ' = μ := by
  refine wp_nr ?_
  rw [wp_run]
  unfold b__law_before
  walk_at "nwp"
  refine wps_while (N := 6) (n := 6) (fun n δ μ2 => ∃ (j : Nat) (z : Int), δ = [some (tupN a), some (tupN b), some (.int z)] ∧ z = (j : Int) + 1 ∧ μ2 = μ ∧ j + n = 6 ∧ j ≤ a.length ∧ j ≤ b.length ∧ lexS a.reverse b.reverse = lexS (a.reverse.drop j) (b.reverse.drop j)) (by omega) ⟨0, 1, rfl, rfl, rfl, rfl, by omega, by omega, rfl⟩ ?_
  rintro n δ μ2 ⟨j, z, rfl, hz, rfl, hn, hja, hjb, hl⟩
  walk_at "nwp"
  rw [lenT]
  walk_at "nwp"
  have fin : j = a.length ∨ j = b.length → lexS a.reverse b.reverse = decide ((a.length : Int) < b.length) := by
    intro h
    rw [hl]
    by_cases h1 : j = a.length
    · rw [List.drop_eq_nil_of_le (as := a.reverse) (by rw [List.length_reverse]; omega)]
      by_cases h2 : j = b.length
      · rw [List.drop_eq_nil_of_le (as := b.reverse) (by rw [List.length_reverse]; omega), decide_eq_false (by omega)]
        rfl
      · rw [decide_eq_true (by omega)]
        have hne : b.reverse.drop j ≠ [] := by
          intro e
          have := congrArg List.length e
          rw [List.length_drop, List.length_reverse] at this
          simp at this
          omega
        cases hd : b.reverse.drop j with
        | nil => exact (hne hd).elim
        | cons x r => rfl
    · have h2 : j = b.length := by rcases h with h | h <;> omega
      rw [List.drop_eq_nil_of_le (as := b.reverse) (by rw [List.length_reverse]; omega), decide_eq_false (by omega)]
      cases a.reverse.drop j <;> rfl
  by_cases h1 : z ≤ a.length
  · rw [decide_eq_true h1]
    walk_at "nwp"
    rw [lenT]
    walk_at "nwp"
    by_cases h2 : z ≤ b.length
    · rw [decide_eq_true h2]
      walk_at "nwp"
      have ja : j < a.length := by omega
      have jb : j < b.length := by omega
      have ja' : j < a.reverse.length := by rw [List.length_reverse]; exact ja
      have jb' : j < b.reverse.length := by rw [List.length_reverse]; exact jb
      have ia : ∀ μ, fIxT (tupN a) (.int (-z)) μ = .ok (.str a.reverse[j]) μ := fun μ => by
        unfold fIxT tupN
        dsimp only
        rw [hz, atI_back _ _ (by rw [List.length_map]; exact ja), ← List.map_reverse, List.getElem?_map, List.getElem?_eq_getElem ja']
        rfl
      have ib : ∀ μ, fIxT (tupN b) (.int (-z)) μ = .ok (.str b.reverse[j]) μ := fun μ => by
        unfold fIxT tupN
        dsimp only
        rw [hz, atI_back _ _ (by rw [List.length_map]; exact jb), ← List.map_reverse, List.getElem?_map, List.getElem?_eq_getElem jb']
        rfl
      refine ⟨n - 1, by omega, ?_⟩
      rw [ia]
      walk_at "nwp"
      rw [ib]
      walk_at "nwp"
      rw [fNe_str]
      walk_at "nwp"
      have step : lexS (a.reverse.drop j) (b.reverse.drop j) = if a.reverse[j] = b.reverse[j] then lexS (a.reverse.drop (j + 1)) (b.reverse.drop (j + 1)) else ltT a.reverse[j] b.reverse[j] := by
        rw [List.drop_eq_getElem_cons ja', List.drop_eq_getElem_cons jb']
        rfl
      by_cases he : a.reverse[j] = b.reverse[j]
      · rw [decide_eq_true he]
        walk_at "nwp"
        rw [if_pos he] at step
        exact ⟨j + 1, z + 1, rfl, by omega, by omega, by omega, by omega, hl.trans step⟩
      · rw [decide_eq_false he]
        walk_at "nwp"
        rw [ia]
        walk_at "nwp"
        rw [ib]
        walk_at "nwp"
        rw [if_neg he] at step
        rw [hl, step]
        exact ⟨rfl, rfl⟩
    · rw [decide_eq_false h2]
      walk_at "nwp"
      rw [lenT]
      walk_at "nwp"
      rw [lenT]
      walk_at "nwp"
      rw [fin (by omega)]
      exact ⟨rfl, trivial⟩
  · rw [decide_eq_false h1]
    walk_at "nwp"
    rw [lenT]
    walk_at "nwp"
    rw [lenT]
    walk_at "nwp"
    rw [fin (by omega)]
    exact ⟨rfl, trivial⟩
end Nh

namespace Nh
open PySem PySem.Spec PyProof.Rows L2
local macro_rules | `(tactic| walk_at "nwp") => `(tactic| try simp only [wp_bind, wp_ok, wp_nrR, wps_toS, wps_nx, wps_rt, wps_seq, wp_run, wps_if, wp_if, wp_tAnd, wp_tOr, wp_tNot, startD, List.map_cons, List.map_nil, List.length_cons, List.length_nil, Nat.reduceAdd, Nat.reduceSub, List.replicate_succ, List.replicate_zero, List.cons_append, List.nil_append, List.getElem?_cons_zero, List.getElem?_cons_succ, List.set_cons_zero, List.set_cons_succ,
  asB, mVar, mC, mOp, mCB, maCons, maNil, mCall, msRet, msAsg, mgName, msDrop, msNext, msRaise, mTup, mChain, mUn, if_true, if_false, Bool.not_true, Bool.not_false, Bool.false_eq_true, reduceIte, Nat.reduceEqDiff, Nat.reduceLeDiff,
  eq_self_iff_true, true_and, isA_str, inSign_star, inSign_one, notInSign_one, fEq_str, fEq_int, fLe_int, fLt_int, fGt_int, fAdd_int, fSub_int, fNeg_int])
/-! ### kinds, and what may be looked at -/
def KS : List Str := ["addr", "text", "keeper", "other", "top", "key", "trust", "seal", "gap"]
theorem kinds_are : k_KINDS = KS.map Dat.str := rfl
def PR : Str := " !\"#$&'()*+,-./0123456789:;<=>?\x40[\\]^_`{|}~ABCDEFGHIJKLMNOPQRSTUVWXYZabcdefghijklmnopqrstuvwxyz"
def prS (s : Str) : Prop := ∀ q ∈ s.cps.toList, q ∈ PR.cps.toList
theorem PR_ok : ∀ q ∈ PR.cps.toList, q < 0x110000 := by decide +kernel
theorem prS.ok {s : Str} (h : prS s) : okS s := fun q hq => PR_ok q (h q hq)
theorem prS.app {a b : Str} (h1 : prS a) (h2 : prS b) : prS (a ++ b) := by
  intro q hq
  rw [toList_app] at hq
  rcases List.mem_append.mp hq with h | h
  · exact h1 q h
  · exact h2 q h
theorem label_pr {s : Str} (h : isLabelS s = true) : prS s := by
  unfold isLabelS at h
  split at h
  · split at h
    · have e := of_decide_eq_true h
      subst e
      unfold prS
      decide +kernel
    · intro q hq
      have h2 := of_decide_eq_true (List.all_eq_true.mp h q hq)
      have h3 : ∀ q ∈ ("abcdefghijklmnopqrstuvwxyz0123456789-*" : Str).cps.toList, q ∈ PR.cps.toList := by decide +kernel
      exact h3 q h2
  · cases h
/-- what may be looked at -/
inductive OkD (μ : Store) : Dat → Prop
  | non : OkD μ .non
  | bl (b : Bool) : OkD μ (.bl b)
  | int (i : Int) : OkD μ (.int i)
  | str {s : Str} : s.length ≤ 1000 → prS s → OkD μ (.str s)
  | tup {ds : List Dat} : ds.length ≤ 20 → (∀ e ∈ ds, OkD μ e) → OkD μ (.tup ds)
  | cell {k : Nat} {t : String} : tyD μ (.cell k) = some (.inl t) → (t = "list" ∨ t = "dict") → OkD μ (.cell k)
theorem OkD.app {μ g : Store} {d : Dat} (h : OkD μ d) : OkD (μ ++ g) d := by
  induction h with
  | non => exact .non
  | bl b => exact .bl b
  | int i => exact .int i
  | str h1 h2 => exact .str h1 h2
  | tup hl h ih => exact .tup hl ih
  | cell h1 h2 => exact .cell (tyD_app h1) h2
theorem OkD.tups {μ : Store} {ds : List Dat} (h : OkD μ (.tup ds)) : ds.length ≤ 20 ∧ ∀ e ∈ ds, OkD μ e := by
  cases h with
  | tup hl h => exact ⟨hl, h⟩
/-- the kind of a thing that may be looked at, and the asked one -/
def tyB (t : String) : Dat → Bool
  | .bl _ => decide (t = "int") || decide (t = "bool")
  | .int _ => decide (t = "int")
  | .str _ => decide (t = "str")
  | .tup _ => decide (t = "tuple")
  | _ => false
theorem isA_ok {μ : Store} {d : Dat} {t : String} (h : OkD μ d) (ht : t = "int" ∨ t = "bool" ∨ t = "str" ∨ t = "tuple") : fIsA tab [d, .ty t] μ = .ok (.bl (tyB t d)) μ := by
  rcases ht with rfl | rfl | rfl | rfl <;> cases h with
  | cell h1 h2 => rcases h2 with rfl | rfl <;> exact isA_k h1 (by dsimp only [tyB]; decide +kernel)
  | _ => exact isA_k rfl (by dsimp only [tyB]; decide +kernel)
theorem OkD.ok1 {μ : Store} {d : Dat} (h : OkD μ d) : Ok1 μ d := by
  cases h with
  | str h1 h2 => exact .inl ⟨_, rfl, by omega, h2.ok⟩
  | non => exact .inr ⟨(fun s e => by cases e), _, rfl, by decide +kernel⟩
  | bl b => exact .inr ⟨(fun s e => by cases e), _, rfl, by decide +kernel⟩
  | int i => exact .inr ⟨(fun s e => by cases e), _, rfl, by decide +kernel⟩
  | tup _ _ => exact .inr ⟨(fun s e => by cases e), _, rfl, by decide +kernel⟩
  | cell h1 h2 => rcases h2 with rfl | rfl <;> exact .inr ⟨(fun s e => by cases e), _, h1, by decide +kernel⟩
theorem OkD.okN {μ : Store} {d : Dat} (h : OkD μ d) : OkN μ d := by
  cases h with
  | tup hl h => exact .inl ⟨_, rfl, fun e he => (h e he).ok1⟩
  | str h1 h2 => exact .inr ⟨(fun s e => by cases e), _, rfl, by decide +kernel⟩
  | non => exact .inr ⟨(fun s e => by cases e), _, rfl, by decide +kernel⟩
  | bl b => exact .inr ⟨(fun s e => by cases e), _, rfl, by decide +kernel⟩
  | int i => exact .inr ⟨(fun s e => by cases e), _, rfl, by decide +kernel⟩
  | cell h1 h2 => rcases h2 with rfl | rfl <;> exact .inr ⟨(fun s e => by cases e), _, h1, by decide +kernel⟩
theorem tyB_int (d : Dat) : tyB "int" d = true ↔ (∃ i, d = .int i) ∨ ∃ b, d = .bl b := by
  cases d <;> simp [tyB]
theorem tyB_bool (d : Dat) : tyB "bool" d = true ↔ ∃ b, d = .bl b := by
  cases d <;> simp [tyB]
theorem tyB_str (d : Dat) : tyB "str" d = true ↔ ∃ s, d = .str s := by
  cases d <;> simp [tyB]
theorem tyB_tup (d : Dat) : tyB "tuple" d = true ↔ ∃ ds, d = .tup ds := by
  cases d <;> simp [tyB]
/-! ### the looks -/
def amongB : Dat → Int → Int → Bool
  | .int i, lo, hi => decide (lo ≤ i) && decide (i ≤ hi)
  | _, _, _ => false
def kindB : Dat → Bool
  | .str s => decide (s ∈ KS)
  | _ => false
def starless1 (d : Dat) : Bool := match d with
  | .tup ds => isNameD d && !ds.any isStarD
  | _ => false
def risingL : List Dat → Bool
  | .str a :: .str b :: r => ltT a b && risingL (.str b :: r)
  | _ => true
def risingB : Dat → Bool
  | .tup ds => ds.all kindB && risingL ds
  | _ => false
def textB : Dat → Bool
  | .str s => decide (s.length ≤ 30)
  | _ => false
def topB : Dat → Bool
  | .tup [v, n] => amongB v 0 4294967295 && amongB n 0 1000000
  | _ => false
def isSeal : Dat → Bool
  | .str s => decide (s = "seal")
  | _ => false
def sealB : Dat → Bool
  | .tup [a, b, c] => kindB a && (!isSeal a && (amongB b 1 1000000000000 && amongB c 0 1000000006))
  | _ => false
def gapB : Dat → Bool
  | .tup [n, ks] => isNameD n && risingB ks
  | _ => false
def dataB (k : Str) (x : Dat) : Bool :=
  if k = "addr" then amongB x 0 (2 ^ 64 - 1) else
  if k = "text" then textB x else
  if k = "keeper" ∨ k = "other" then starless1 x else
  if k = "key" ∨ k = "trust" then amongB x 1 1000000000000 else
  if k = "top" then topB x else
  if k = "seal" then sealB x else gapB x
def recB : Dat → Bool
  | .tup [n, .str k, l, x] => isNameD n && (kindB (.str k) && (amongB l 0 1000000 && dataB k x))
  | _ => false
theorem inV_strs (s : Str) : ∀ ss : List Str, inV (V.str s) (ss.map V.str) = decide (s ∈ ss)
  | [] => rfl
  | t :: r => by
    have ih := inV_strs s r
    unfold inV at ih ⊢
    rw [List.map_cons, List.any_cons, ih]
    show ((t == s) || decide (s ∈ r)) = _
    by_cases h : t = s
    · subst h; simp
    · have h' : ¬ s = t := fun e => h e.symm
      simp [h, h']
theorem fIn_kinds {s : Str} {μ : Store} {ds : Dat} (h : seqD μ ds = some (KS.map Dat.str)) : fIn false (.str s) ds μ = .ok (.bl (decide (s ∈ KS))) μ := by
  simp only [fIn, toV, h, Option.bind_some, toVs_strs, inV_strs, Bool.false_eq_true, if_false]
theorem fLenQ_tup {ds : List Dat} {μ : Store} : fLenQ [.tup ds] μ = .ok (.int (ds.length : Int)) μ := rfl
theorem fNe_int (a b : Int) (μ : Store) : fNe (.int a) (.int b) μ = .ok (.bl (!decide (a = b))) μ := by
  simp only [fNe, toV, scal, V.int.injEq, if_true]
theorem fNe_s (a b : Str) (μ : Store) : fNe (.str a) (.str b) μ = .ok (.bl (!decide (a = b))) μ := by
  simp only [fNe, toV, scal, V.str.injEq, if_true]
theorem len2 {α : Type} {ds : List α} (h : ds.length = 2) : ∃ a b, ds = [a, b] := by
  match ds, h with
  | [a, b], _ => exact ⟨a, b, rfl⟩
theorem len3 {α : Type} {ds : List α} (h : ds.length = 3) : ∃ a b c, ds = [a, b, c] := by
  match ds, h with
  | [a, b, c], _ => exact ⟨a, b, c, rfl⟩
theorem len4 {α : Type} {ds : List α} (h : ds.length = 4) : ∃ a b c d, ds = [a, b, c, d] := by
  match ds, h with
  | [a, b, c, d], _ => exact ⟨a, b, c, d, rfl⟩
theorem topB_no {d : Dat} (h : ∀ a b, d ≠ .tup [a, b]) : topB d = false := by
  unfold topB
  split
  · exact (h _ _ rfl).elim
  · rfl
theorem sealB_no {d : Dat} (h : ∀ a b c, d ≠ .tup [a, b, c]) : sealB d = false := by
  unfold sealB
  split
  · exact (h _ _ _ rfl).elim
  · rfl
theorem gapB_no {d : Dat} (h : ∀ a b, d ≠ .tup [a, b]) : gapB d = false := by
  unfold gapB
  split
  · exact (h _ _ rfl).elim
  · rfl
theorem recB_no {d : Dat} (h : ∀ a b c e, d ≠ .tup [a, b, c, e]) : recB d = false := by
  unfold recB
  split
  · exact (h _ _ _ _ rfl).elim
  · rfl
theorem kindB_str {d : Dat} (h : kindB d = true) : ∃ s, d = .str s ∧ s ∈ KS := by
  cases d with
  | str s => exact ⟨s, rfl, of_decide_eq_true h⟩
  | _ => cases h
theorem recB_is (n k l x : Dat) : recB (.tup [n, k, l, x]) = (isNameD n && (kindB k && (amongB l 0 1000000 && match k with | .str s => dataB s x | _ => false))) := by
  cases k with
  | str s => rfl
  | _ => simp [recB, kindB]
theorem tyB_no {d : Dat} {t : String} (h : ¬ tyB t d = true) : tyB t d = false := by
  cases e : tyB t d with
  | false => rfl
  | true => exact (h e).elim
end Nh

namespace Nh
open PySem PySem.Spec PyProof.Rows L2
local macro_rules | `(tactic| walk_at "nwp") => `(tactic| try simp only [wp_bind, wp_ok, wp_nrR, wps_toS, wps_nx, wps_rt, wps_seq, wp_run, wps_if, wp_if, wp_tAnd, wp_tOr, wp_tNot, startD, List.map_cons, List.map_nil, List.length_cons, List.length_nil, Nat.reduceAdd, Nat.reduceSub, List.replicate_succ, List.replicate_zero, List.cons_append, List.nil_append, List.getElem?_cons_zero, List.getElem?_cons_succ, List.set_cons_zero, List.set_cons_succ,
  asB, mVar, mC, mOp, mCB, maCons, maNil, mCall, msRet, msAsg, mgName, msDrop, msNext, msRaise, mTup, mChain, mUn, if_true, if_false, Bool.not_true, Bool.not_false, Bool.false_eq_true, reduceIte, Nat.reduceEqDiff, Nat.reduceLeDiff,
  eq_self_iff_true, true_and, isA_str, inSign_star, inSign_one, notInSign_one, fEq_str, fEq_int, fLe_int, fLt_int, fGt_int, fAdd_int, fSub_int, fNeg_int])
section
variable {μ : Store} {d : Dat}
theorem is_whole_spec (h : OkD μ d) : wp (f_is_whole [d] μ) fun r μ' => r = .bl (tyB "int" d && !tyB "bool" d) ∧ μ' = μ := by
  refine wp_nr ?_
  rw [wp_run]
  unfold b_is_whole mAnd mNot
  walk_at "nwp"
  rw [isA_ok h (.inl rfl)]
  walk_at "nwp"
  cases e : tyB "int" d with
  | true =>
    walk_at "nwp"
    rw [isA_ok h (.inr (.inl rfl))]
    walk_at "nwp"
    (first | exact ⟨rfl, rfl⟩ | rfl | trivial | exact ⟨rfl, [], by simp⟩ | exact ⟨[], by simp⟩ | exact ⟨by simp [*], trivial⟩ | exact ⟨by simp [*], [], by simp⟩)
  | false =>
    walk_at "nwp"
    (first | exact ⟨rfl, rfl⟩ | rfl | trivial | exact ⟨rfl, [], by simp⟩ | exact ⟨[], by simp⟩ | exact ⟨by simp [*], trivial⟩ | exact ⟨by simp [*], [], by simp⟩)
theorem within_spec (h : OkD μ d) (lo hi : Int) : wp (f_within [d, .int lo, .int hi] μ) fun r μ' => r = .bl (amongB d lo hi) ∧ μ' = μ := by
  refine wp_nr ?_
  rw [wp_run]
  unfold b_within mAnd
  walk_at "nwp"
  refine wp_imp (is_whole_spec h) ?_
  rintro r μ' ⟨rfl, rfl⟩
  cases h with
  | int i =>
    rw [show (tyB "int" (Dat.int i) && !tyB "bool" (Dat.int i)) = true by simp [tyB]]
    walk_at "nwp"
    unfold amongB
    by_cases h1 : lo ≤ i
    · rw [decide_eq_true h1]
      walk_at "nwp"
      (first | exact ⟨rfl, rfl⟩ | rfl | trivial | exact ⟨rfl, [], by simp⟩ | exact ⟨[], by simp⟩ | exact ⟨by simp [*], trivial⟩ | exact ⟨by simp [*], [], by simp⟩)
    · rw [decide_eq_false h1]
      walk_at "nwp"
      (first | exact ⟨rfl, rfl⟩ | rfl | trivial | exact ⟨rfl, [], by simp⟩ | exact ⟨[], by simp⟩ | exact ⟨by simp [*], trivial⟩ | exact ⟨by simp [*], [], by simp⟩)
  | bl b =>
    rw [show (tyB "int" (Dat.bl b) && !tyB "bool" (Dat.bl b)) = false by simp [tyB]]
    walk_at "nwp"
    (first | exact ⟨rfl, rfl⟩ | rfl | trivial | exact ⟨rfl, [], by simp⟩ | exact ⟨[], by simp⟩ | exact ⟨by simp [*], trivial⟩ | exact ⟨by simp [*], [], by simp⟩)
  | non =>
    rw [show (tyB "int" Dat.non && !tyB "bool" Dat.non) = false by simp [tyB]]
    walk_at "nwp"
    (first | exact ⟨rfl, rfl⟩ | rfl | trivial | exact ⟨rfl, [], by simp⟩ | exact ⟨[], by simp⟩ | exact ⟨by simp [*], trivial⟩ | exact ⟨by simp [*], [], by simp⟩)
  | str h1 h2 =>
    rw [show (tyB "int" (Dat.str _) && !tyB "bool" (Dat.str _)) = false by simp [tyB]]
    walk_at "nwp"
    (first | exact ⟨rfl, rfl⟩ | rfl | trivial | exact ⟨rfl, [], by simp⟩ | exact ⟨[], by simp⟩ | exact ⟨by simp [*], trivial⟩ | exact ⟨by simp [*], [], by simp⟩)
  | tup h1 h2 =>
    rw [show (tyB "int" (Dat.tup _) && !tyB "bool" (Dat.tup _)) = false by simp [tyB]]
    walk_at "nwp"
    (first | exact ⟨rfl, rfl⟩ | rfl | trivial | exact ⟨rfl, [], by simp⟩ | exact ⟨[], by simp⟩ | exact ⟨by simp [*], trivial⟩ | exact ⟨by simp [*], [], by simp⟩)
  | cell h1 h2 =>
    walk_at "nwp"
    (first | exact ⟨rfl, rfl⟩ | rfl | trivial | exact ⟨rfl, [], by simp⟩ | exact ⟨[], by simp⟩ | exact ⟨by simp [*], trivial⟩ | exact ⟨by simp [*], [], by simp⟩)
theorem is_kind_spec (h : OkD μ d) : wp (f_is_kind [d] μ) fun r μ' => r = .bl (kindB d) ∧ μ' = μ := by
  refine wp_nr ?_
  rw [wp_run]
  unfold b_is_kind mAnd
  walk_at "nwp"
  rw [isA_ok h (.inr (.inr (.inl rfl)))]
  walk_at "nwp"
  by_cases ht : ∃ s, d = .str s
  · obtain ⟨s, rfl⟩ := ht
    rw [(tyB_str _).mpr ⟨s, rfl⟩]
    dsimp only
    walk_at "nwp"
    rw [fIn_kinds (ds := .ct k_KINDS) (by rw [kinds_are]; rfl)]
    (first | exact ⟨rfl, rfl⟩ | rfl | trivial | exact ⟨rfl, [], by simp⟩ | exact ⟨[], by simp⟩ | exact ⟨by simp [*], trivial⟩ | exact ⟨by simp [*], [], by simp⟩)
  · rw [tyB_no (t := "str") (fun z => ht ((tyB_str _).mp z))]
    dsimp only
    walk_at "nwp"
    have : kindB d = false := by
      cases d with
      | str s => exact (ht ⟨s, rfl⟩).elim
      | _ => rfl
    rw [this]
    (first | exact ⟨rfl, rfl⟩ | rfl | trivial | exact ⟨rfl, [], by simp⟩ | exact ⟨[], by simp⟩ | exact ⟨by simp [*], trivial⟩ | exact ⟨by simp [*], [], by simp⟩)
theorem is_life_spec (h : OkD μ d) : wp (f_is_life [d] μ) fun r μ' => r = .bl (amongB d 0 1000000) ∧ μ' = μ := by
  refine wp_nr ?_
  rw [wp_run]
  unfold b_is_life
  walk_at "nwp"
  exact wp_imp (within_spec h 0 1000000) fun _ _ z => z
theorem is_key_spec (h : OkD μ d) : wp (f_is_key [d] μ) fun r μ' => r = .bl (amongB d 1 1000000000000) ∧ μ' = μ := by
  refine wp_nr ?_
  rw [wp_run]
  unfold b_is_key
  walk_at "nwp"
  exact wp_imp (within_spec h 1 1000000000000) fun _ _ z => z
theorem is_version_spec (h : OkD μ d) : wp (f_is_version [d] μ) fun r μ' => r = .bl (amongB d 0 4294967295) ∧ μ' = μ := by
  refine wp_nr ?_
  rw [wp_run]
  unfold b_is_version
  walk_at "nwp"
  exact wp_imp (within_spec h 0 4294967295) fun _ _ z => z
theorem pow_264 (μ : Store) : fPow (.int 2) (.int 64) μ = .ok (.int (2 ^ 64)) μ := by rfl
theorem is_addr_spec (h : OkD μ d) : wp (f_is_addr [d] μ) fun r μ' => r = .bl (amongB d 0 (2 ^ 64 - 1)) ∧ μ' = μ := by
  refine wp_nr ?_
  rw [wp_run]
  unfold b_is_addr
  walk_at "nwp"
  rw [pow_264]
  walk_at "nwp"
  exact wp_imp (within_spec h 0 (2 ^ 64 - 1)) fun _ _ z => z
theorem sign_two : ∀ q ∈ PR.cps.toList, q ∈ (" !\"#$" : Str).cps.toList ∨ q ∈ ("&'()*+,-./0123456789:;<=>?\x40ABCDEFGHIJKLMNOPQRSTUVWXYZ[\\]^_`abcdefghijklmnopqrstuvwxyz{|}~" : Str).cps.toList := by decide +kernel
theorem is_sign_spec {q : Nat} (h : q ∈ PR.cps.toList) (μ : Store) : wp (f_is_sign [.str ⟨#[q]⟩] μ) fun r μ' => r = .bl true ∧ μ' = μ := by
  refine wp_nr ?_
  rw [wp_run]
  unfold b_is_sign mOr
  walk_at "nwp"
  by_cases h1 : q ∈ (" !\"#$" : Str).cps.toList
  · rw [decide_eq_true h1]
    dsimp only
    walk_at "nwp"
    try (first | exact ⟨rfl, rfl⟩ | rfl | trivial | exact ⟨rfl, [], by simp⟩ | exact ⟨[], by simp⟩ | exact ⟨by simp [*], trivial⟩ | exact ⟨by simp [*], [], by simp⟩)
  · rw [decide_eq_false h1]
    dsimp only
    walk_at "nwp"
    rw [decide_eq_true ((sign_two q h).resolve_left h1)]
    try (first | exact ⟨rfl, rfl⟩ | rfl | trivial | exact ⟨rfl, [], by simp⟩ | exact ⟨[], by simp⟩ | exact ⟨by simp [*], trivial⟩ | exact ⟨by simp [*], [], by simp⟩)
theorem is_text_spec (h : OkD μ d) : wp (f__is_text [d] μ) fun r μ' => r = .bl (textB d) ∧ ∃ g, μ' = μ ++ g := by
  refine wp_nr ?_
  rw [wp_run]
  unfold b__is_text mAnd
  walk_at "nwp"
  rw [isA_ok h (.inr (.inr (.inl rfl)))]
  walk_at "nwp"
  by_cases ht : ∃ s, d = .str s
  · obtain ⟨s, rfl⟩ := ht
    rw [(tyB_str _).mpr ⟨s, rfl⟩]
    obtain ⟨hs, hp⟩ : s.length ≤ 1000 ∧ prS s := by cases h with | str h1 h2 => exact ⟨h1, h2⟩
    dsimp only
    walk_at "nwp"
    rw [fLen_str (by rw [sl16]; omega)]
    walk_at "nwp"
    unfold textB
    dsimp only
    by_cases h3 : (s.length : Int) ≤ 30
    · rw [decide_eq_true h3, decide_eq_true (show s.length ≤ 30 by omega)]
      dsimp only
      walk_at "nwp"
      refine wp_lc_map (s := srcS s) (s.cps.toList.map fun q => Dat.str ⟨#[q]⟩) (fun _ => true) (fun d => .bl true) rfl (by simp [srcS]) (srcS_get s) (fun _ => rfl) (by simp; have := sizeLine_eq; have hh : s.cps.size = s.length := rfl; omega) (fun i d g acc hd => ?_) fun g => ?_
      · rw [List.getElem?_map] at hd
        cases hq : s.cps.toList[i]? with
        | none => rw [hq] at hd; cases hd
        | some q =>
          rw [hq] at hd
          cases hd
          refine ⟨_, rfl, rfl, g, rfl, fun _ => ?_⟩
          dsimp only [wipeD]
          walk_at "nwp"
          refine wp_imp (is_sign_spec (hp q (List.mem_of_getElem? hq)) _) ?_
          rintro r μ' ⟨rfl, rfl⟩
          exact ⟨rfl, g, rfl⟩
      · rw [fAll_mid (bs := s.cps.toList.map fun q => true) (by rw [filter_yes, List.map_map, List.map_map]; rfl)]
        refine ⟨?_, _, rfl⟩
        rw [show (s.cps.toList.map fun q => true).all id = true by simp]
    · rw [decide_eq_false h3, decide_eq_false (show ¬ s.length ≤ 30 by omega)]
      dsimp only
      walk_at "nwp"
      (first | exact ⟨rfl, rfl⟩ | rfl | trivial | exact ⟨rfl, [], by simp⟩ | exact ⟨[], by simp⟩ | exact ⟨by simp [*], trivial⟩ | exact ⟨by simp [*], [], by simp⟩)
  · rw [tyB_no (t := "str") (fun z => ht ((tyB_str _).mp z))]
    dsimp only
    walk_at "nwp"
    have : textB d = false := by
      cases d with
      | str s => exact (ht ⟨s, rfl⟩).elim
      | _ => rfl
    rw [this]
    (first | exact ⟨rfl, rfl⟩ | rfl | trivial | exact ⟨rfl, [], by simp⟩ | exact ⟨[], by simp⟩ | exact ⟨by simp [*], trivial⟩ | exact ⟨by simp [*], [], by simp⟩)
theorem is_starless_spec (h : OkD μ d) : wp (f_is_starless [d] μ) fun r μ' => r = .bl (starless1 d) ∧ ∃ g, μ' = μ ++ g := by
  refine wp_nr ?_
  rw [wp_run]
  unfold b_is_starless mAnd
  walk_at "nwp"
  refine wp_imp (is_name_spec h.okN) ?_
  rintro r μ' ⟨rfl, g, rfl⟩
  cases hn : isNameD d with
  | true =>
    obtain ⟨ss, rfl, hs⟩ := name_strs hn
    dsimp only
    walk_at "nwp"
    rw [fNotIn_star]
    unfold starless1
    dsimp only
    rw [hn, Bool.true_and]
    exact ⟨rfl, g, rfl⟩
  | false =>
    dsimp only
    walk_at "nwp"
    have : starless1 d = false := by
      unfold starless1
      split
      · rw [hn]; rfl
      · rfl
    rw [this]
    exact ⟨rfl, g, rfl⟩
theorem is_named_spec (h : OkD μ d) : wp (f__is_named [d] μ) fun r μ' => r = .bl (starless1 d) ∧ ∃ g, μ' = μ ++ g := by
  refine wp_nr ?_
  rw [wp_run]
  unfold b__is_named
  walk_at "nwp"
  exact wp_imp (is_starless_spec h) fun _ _ z => z
theorem is_top_spec (h : OkD μ d) : wp (f__is_top [d] μ) fun r μ' => r = .bl (topB d) ∧ ∃ g, μ' = μ ++ g := by
  refine wp_nr ?_
  rw [wp_run]
  unfold b__is_top
  walk_at "nwp"
  rw [isA_ok h (.inr (.inr (.inr rfl)))]
  walk_at "nwp"
  by_cases ht : ∃ ds, d = .tup ds
  · obtain ⟨ds, rfl⟩ := ht
    rw [(tyB_tup _).mpr ⟨ds, rfl⟩]
    walk_at "nwp"
    rw [fLenQ_tup]
    walk_at "nwp"
    rw [fNe_int]
    by_cases hl : (ds.length : Int) = 2
    · rw [decide_eq_true hl]
      obtain ⟨a, b, rfl⟩ := len2 (by omega : ds.length = 2)
      have ha := h.tups.2 a (by simp)
      have hb := h.tups.2 b (by simp)
      walk_at "nwp"
      rw [show ∀ x y z, mgTup [1, 2] (.tup [a, b]) [x, y, z] = some [x, some a, some b] from fun _ _ _ => rfl]
      unfold mAnd
      walk_at "nwp"
      refine wp_imp (is_version_spec ha) ?_
      rintro r μ' ⟨rfl, rfl⟩
      unfold topB
      cases ea : amongB a 0 4294967295 with
      | true =>
        dsimp only
        walk_at "nwp"
        refine wp_imp (is_life_spec hb) ?_
        rintro r μ' ⟨rfl, rfl⟩
        (first | exact ⟨rfl, rfl⟩ | rfl | trivial | exact ⟨rfl, [], by simp⟩ | exact ⟨[], by simp⟩ | exact ⟨by simp [*], trivial⟩ | exact ⟨by simp [*], [], by simp⟩)
      | false =>
        dsimp only
        walk_at "nwp"
        (first | exact ⟨rfl, rfl⟩ | rfl | trivial | exact ⟨rfl, [], by simp⟩ | exact ⟨[], by simp⟩ | exact ⟨by simp [*], trivial⟩ | exact ⟨by simp [*], [], by simp⟩)
    · rw [decide_eq_false hl]
      walk_at "nwp"
      rw [topB_no fun a b e => by cases e; exact hl rfl]
      (first | exact ⟨rfl, rfl⟩ | rfl | trivial | exact ⟨rfl, [], by simp⟩ | exact ⟨[], by simp⟩ | exact ⟨by simp [*], trivial⟩ | exact ⟨by simp [*], [], by simp⟩)
  · rw [tyB_no (t := "tuple") (fun z => ht ((tyB_tup _).mp z))]
    walk_at "nwp"
    rw [topB_no fun a b e => ht ⟨_, e⟩]
    (first | exact ⟨rfl, rfl⟩ | rfl | trivial | exact ⟨rfl, [], by simp⟩ | exact ⟨[], by simp⟩ | exact ⟨by simp [*], trivial⟩ | exact ⟨by simp [*], [], by simp⟩)
theorem is_seal_spec (h : OkD μ d) : wp (f__is_seal [d] μ) fun r μ' => r = .bl (sealB d) ∧ ∃ g, μ' = μ ++ g := by
  refine wp_nr ?_
  rw [wp_run]
  unfold b__is_seal
  walk_at "nwp"
  rw [isA_ok h (.inr (.inr (.inr rfl)))]
  walk_at "nwp"
  by_cases ht : ∃ ds, d = .tup ds
  · obtain ⟨ds, rfl⟩ := ht
    rw [(tyB_tup _).mpr ⟨ds, rfl⟩]
    walk_at "nwp"
    rw [fLenQ_tup]
    walk_at "nwp"
    rw [fNe_int]
    by_cases hl : (ds.length : Int) = 3
    · rw [decide_eq_true hl]
      obtain ⟨a, b, c, rfl⟩ := len3 (by omega : ds.length = 3)
      have ha := h.tups.2 a (by simp)
      have hb := h.tups.2 b (by simp)
      have hc := h.tups.2 c (by simp)
      walk_at "nwp"
      rw [show ∀ x y z u, mgTup [1, 2, 3] (.tup [a, b, c]) [x, y, z, u] = some [x, some a, some b, some c] from fun _ _ _ _ => rfl]
      unfold mAnd
      walk_at "nwp"
      refine wp_imp (is_kind_spec ha) ?_
      rintro r μ' ⟨rfl, rfl⟩
      unfold sealB
      cases hk : kindB a with
      | true =>
        obtain ⟨s, rfl, hs⟩ := kindB_str hk
        dsimp only
        walk_at "nwp"
        rw [fNe_s]
        unfold isSeal
        by_cases h1 : s = "seal"
        · rw [decide_eq_true h1]
          dsimp only
          walk_at "nwp"
          (first | exact ⟨rfl, rfl⟩ | rfl | trivial | exact ⟨rfl, [], by simp⟩ | exact ⟨[], by simp⟩ | exact ⟨by simp [*], trivial⟩ | exact ⟨by simp [*], [], by simp⟩)
        · rw [decide_eq_false h1]
          dsimp only
          walk_at "nwp"
          refine wp_imp (is_key_spec hb) ?_
          rintro r μ' ⟨rfl, rfl⟩
          cases eb : amongB b 1 1000000000000 with
          | true =>
            dsimp only
            walk_at "nwp"
            refine wp_imp (within_spec hc 0 1000000006) ?_
            rintro r μ' ⟨rfl, rfl⟩
            (first | exact ⟨rfl, rfl⟩ | rfl | trivial | exact ⟨rfl, [], by simp⟩ | exact ⟨[], by simp⟩ | exact ⟨by simp [*], trivial⟩ | exact ⟨by simp [*], [], by simp⟩)
          | false =>
            dsimp only
            walk_at "nwp"
            (first | exact ⟨rfl, rfl⟩ | rfl | trivial | exact ⟨rfl, [], by simp⟩ | exact ⟨[], by simp⟩ | exact ⟨by simp [*], trivial⟩ | exact ⟨by simp [*], [], by simp⟩)
      | false =>
        dsimp only
        walk_at "nwp"
        (first | exact ⟨rfl, rfl⟩ | rfl | trivial | exact ⟨rfl, [], by simp⟩ | exact ⟨[], by simp⟩ | exact ⟨by simp [*], trivial⟩ | exact ⟨by simp [*], [], by simp⟩)
    · rw [decide_eq_false hl]
      walk_at "nwp"
      rw [sealB_no fun a b c e => by cases e; exact hl rfl]
      (first | exact ⟨rfl, rfl⟩ | rfl | trivial | exact ⟨rfl, [], by simp⟩ | exact ⟨[], by simp⟩ | exact ⟨by simp [*], trivial⟩ | exact ⟨by simp [*], [], by simp⟩)
  · rw [tyB_no (t := "tuple") (fun z => ht ((tyB_tup _).mp z))]
    walk_at "nwp"
    rw [sealB_no fun a b c e => ht ⟨_, e⟩]
    (first | exact ⟨rfl, rfl⟩ | rfl | trivial | exact ⟨rfl, [], by simp⟩ | exact ⟨[], by simp⟩ | exact ⟨by simp [*], trivial⟩ | exact ⟨by simp [*], [], by simp⟩)
end
end Nh

namespace Nh
open PySem PySem.Spec PyProof.Rows L2
local macro_rules | `(tactic| walk_at "nwp") => `(tactic| try simp only [wp_bind, wp_ok, wp_nrR, wps_toS, wps_nx, wps_rt, wps_seq, wp_run, wps_if, wp_if, wp_tAnd, wp_tOr, wp_tNot, startD, List.map_cons, List.map_nil, List.length_cons, List.length_nil, Nat.reduceAdd, Nat.reduceSub, List.replicate_succ, List.replicate_zero, List.cons_append, List.nil_append, List.getElem?_cons_zero, List.getElem?_cons_succ, List.set_cons_zero, List.set_cons_succ,
  asB, mVar, mC, mOp, mCB, maCons, maNil, mCall, msRet, msAsg, mgName, msDrop, msNext, msRaise, mTup, mChain, mUn, if_true, if_false, Bool.not_true, Bool.not_false, Bool.false_eq_true, reduceIte, Nat.reduceEqDiff, Nat.reduceLeDiff,
  eq_self_iff_true, true_and, isA_str, inSign_star, inSign_one, notInSign_one, fEq_str, fEq_int, fLe_int, fLt_int, fGt_int, fAdd_int, fSub_int, fNeg_int])
/-! ### rising kinds -/
theorem pairAt_zip : ∀ (ds es : List Dat) (i : Nat), pairAt ds es i = ((ds.zip es).map fun p => Dat.tup [p.1, p.2])[i]? := by
  intro ds
  induction ds with
  | nil => intro es i; simp [pairAt]
  | cons d r ih =>
    intro es i
    cases es with
    | nil => simp [pairAt]
    | cons e t =>
      cases i with
      | zero => simp [pairAt]
      | succ i =>
        have := ih t i
        simpa [pairAt] using this
theorem rise_zip : ∀ ss : List Str, ((ss.zip (ss.drop 1)).map fun p => ltT p.1 p.2).all id = risingL (ss.map Dat.str)
  | [] => rfl
  | [a] => rfl
  | a :: b :: r => by
    have ih := rise_zip (b :: r)
    simp only [List.drop_succ_cons, List.drop_zero, List.zip_cons_cons, List.map_cons, List.all_cons, id] at ih ⊢
    rw [ih]
    rfl
theorem kinds_strs : ∀ {ds : List Dat}, ds.all kindB = true → ∃ ss : List Str, ds = ss.map Dat.str ∧ ∀ s ∈ ss, s ∈ KS
  | [], _ => ⟨[], rfl, fun _ h => nomatch h⟩
  | d :: r, h => by
    rw [List.all_cons, Bool.and_eq_true] at h
    obtain ⟨ss, e, h2⟩ := kinds_strs h.2
    obtain ⟨s, rfl, hs⟩ := kindB_str h.1
    refine ⟨s :: ss, by rw [e]; rfl, fun t ht => ?_⟩
    rcases List.mem_cons.mp ht with rfl | ht
    · exact hs
    · exact h2 t ht
theorem zip_strs (as bs : List Str) : (((as.map Dat.str).zip (bs.map Dat.str)).map fun p => Dat.tup [p.1, p.2]) = (as.zip bs).map fun p => Dat.tup [.str p.1, .str p.2] := by
  rw [List.zip_map, List.map_map]
  rfl
section
variable {μ : Store} {d : Dat}
theorem rising_spec (h : OkD μ d) : wp (f__are_rising_kinds [d] μ) fun r μ' => r = .bl (risingB d) ∧ ∃ g, μ' = μ ++ g := by
  refine wp_nr ?_
  rw [wp_run]
  unfold b__are_rising_kinds
  walk_at "nwp"
  rw [isA_ok h (.inr (.inr (.inr rfl)))]
  walk_at "nwp"
  by_cases ht : ∃ ds, d = .tup ds
  · obtain ⟨ds, rfl⟩ := ht
    rw [(tyB_tup _).mpr ⟨ds, rfl⟩]
    obtain ⟨hl, hds⟩ := h.tups
    walk_at "nwp"
    refine wp_lc_map (s := srcT ds) ds (fun _ => true) (fun e => .bl (kindB e)) rfl rfl (fun _ _ => rfl) (fun _ => rfl) (by rw [sl16]; omega) (fun i e g acc he => ?_) fun g => ?_
    · refine ⟨_, rfl, rfl, g, rfl, fun _ => ?_⟩
      dsimp only [wipeD]
      walk_at "nwp"
      refine wp_imp (is_kind_spec ((hds e (List.mem_of_getElem? he)).app)) ?_
      rintro r μ' ⟨rfl, rfl⟩
      exact ⟨rfl, g, rfl⟩
    · rw [filter_yes, fAll_mid (bs := ds.map kindB) (by rw [List.map_map]; rfl), List.all_map]
      walk_at "nwp"
      unfold risingB
      dsimp only
      cases hall : ds.all kindB with
      | false =>
        rw [show (ds.all (id ∘ kindB)) = false from hall]
        walk_at "nwp"
        exact ⟨rfl, _, rfl⟩
      | true =>
        rw [show (ds.all (id ∘ kindB)) = true from hall]
        obtain ⟨ss, rfl, hk⟩ := kinds_strs hall
        walk_at "nwp"
        rw [Bool.true_and]
        generalize hμ : μ ++ Cell.lst ((ss.map Dat.str).map fun e => .bl (kindB e)) :: g = μ1
        have hμ1 : ∃ g, μ1 = μ ++ g := ⟨_, hμ.symm⟩
        refine wp_lc_map (s := srcZ (ss.map .str) ((ss.drop 1).map .str)) (((ss.map Dat.str).zip ((ss.drop 1).map Dat.str)).map fun p => Dat.tup [p.1, p.2]) (fun _ => true) (fun e => match e with | .tup [.str a, .str b] => .bl (ltT a b) | _ => .non) ?_ ?_ (fun i μ' => pairAt_zip _ _ i) (fun _ => rfl) ?_ (fun i e g acc he => ?_) fun g => ?_
        · unfold miZipT mSl moPart moNone
          simp only [maCons, maNil, mVar, mC, Res.bind, List.getElem?_cons_zero]
          rw [show fSlT (.tup (ss.map .str)) (some 1) none μ1 = .ok (.tup ((ss.drop 1).map .str)) μ1 from by
            show Res.ok (Dat.tup (cutD (ss.map Dat.str) (some ((1 : Nat) : Int)) none)) _ = _
            rw [cutD_from, List.map_drop]]
        · simp [srcZ, List.length_zip]
        · rw [sl16, List.length_map, List.length_zip, List.length_map]
          rw [List.length_map] at hl
          omega
        · rw [zip_strs, List.getElem?_map] at he
          cases hz : (ss.zip (ss.drop 1))[i]? with
          | none => rw [hz] at he; cases he
          | some p =>
            rw [hz] at he
            cases he
            refine ⟨_, rfl, rfl, g, rfl, fun _ => ?_⟩
            dsimp only [wipeD]
            walk_at "nwp"
            exact ⟨rfl, g, rfl⟩
        · rw [filter_yes, fAll_mid (bs := (ss.zip (ss.drop 1)).map fun p => ltT p.1 p.2) (by rw [zip_strs, List.map_map, List.map_map]; rfl), rise_zip]
          obtain ⟨g2, rfl⟩ := hμ1
          exact ⟨rfl, g2 ++ (_ :: g), by rw [List.append_assoc]⟩
  · rw [tyB_no (t := "tuple") (fun z => ht ((tyB_tup _).mp z))]
    walk_at "nwp"
    have : risingB d = false := by
      cases d with
      | tup ds => exact (ht ⟨_, rfl⟩).elim
      | _ => rfl
    rw [this]
    (first | exact ⟨rfl, rfl⟩ | rfl | trivial | exact ⟨rfl, [], by simp⟩ | exact ⟨[], by simp⟩ | exact ⟨by simp [*], trivial⟩ | exact ⟨by simp [*], [], by simp⟩)
theorem is_gap_spec (h : OkD μ d) : wp (f__is_gap [d] μ) fun r μ' => r = .bl (gapB d) ∧ ∃ g, μ' = μ ++ g := by
  refine wp_nr ?_
  rw [wp_run]
  unfold b__is_gap
  walk_at "nwp"
  rw [isA_ok h (.inr (.inr (.inr rfl)))]
  walk_at "nwp"
  by_cases ht : ∃ ds, d = .tup ds
  · obtain ⟨ds, rfl⟩ := ht
    rw [(tyB_tup _).mpr ⟨ds, rfl⟩]
    walk_at "nwp"
    rw [fLenQ_tup]
    walk_at "nwp"
    rw [fNe_int]
    by_cases hl : (ds.length : Int) = 2
    · rw [decide_eq_true hl]
      obtain ⟨a, b, rfl⟩ := len2 (by omega : ds.length = 2)
      have ha := h.tups.2 a (by simp)
      have hb := h.tups.2 b (by simp)
      walk_at "nwp"
      rw [show ∀ x y z, mgTup [1, 2] (.tup [a, b]) [x, y, z] = some [x, some a, some b] from fun _ _ _ => rfl]
      unfold mAnd
      walk_at "nwp"
      refine wp_imp (is_name_spec ha.okN) ?_
      rintro r μ' ⟨rfl, g, rfl⟩
      unfold gapB
      cases ea : isNameD a with
      | true =>
        dsimp only
        walk_at "nwp"
        refine wp_imp (rising_spec hb.app) ?_
        rintro r μ' ⟨rfl, g2, rfl⟩
        exact ⟨by simp [*], g ++ g2, by rw [List.append_assoc]⟩
      | false =>
        dsimp only
        walk_at "nwp"
        exact ⟨by simp [*], g, rfl⟩
    · rw [decide_eq_false hl]
      walk_at "nwp"
      rw [gapB_no fun a b e => by cases e; exact hl rfl]
      (first | exact ⟨rfl, rfl⟩ | rfl | trivial | exact ⟨rfl, [], by simp⟩ | exact ⟨[], by simp⟩ | exact ⟨by simp [*], trivial⟩ | exact ⟨by simp [*], [], by simp⟩)
  · rw [tyB_no (t := "tuple") (fun z => ht ((tyB_tup _).mp z))]
    walk_at "nwp"
    rw [gapB_no fun a b e => ht ⟨_, e⟩]
    (first | exact ⟨rfl, rfl⟩ | rfl | trivial | exact ⟨rfl, [], by simp⟩ | exact ⟨[], by simp⟩ | exact ⟨by simp [*], trivial⟩ | exact ⟨by simp [*], [], by simp⟩)
theorem data_call {s : Str} {n : Nat} {f : FA} {Q : Dat → Store → Prop} (h1 : k__DATA_TESTS.lookup s = some (.cls n)) (h2 : (lc_is_data_fits.map fun p => (p.1, nr p.2)).lookup n = some f) (hf : wp (f [d] μ) Q) : wp (f_is_data [.str s, d] μ) Q := by
  refine wp_nr ?_
  rw [wp_run]
  unfold b_is_data mTab mCallL
  walk_at "nwp"
  rw [h1]
  walk_at "nwp"
  rw [h2]
  walk_at "nwp"
  exact wp_imp hf fun _ _ z => z
theorem KS_cases {s : Str} (h : s ∈ KS) : s = "addr" ∨ s = "text" ∨ s = "keeper" ∨ s = "other" ∨ s = "top" ∨ s = "key" ∨ s = "trust" ∨ s = "seal" ∨ s = "gap" := by
  simpa [KS] using h
theorem wp_same {r : Res Dat} {b : Bool} (h : wp r fun r μ' => r = .bl b ∧ μ' = μ) : wp r fun r μ' => r = .bl b ∧ ∃ g, μ' = μ ++ g :=
  wp_imp h fun _ _ z => ⟨z.1, [], by rw [z.2, List.append_nil]⟩
theorem is_data_spec {s : Str} (hs : s ∈ KS) (h : OkD μ d) : wp (f_is_data [.str s, d] μ) fun r μ' => r = .bl (dataB s d) ∧ ∃ g, μ' = μ ++ g := by
  rcases KS_cases hs with rfl | rfl | rfl | rfl | rfl | rfl | rfl | rfl | rfl
  · exact data_call rfl rfl (wp_same (is_addr_spec h))
  · exact data_call rfl rfl (is_text_spec h)
  · exact data_call rfl rfl (is_named_spec h)
  · exact data_call rfl rfl (is_named_spec h)
  · exact data_call rfl rfl (is_top_spec h)
  · exact data_call rfl rfl (wp_same (is_key_spec h))
  · exact data_call rfl rfl (wp_same (is_key_spec h))
  · exact data_call rfl rfl (is_seal_spec h)
  · exact data_call rfl rfl (is_gap_spec h)
theorem is_record_spec (h : OkD μ d) : wp (f_is_record [d] μ) fun r μ' => r = .bl (recB d) ∧ ∃ g, μ' = μ ++ g := by
  refine wp_nr ?_
  rw [wp_run]
  unfold b_is_record
  walk_at "nwp"
  rw [isA_ok h (.inr (.inr (.inr rfl)))]
  walk_at "nwp"
  by_cases ht : ∃ ds, d = .tup ds
  · obtain ⟨ds, rfl⟩ := ht
    rw [(tyB_tup _).mpr ⟨ds, rfl⟩]
    walk_at "nwp"
    rw [fLenQ_tup]
    walk_at "nwp"
    rw [fNe_int]
    by_cases hl : (ds.length : Int) = 4
    · rw [decide_eq_true hl]
      obtain ⟨a, b, c, e, rfl⟩ := len4 (by omega : ds.length = 4)
      have ha := h.tups.2 a (by simp)
      have hb := h.tups.2 b (by simp)
      have hc := h.tups.2 c (by simp)
      have he := h.tups.2 e (by simp)
      walk_at "nwp"
      rw [show ∀ x y z u v, mgTup [1, 2, 3, 4] (.tup [a, b, c, e]) [x, y, z, u, v] = some [x, some a, some b, some c, some e] from fun _ _ _ _ _ => rfl]
      unfold mAnd
      walk_at "nwp"
      refine wp_imp (is_name_spec ha.okN) ?_
      rintro r μ' ⟨rfl, g, rfl⟩
      rw [recB_is]
      cases ea : isNameD a with
      | true =>
        dsimp only
        walk_at "nwp"
        refine wp_imp (is_kind_spec hb.app) ?_
        rintro r μ' ⟨rfl, rfl⟩
        cases eb : kindB b with
        | true =>
          obtain ⟨s, rfl, hs⟩ := kindB_str eb
          dsimp only
          walk_at "nwp"
          refine wp_imp (is_life_spec hc.app) ?_
          rintro r μ' ⟨rfl, rfl⟩
          cases ec : amongB c 0 1000000 with
          | true =>
            dsimp only
            walk_at "nwp"
            refine wp_imp (is_data_spec hs he.app) ?_
            rintro r μ' ⟨rfl, g2, rfl⟩
            exact ⟨by simp [*], g ++ g2, by rw [List.append_assoc]⟩
          | false =>
            dsimp only
            walk_at "nwp"
            exact ⟨by simp [*], g, rfl⟩
        | false =>
          dsimp only
          walk_at "nwp"
          exact ⟨by simp [*], g, rfl⟩
      | false =>
        dsimp only
        walk_at "nwp"
        exact ⟨by simp [*], g, rfl⟩
    · rw [decide_eq_false hl]
      walk_at "nwp"
      rw [recB_no fun a b c e z => by cases z; exact hl rfl]
      (first | exact ⟨rfl, rfl⟩ | rfl | trivial | exact ⟨rfl, [], by simp⟩ | exact ⟨[], by simp⟩ | exact ⟨by simp [*], trivial⟩ | exact ⟨by simp [*], [], by simp⟩)
  · rw [tyB_no (t := "tuple") (fun z => ht ((tyB_tup _).mp z))]
    walk_at "nwp"
    rw [recB_no fun a b c e z => ht ⟨_, z⟩]
    (first | exact ⟨rfl, rfl⟩ | rfl | trivial | exact ⟨rfl, [], by simp⟩ | exact ⟨[], by simp⟩ | exact ⟨by simp [*], trivial⟩ | exact ⟨by simp [*], [], by simp⟩)
end
end Nh

namespace Nh
open PySem PySem.Spec PyProof.Rows L2
local macro_rules | `(tactic| walk_at "nwp") => `(tactic| try simp only [wp_bind, wp_ok, wp_nrR, wps_toS, wps_nx, wps_rt, wps_seq, wp_run, wps_if, wp_if, wp_tAnd, wp_tOr, wp_tNot, startD, List.map_cons, List.map_nil, List.length_cons, List.length_nil, Nat.reduceAdd, Nat.reduceSub, List.replicate_succ, List.replicate_zero, List.cons_append, List.nil_append, List.getElem?_cons_zero, List.getElem?_cons_succ, List.set_cons_zero, List.set_cons_succ,
  asB, mVar, mC, mOp, mCB, maCons, maNil, mCall, msRet, msAsg, mgName, msDrop, msNext, msRaise, mTup, mChain, mUn, if_true, if_false, Bool.not_true, Bool.not_false, Bool.false_eq_true, reduceIte, Nat.reduceEqDiff, Nat.reduceLeDiff,
  eq_self_iff_true, true_and, isA_str, inSign_star, inSign_one, notInSign_one, fEq_str, fEq_int, fLe_int, fLt_int, fGt_int, fAdd_int, fSub_int, fNeg_int])
theorem eq_of_wp {α : Type} {r : Res α} {a : α} {μ : Store} (h : wp r fun x μ' => x = a ∧ μ' = μ) : r = .ok a μ := by
  cases r with
  | ok x μ' => obtain ⟨rfl, rfl⟩ := h; rfl
  | raise n μ' => exact h.elim
  | stuck => exact h.elim
theorem kinds_call (μ : Store) : f__law_kinds [] μ = .ok (.tup (KS.map .str)) μ := by
  refine eq_of_wp (wp_nr ?_)
  rw [wp_run]
  unfold b__law_kinds
  walk_at "nwp"
  rw [if_pos (show 9 ≤ sizeLine by rw [sl16]; omega)]
  exact ⟨rfl, rfl⟩
theorem signs_call (μ : Store) : f__law_signs [] μ = .ok (.str SG) μ := by
  refine eq_of_wp (wp_nr ?_)
  rw [wp_run]
  unfold b__law_signs
  walk_at "nwp"
  exact ⟨rfl, trivial⟩
section
variable {μ : Store} {d : Dat}
theorem among_spec (h : OkD μ d) (lo hi : Int) : wp (f__law_among [d, .int lo, .int hi] μ) fun r μ' => r = .bl (amongB d lo hi) ∧ μ' = μ := by
  refine wp_nr ?_
  rw [wp_run]
  unfold b__law_among mAnd mNot
  walk_at "nwp"
  rw [isA_ok h (.inl rfl)]
  walk_at "nwp"
  cases h with
  | int i =>
    rw [show tyB "int" (Dat.int i) = true by simp [tyB]]
    dsimp only
    walk_at "nwp"
    rw [isA_ok (.int i) (.inr (.inl rfl)), show tyB "bool" (Dat.int i) = false by simp [tyB]]
    walk_at "nwp"
    try dsimp only
    walk_at "nwp"
    unfold amongB
    by_cases h1 : lo ≤ i
    · rw [decide_eq_true h1]
      walk_at "nwp"
      (first | exact ⟨rfl, rfl⟩ | rfl | trivial | exact ⟨rfl, [], by simp⟩ | exact ⟨[], by simp⟩ | exact ⟨by simp [*], trivial⟩ | exact ⟨by simp [*], [], by simp⟩)
    · rw [decide_eq_false h1]
      walk_at "nwp"
      (first | exact ⟨rfl, rfl⟩ | rfl | trivial | exact ⟨rfl, [], by simp⟩ | exact ⟨[], by simp⟩ | exact ⟨by simp [*], trivial⟩ | exact ⟨by simp [*], [], by simp⟩)
  | bl b =>
    rw [show tyB "int" (Dat.bl b) = true by simp [tyB]]
    dsimp only
    walk_at "nwp"
    rw [isA_ok (.bl b) (.inr (.inl rfl)), show tyB "bool" (Dat.bl b) = true by simp [tyB]]
    walk_at "nwp"
    try dsimp only
    walk_at "nwp"
    (first | exact ⟨rfl, rfl⟩ | rfl | trivial | exact ⟨rfl, [], by simp⟩ | exact ⟨[], by simp⟩ | exact ⟨by simp [*], trivial⟩ | exact ⟨by simp [*], [], by simp⟩)
  | non => rw [show tyB "int" Dat.non = false from rfl]; (try dsimp only); walk_at "nwp"; (first | exact ⟨rfl, rfl⟩ | rfl | trivial | exact ⟨rfl, [], by simp⟩ | exact ⟨[], by simp⟩ | exact ⟨by simp [*], trivial⟩ | exact ⟨by simp [*], [], by simp⟩)
  | str h1 h2 =>
    rw [show tyB "int" (Dat.str _) = false by simp [tyB]]
    dsimp only
    walk_at "nwp"
    (first | exact ⟨rfl, rfl⟩ | rfl | trivial | exact ⟨rfl, [], by simp⟩ | exact ⟨[], by simp⟩ | exact ⟨by simp [*], trivial⟩ | exact ⟨by simp [*], [], by simp⟩)
  | tup h1 h2 =>
    rw [show tyB "int" (Dat.tup _) = false by simp [tyB]]
    dsimp only
    walk_at "nwp"
    (first | exact ⟨rfl, rfl⟩ | rfl | trivial | exact ⟨rfl, [], by simp⟩ | exact ⟨[], by simp⟩ | exact ⟨by simp [*], trivial⟩ | exact ⟨by simp [*], [], by simp⟩)
  | cell h1 h2 => rw [show tyB "int" (Dat.cell _) = false from rfl]; (try dsimp only); walk_at "nwp"; (first | exact ⟨rfl, rfl⟩ | rfl | trivial | exact ⟨rfl, [], by simp⟩ | exact ⟨[], by simp⟩ | exact ⟨by simp [*], trivial⟩ | exact ⟨by simp [*], [], by simp⟩)
theorem law_kind_spec (h : OkD μ d) : wp (f__law_is_kind [d] μ) fun r μ' => r = .bl (kindB d) ∧ μ' = μ := by
  refine wp_nr ?_
  rw [wp_run]
  unfold b__law_is_kind mAnd
  walk_at "nwp"
  rw [isA_ok h (.inr (.inr (.inl rfl)))]
  walk_at "nwp"
  by_cases ht : ∃ s, d = .str s
  · obtain ⟨s, rfl⟩ := ht
    rw [(tyB_str _).mpr ⟨s, rfl⟩]
    dsimp only
    walk_at "nwp"
    rw [kinds_call]
    walk_at "nwp"
    rw [fIn_kinds (ds := .tup (KS.map .str)) rfl]
    (first | exact ⟨rfl, rfl⟩ | rfl | trivial | exact ⟨rfl, [], by simp⟩ | exact ⟨[], by simp⟩ | exact ⟨by simp [*], trivial⟩ | exact ⟨by simp [*], [], by simp⟩)
  · rw [tyB_no (t := "str") (fun z => ht ((tyB_str _).mp z))]
    dsimp only
    walk_at "nwp"
    have : kindB d = false := by
      cases d with
      | str s => exact (ht ⟨s, rfl⟩).elim
      | _ => rfl
    rw [this]
    (first | exact ⟨rfl, rfl⟩ | rfl | trivial | exact ⟨rfl, [], by simp⟩ | exact ⟨[], by simp⟩ | exact ⟨by simp [*], trivial⟩ | exact ⟨by simp [*], [], by simp⟩)
end
/-! ### the law's look at a name -/
def goodAt (st : Bool) (i : Nat) (e : Dat) : Bool := isLabelD e && (!isStarD e || (st && decide (i = 0)))
def nameB (st : Bool) (d : Dat) : Bool := if st = true then isNameD d else starless1 d
theorem nameB_no {st : Bool} {d : Dat} (h : ∀ ds, d ≠ .tup ds) : nameB st d = false := by
  unfold nameB isNameD starless1
  cases d with
  | tup ds => exact (h ds rfl).elim
  | _ => simp
theorem nameB_long {st : Bool} {ds : List Dat} (h : ¬ ds.length ≤ 6) : nameB st (.tup ds) = false := by
  unfold nameB starless1 isNameD
  simp [h]
theorem nameB_bad {st : Bool} {ds : List Dat} {i : Nat} {e : Dat} (he : ds[i]? = some e) (h : goodAt st i e = false) : nameB st (.tup ds) = false := by
  have hm : e ∈ ds := List.mem_of_getElem? he
  unfold goodAt at h
  by_cases hl : isLabelD e = true
  · rw [hl, Bool.true_and] at h
    obtain ⟨hs, hr⟩ := Bool.or_eq_false_iff.mp h
    have hs : isStarD e = true := by simpa using hs
    cases st with
    | true =>
      have hi : i ≠ 0 := by simpa using hr
      have hd : e ∈ ds.drop 1 := by
        obtain ⟨j, rfl⟩ : ∃ j, i = j + 1 := ⟨i - 1, by omega⟩
        refine List.mem_of_getElem? (i := j) ?_
        rw [List.getElem?_drop, Nat.add_comm]
        exact he
      have : (ds.drop 1).any isStarD = true := List.any_eq_true.mpr ⟨e, hd, hs⟩
      unfold nameB isNameD
      simp only [if_true, this]
      simp
    | false =>
      have : ds.any isStarD = true := List.any_eq_true.mpr ⟨e, hm, hs⟩
      unfold nameB starless1
      simp only [this]
      simp
  · have : ds.all isLabelD = false := by
      cases q : ds.all isLabelD with
      | false => rfl
      | true => exact (hl (List.all_eq_true.mp q e hm)).elim
    unfold nameB starless1 isNameD
    cases st <;> simp [this]
theorem nameB_all {st : Bool} {ds : List Dat} (hl : ds.length ≤ 6) (h : ∀ (i : Nat) (e : Dat), ds[i]? = some e → goodAt st i e = true) : nameB st (.tup ds) = true := by
  have h1 : ds.all isLabelD = true := List.all_eq_true.mpr fun e he => by
    obtain ⟨i, hi⟩ := List.mem_iff_getElem?.mp he
    have := h i e hi
    unfold goodAt at this
    rw [Bool.and_eq_true] at this
    exact this.1
  have h2 : (ds.drop 1).any isStarD = false := by
    cases q : (ds.drop 1).any isStarD with
    | false => rfl
    | true =>
      obtain ⟨e, he, hs⟩ := List.any_eq_true.mp q
      obtain ⟨i, hi⟩ := List.mem_iff_getElem?.mp he
      rw [List.getElem?_drop] at hi
      have := h _ e hi
      unfold goodAt at this
      rw [hs] at this
      simp at this
  unfold nameB starless1
  cases st with
  | true =>
    rw [if_pos rfl]
    unfold isNameD
    dsimp only
    rw [h1, h2, decide_eq_true hl]
    rfl
  | false =>
    have h3 : ds.any isStarD = false := by
      cases q : ds.any isStarD with
      | false => rfl
      | true =>
        obtain ⟨e, he, hs⟩ := List.any_eq_true.mp q
        obtain ⟨i, hi⟩ := List.mem_iff_getElem?.mp he
        have := h i e hi
        unfold goodAt at this
        rw [hs] at this
        simp at this
    unfold isNameD
    rw [if_neg Bool.false_ne_true]
    dsimp only
    rw [h1, h2, h3, decide_eq_true hl]
    rfl
/-- one sign after the other -/
def sgOut (s : Str) : List Str := (s.cps.toList.filter fun q => !decide (q ∈ SG.cps.toList)).map fun q => (⟨#[q]⟩ : Str)
theorem good_is {st : Bool} {i : Nat} {s : Str} (hl : 1 ≤ s.length ∧ s.length ≤ 8) : goodAt st i (.str s) = (decide (sgOut s = []) || (st && (decide (i = 0) && decide (s = "*")))) := by
  unfold goodAt isLabelD isStarD
  dsimp only
  by_cases ha : ∀ q ∈ s.cps.toList, q ∈ SG.cps.toList
  · have e : sgOut s = [] := by
      unfold sgOut
      rw [List.map_eq_nil_iff, List.filter_eq_nil_iff]
      intro q hq
      simp [ha q hq]
    rw [decide_eq_true e, Bool.true_or]
    have hg : GL s := ⟨hl.1, hl.2, ha⟩
    rw [hg.label, decide_eq_false hg.star]
    rfl
  · have e : sgOut s ≠ [] := by
      intro z
      unfold sgOut at z
      rw [List.map_eq_nil_iff, List.filter_eq_nil_iff] at z
      exact ha fun q hq => by simpa using z q hq
    rw [decide_eq_false e, Bool.false_or]
    by_cases hs : s = "*"
    · subst hs
      rw [star_label, decide_eq_true rfl]
      simp
    · rw [decide_eq_false hs]
      have : isLabelS s = false := by
        cases q : isLabelS s with
        | false => rfl
        | true =>
          exfalso
          unfold isLabelS at q
          rw [if_pos hl] at q
          by_cases h42 : 42 ∈ s.cps.toList
          · rw [if_pos h42] at q
            exact hs (of_decide_eq_true q)
          · rw [if_neg h42] at q
            refine ha fun c hc => ?_
            have h1 := of_decide_eq_true (List.all_eq_true.mp q c hc)
            have h2 : ∀ c ∈ ("abcdefghijklmnopqrstuvwxyz0123456789-*" : Str).cps.toList, c = 42 ∨ c ∈ SG.cps.toList := by decide +kernel
            rcases h2 c h1 with e | e
            · exact (h42 (e ▸ hc)).elim
            · exact e
      rw [this]
      simp
theorem good_no {st : Bool} {i : Nat} {e : Dat} (h : ∀ s, e = .str s → ¬ (1 ≤ s.length ∧ s.length ≤ 8)) : goodAt st i e = false := by
  unfold goodAt
  have : isLabelD e = false := by
    cases e with
    | str s =>
      show isLabelS s = false
      unfold isLabelS
      rw [if_neg (h s rfl)]
    | _ => rfl
  rw [this]
  rfl
def bNm : MS := (msSeq (msIf (mtOr (mtNot (asB (mCB (fIsA tab) (maCons (mVar 3) (maCons (mC (.ty "str")) maNil))))) (mtNot (asB (mChain fLe fLe (mC (.int 1)) (mCB fLen (maCons (mVar 3) maNil)) (mC (.int 8)))))) (msRet (mC (.bl false))) msNext)
  (msSeq (msAsg (mAnd (mVar 1) (mAnd (mOp fEq (mVar 2) (mC (.int 0))) (mOp fEq (mVar 3) (mC (.str "*"))))) (mgName 4))
  (msIf (mtAnd (asB (mOp fNeD (mLc (miStr (mVar 3)) (mgName 5) (asB (mOp fNotInSign (mVar 5) (mCall 0 f__law_signs maNil))) (mVar 5) [5]) (mLst maNil))) (mtNot (asB (mVar 4)))) (msRet (mC (.bl false))) msNext)))
theorem b_nm_is : b__law_is_name = msSeq (msIf (mtOr (mtNot (asB (mCB (fIsA tab) (maCons (mVar 0) (maCons (mC (.ty "tuple")) maNil))))) (asB (mOp fGt (mCB fLenQ (maCons (mVar 0) maNil)) (mC (.int 6))))) (msRet (mC (.bl false))) msNext)
  (msSeq (msFor (miEnT (maCons (mVar 0) maNil)) (mgTup [2, 3]) bNm)
  (msRet (mC (.bl true)))) := rfl
theorem getElem?_en (ds : List Dat) (i : Nat) (μ : Store) : (srcE ds).get i μ = (ds.mapIdx fun i d => Dat.tup [.int (i : Nat), d])[i]? := by
  show (ds[i]?).map _ = _
  rw [List.getElem?_mapIdx]
theorem nm_body {μ : Store} {ds : List Dat} {st : Bool} {i : Nat} {e : Dat} {x4 x5 : Option Dat} {P : Ps} (he : OkD μ e) (h1 : goodAt st i e = true → ∀ x4 x5 g, P.nx [some (.tup ds), some (.bl st), some (.int (i : Nat)), some e, x4, x5] (μ ++ g)) (h2 : goodAt st i e = false → ∀ g, P.rt (.bl false) (μ ++ g)) :
    wps (bNm [some (.tup ds), some (.bl st), some (.int (i : Nat)), some e, x4, x5] μ) P := by
  unfold bNm
  rw [wps_seq]
  walk_at "nwp"
  rw [isA_ok he (.inr (.inr (.inl rfl)))]
  walk_at "nwp"
  have bad : (∀ s, e = .str s → ¬ (1 ≤ s.length ∧ s.length ≤ 8)) → P.rt (.bl false) μ := fun h => by
    have := h2 (good_no h) []
    rwa [List.append_nil] at this
  by_cases ht : ∃ s, e = .str s
  · obtain ⟨s, rfl⟩ := ht
    obtain ⟨hs, hp⟩ : s.length ≤ 1000 ∧ prS s := by cases he with | str h1 h2 => exact ⟨h1, h2⟩
    rw [(tyB_str _).mpr ⟨s, rfl⟩]
    walk_at "nwp"
    rw [fLen_str (by rw [sl16]; omega)]
    walk_at "nwp"
    by_cases l1 : (1 : Int) ≤ s.length
    · rw [decide_eq_true l1]
      walk_at "nwp"
      by_cases l2 : (s.length : Int) ≤ 8
      · rw [decide_eq_true l2]
        have hg := good_is (st := st) (i := i) (s := s) ⟨by omega, by omega⟩
        walk_at "nwp"
        rw [show mAnd (mVar 1) (mAnd (mOp fEq (mVar 2) (mC (Dat.int 0))) (mOp fEq (mVar 3) (mC (Dat.str "*")))) [some (Dat.tup ds), some (Dat.bl st), some (Dat.int (i : Nat)), some (Dat.str s), x4, x5] μ = .ok (.bl (st && (decide (i = 0) && decide (s = "*")))) μ from by
          unfold mAnd
          simp only [mVar, mOp, mC, List.getElem?_cons_zero, List.getElem?_cons_succ, Res.bind, fEq_int, fEq_str]
          cases st
          · rfl
          · dsimp only
            by_cases hi : i = 0
            · rw [decide_eq_true (show (i : Int) = 0 by omega), decide_eq_true hi]
              rfl
            · rw [decide_eq_false (show ¬ (i : Int) = 0 by omega), decide_eq_false hi]
              rfl]
        walk_at "nwp"
        generalize (st && (decide (i = 0) && decide (s = "*"))) = fl at hg ⊢
        refine wp_lc_map (s := srcS s) (s.cps.toList.map fun q => Dat.str ⟨#[q]⟩) (fun d => match d with | .str z => !decide (z.cps.toList.headD 0 ∈ SG.cps.toList) | _ => false) (fun d => d) rfl (by simp [srcS]) (srcS_get s) (fun _ => rfl) (by simp; have := sizeLine_eq; have hh : s.cps.size = s.length := rfl; omega) (fun j d g acc hd => ?_) fun g => ?_
        · rw [List.getElem?_map] at hd
          cases hq : s.cps.toList[j]? with
          | none => rw [hq] at hd; cases hd
          | some q =>
            rw [hq] at hd
            cases hd
            refine ⟨_, rfl, ?_⟩
            dsimp only [wipeD]
            walk_at "nwp"
            rw [signs_call]
            walk_at "nwp"
            refine ⟨rfl, g, rfl, fun _ => ?_⟩
            first | exact ⟨rfl, g, rfl⟩ | exact ⟨trivial, g, rfl⟩ | exact ⟨g, rfl⟩
        · rw [show (List.filter (fun d => match d with | .str z => !decide (z.cps.toList.headD 0 ∈ SG.cps.toList) | _ => false) (s.cps.toList.map fun q => Dat.str ⟨#[q]⟩)).map (fun d => d) = (sgOut s).map .str from by
            rw [List.map_id', List.filter_map]
            unfold sgOut
            rw [List.map_map]
            rfl]
          unfold mLst
          walk_at "nwp"
          rw [if_pos (Nat.zero_le _)]
          unfold allocR
          walk_at "nwp"
          rw [neD_lists (a := μ.length) (b := (μ ++ Cell.lst ((sgOut s).map Dat.str) :: g).length) (ss := sgOut s) (ts := []) (get_app getElem?_mid) (show (μ ++ Cell.lst ((sgOut s).map Dat.str) :: g ++ [Cell.lst []])[(μ ++ Cell.lst ((sgOut s).map Dat.str) :: g).length]? = some (.lst (([] : List Str).map .str)) from getElem?_mid) (fun t ht => by
            obtain ⟨q, hq, rfl⟩ := List.mem_map.mp ht
            intro c hc
            have : c = q := by simpa using hc
            subst this
            exact hp.ok c (List.mem_filter.mp hq).1) (fun s hs => nomatch hs)]
          walk_at "nwp"
          rw [List.append_assoc]
          by_cases hn : sgOut s = []
          · rw [decide_eq_true hn]
            walk_at "nwp"
            rw [decide_eq_true hn, Bool.true_or] at hg
            exact h1 hg _ _ _
          · rw [decide_eq_false hn]
            walk_at "nwp"
            rw [decide_eq_false hn, Bool.false_or] at hg
            cases fl with
            | true =>
              walk_at "nwp"
              exact h1 hg _ _ _
            | false =>
              walk_at "nwp"
              exact h2 hg _
      · rw [decide_eq_false l2]
        walk_at "nwp"
        exact bad fun t et => by cases et; omega
    · rw [decide_eq_false l1]
      walk_at "nwp"
      exact bad fun t et => by cases et; omega
  · rw [tyB_no (t := "str") (fun z => ht ((tyB_str _).mp z))]
    walk_at "nwp"
    exact bad fun s es => (ht ⟨s, es⟩).elim
theorem law_name_spec {μ : Store} {d : Dat} (h : OkD μ d) (st : Bool) : wp (f__law_is_name [d, .bl st] μ) fun r μ' => r = .bl (nameB st d) ∧ ∃ g, μ' = μ ++ g := by
  refine wp_nr ?_
  rw [wp_run, b_nm_is, wps_seq]
  walk_at "nwp"
  rw [isA_ok h (.inr (.inr (.inr rfl)))]
  walk_at "nwp"
  by_cases ht : ∃ ds, d = .tup ds
  · obtain ⟨ds, rfl⟩ := ht
    obtain ⟨hl, hds⟩ := h.tups
    rw [(tyB_tup _).mpr ⟨ds, rfl⟩]
    walk_at "nwp"
    rw [fLenQ_tup]
    walk_at "nwp"
    by_cases h6 : (6 : Int) < ds.length
    · rw [decide_eq_true h6]
      walk_at "nwp"
      rw [nameB_long (by omega)]
      exact ⟨rfl, [], by simp⟩
    · rw [decide_eq_false h6]
      walk_at "nwp"
      refine wps_for (s := srcE ds) (ds.mapIdx fun i d => Dat.tup [.int (i : Nat), d]) (fun i δ μ' => (∃ x2 x3 x4 x5, δ = [some (.tup ds), some (.bl st), x2, x3, x4, x5]) ∧ (∃ g, μ' = μ ++ g) ∧ ∀ (j : Nat) (e : Dat), j < i → ds[j]? = some e → goodAt st j e = true) rfl (by rw [List.length_mapIdx]; rfl) (getElem?_en ds) (fun _ => rfl) ⟨⟨_, _, _, _, rfl⟩, ⟨[], by simp⟩, fun j e hj _ => by omega⟩ ?_ ?_
      · rintro i d δ μ' hd ⟨⟨x2, x3, x4, x5, rfl⟩, ⟨g, rfl⟩, hgood⟩
        rw [List.getElem?_mapIdx] at hd
        cases he : ds[i]? with
        | none => rw [he] at hd; cases hd
        | some e =>
          rw [he] at hd
          cases hd
          refine ⟨_, rfl, ?_⟩
          refine nm_body ((hds e (List.mem_of_getElem? he)).app) (fun hg x4 x5 g2 => ?_) fun hg g2 => ?_
          · refine ⟨⟨_, _, _, _, rfl⟩, ⟨g ++ g2, by rw [List.append_assoc]⟩, fun j e2 hj h2 => ?_⟩
            by_cases hji : j = i
            · subst hji
              rw [he] at h2
              cases h2
              exact hg
            · exact hgood j e2 (by omega) h2
          · rw [nameB_bad he hg]
            exact ⟨rfl, g ++ g2, by rw [List.append_assoc]⟩
      · rintro δ μ' ⟨⟨x2, x3, x4, x5, rfl⟩, ⟨g, rfl⟩, hgood⟩
        walk_at "nwp"
        rw [nameB_all (by omega) fun i e he => hgood i e (by
          rw [List.length_mapIdx]
          exact (List.getElem?_eq_some_iff.mp he).1) he]
        exact ⟨rfl, g, rfl⟩
  · rw [tyB_no (t := "tuple") (fun z => ht ((tyB_tup _).mp z))]
    walk_at "nwp"
    rw [nameB_no fun ds e => ht ⟨_, e⟩]
    exact ⟨rfl, [], by simp⟩
end Nh

namespace Nh
open PySem PySem.Spec PyProof.Rows L2
local macro_rules | `(tactic| walk_at "nwp") => `(tactic| try simp only [wp_bind, wp_ok, wp_nrR, wps_toS, wps_nx, wps_rt, wps_seq, wp_run, wps_if, wp_if, wp_tAnd, wp_tOr, wp_tNot, startD, List.map_cons, List.map_nil, List.length_cons, List.length_nil, Nat.reduceAdd, Nat.reduceSub, List.replicate_succ, List.replicate_zero, List.cons_append, List.nil_append, List.getElem?_cons_zero, List.getElem?_cons_succ, List.set_cons_zero, List.set_cons_succ,
  asB, mVar, mC, mOp, mCB, maCons, maNil, mCall, msRet, msAsg, mgName, msDrop, msNext, msRaise, mTup, mChain, mUn, if_true, if_false, Bool.not_true, Bool.not_false, Bool.false_eq_true, reduceIte, Nat.reduceEqDiff, Nat.reduceLeDiff,
  eq_self_iff_true, true_and, isA_str, inSign_star, inSign_one, notInSign_one, fEq_str, fEq_int, fLe_int, fLt_int, fGt_int, fAdd_int, fSub_int, fNeg_int])
/-! ### rising, by sorted(set(..)) -/
theorem leT_of_lt {a b : Str} (h : ltT a b = true) : leT a b = true := leT_iff.mpr (List.lt_asymm (of_decide_eq_true h))
theorem rise_pair : ∀ ss : List Str, risingL (ss.map Dat.str) = true ↔ ss.Pairwise fun a b => ltT a b = true
  | [] => ⟨fun _ => .nil, fun _ => rfl⟩
  | [a] => ⟨fun _ => List.pairwise_singleton _ _, fun _ => rfl⟩
  | a :: b :: r => by
    have ih := rise_pair (b :: r)
    have e : risingL ((a :: b :: r).map Dat.str) = (ltT a b && risingL ((b :: r).map Dat.str)) := rfl
    rw [e, Bool.and_eq_true, ih]
    constructor
    · rintro ⟨h1, h2⟩
      refine List.pairwise_cons.mpr ⟨fun x hx => ?_, h2⟩
      rcases List.mem_cons.mp hx with rfl | hx
      · exact h1
      · exact ltT_trans h1 ((List.pairwise_cons.mp h2).1 x hx)
    · intro h
      exact ⟨(List.pairwise_cons.mp h).1 b List.mem_cons_self, (List.pairwise_cons.mp h).2⟩
theorem dedS_self : ∀ {l : List Str}, l.Nodup → dedS l = l
  | [], _ => rfl
  | x :: r, h => by
    unfold dedS
    rw [if_neg (List.nodup_cons.mp h).1, dedS_self (List.nodup_cons.mp h).2]
theorem rise_sorted (ss : List Str) : decide (ss = (dedS ss).mergeSort leT) = risingL (ss.map Dat.str) := by
  cases h : risingL (ss.map Dat.str) with
  | true =>
    have hp := (rise_pair ss).mp h
    have hn : ss.Nodup := hp.imp fun {a b} z e => by
      subst e
      rw [ltT_irrefl] at z
      cases z
    rw [dedS_self hn]
    refine decide_eq_true (List.mergeSort_of_pairwise (hp.imp fun z => leT_of_lt z)).symm
  | false =>
    refine decide_eq_false fun e => ?_
    have h1 : ((dedS ss).mergeSort leT).Pairwise fun a b => leT a b = true := List.pairwise_mergeSort leT_trans leT_total _
    have h2 : ((dedS ss).mergeSort leT).Nodup := (List.mergeSort_perm _ _).nodup_iff.mpr (dedS_nodup ss)
    rw [← e] at h1 h2
    have : risingL (ss.map Dat.str) = true := (rise_pair ss).mpr ((h1.and h2).imp fun {a b} z => by
      cases q : ltT a b with
      | true => rfl
      | false => exact (z.2 (ltT_tri q (decide_eq_false (leT_iff.mp z.1)))).elim)
    rw [h] at this
    cases this
theorem eqD_lists {μ : Store} {a b : Nat} {ss ts : List Str} (ha : μ[a]? = some (.lst (ss.map .str))) (hb : μ[b]? = some (.lst (ts.map .str))) (h1 : ∀ s ∈ ss, okS s) (h2 : ∀ s ∈ ts, okS s) : fEqD (.cell a) (.cell b) μ = .ok (.bl (decide (ss = ts))) μ := by
  have p : ∀ {a : Nat} {ss : List Str}, μ[a]? = some (.lst (ss.map .str)) → py μ 12 (.cell a) = some (.list (ss.map .str)) := by
    intro a ss h
    show (match μ[a]? with | some (.lst ds) => (pyAll (py μ 11) ds).map PyData.list | _ => none) = _
    rw [h]
    dsimp only
    rw [pyAll_strs _ (fun s => rfl)]
    rfl
  have q : ∀ {ss : List Str}, (∀ s ∈ ss, okS s) → SeqAt.shaped (.list (ss.map .str)) = true := fun {ss} h => (show Shp (.list (ss.map .str)) from ⟨lay_strs h, by
    show PyData.depthAll (ss.map .str) + 1 ≤ 5
    rw [depth_strs]
    omega⟩).shaped
  simp only [fEqD, p ha, p hb, q h1, q h2, Bool.and_self, if_true]
  rw [show PyData.eqv (.list (ss.map .str)) (.list (ts.map .str)) = PyData.eqvAll (ss.map .str) (ts.map .str) from rfl, eqv_strs]
theorem neD_int (a b : Int) (μ : Store) : fNeD (.int a) (.int b) μ = .ok (.bl (!decide (a = b))) μ := by
  have s1 : ∀ a : Int, SeqAt.shaped (.int a) = true := fun a => (show Shp (.int a) from ⟨rfl, by show 0 ≤ 5; omega⟩).shaped
  simp only [fNeD, show ∀ a : Int, py μ 12 (.int a) = some (.int a) from fun _ => rfl, s1, Bool.and_self, if_true]
  rfl
theorem neD_str {a b : Str} (ha : okS a) (hb : okS b) (μ : Store) : fNeD (.str a) (.str b) μ = .ok (.bl (!decide (a = b))) μ := by
  simp only [fNeD, show ∀ a : Str, py μ 12 (.str a) = some (.str a) from fun _ => rfl, (shp_str ha).shaped, (shp_str hb).shaped, Bool.and_self, if_true]
  rfl
section
variable {μ : Store} {d : Dat} {P : Ps} {δ : Env}
theorem wps_kind {s z : Str} {a b : MS} (h : δ[0]? = some (some (.str s))) : wps (msIf (asB (mOp fEq (mVar 0) (mC (.str z)))) a b δ μ) P ↔ (if s = z then wps (a δ μ) P else wps (b δ μ) P) := by
  rw [wps_if]
  unfold asB mOp mVar mC
  simp only [h, Res.bind, fEq_str, wp_ok, decide_eq_true_eq]
theorem wps_kind2 {s z y : Str} {a b : MS} (h : δ[0]? = some (some (.str s))) : wps (msIf (mtOr (asB (mOp fEq (mVar 0) (mC (.str z)))) (asB (mOp fEq (mVar 0) (mC (.str y))))) a b δ μ) P ↔ (if s = z ∨ s = y then wps (a δ μ) P else wps (b δ μ) P) := by
  rw [wps_if]
  unfold mtOr asB mOp mVar mC
  by_cases h1 : s = z
  · simp [h, Res.bind, fEq_str, wp_ok, h1, wp]
  · simp [h, Res.bind, fEq_str, wp_ok, h1, wp]
theorem fIxU_at {ds : List Dat} {i : Nat} {a : Dat} (h : ds[i]? = some a) (μ : Store) : fIxU (.tup ds) (.int (i : Nat)) μ = .ok a μ := by
  simp only [fIxU, fAlt, fIxL, lstAt, fIxT, atI_nat h]
theorem fIxU_0 (a : Dat) (r : List Dat) (μ : Store) : fIxU (.tup (a :: r)) (.int 0) μ = .ok a μ := fIxU_at (i := 0) rfl μ
theorem fIxU_1 (a b : Dat) (r : List Dat) (μ : Store) : fIxU (.tup (a :: b :: r)) (.int 1) μ = .ok b μ := fIxU_at (i := 1) rfl μ
theorem fIxU_2 (a b x : Dat) (r : List Dat) (μ : Store) : fIxU (.tup (a :: b :: x :: r)) (.int 2) μ = .ok x μ := fIxU_at (i := 2) rfl μ
theorem pow_1012 (μ : Store) : fPow (.int 10) (.int 12) μ = .ok (.int 1000000000000) μ := by rfl
theorem pow_106 (μ : Store) : fPow (.int 10) (.int 6) μ = .ok (.int 1000000) μ := by rfl
theorem pow_232 (μ : Store) : fPow (.int 2) (.int 32) μ = .ok (.int 4294967296) μ := by rfl
theorem law_data_spec {s : Str} (hs : s ∈ KS) (h : OkD μ d) : wp (f__law_is_data [.str s, d] μ) fun r μ' => r = .bl (dataB s d) ∧ ∃ g, μ' = μ ++ g := by
  refine wp_nr ?_
  rw [wp_run]
  unfold b__law_is_data dataB
  rw [wps_seq, wps_kind (s := s) rfl]
  by_cases h1 : s = "addr"
  · rw [if_pos h1, if_pos h1]
    walk_at "nwp"
    rw [pow_264]
    walk_at "nwp"
    exact wp_same (wp_imp (among_spec h 0 (2 ^ 64 - 1)) fun _ _ z => z)
  rw [if_neg h1, if_neg h1]
  unfold msNext
  rw [wps_nx]
  dsimp only
  rw [wps_seq, wps_kind (s := s) rfl]
  by_cases h2 : s = "text"
  · rw [if_pos h2, if_pos h2]
    unfold mAnd
    walk_at "nwp"
    rw [isA_ok h (.inr (.inr (.inl rfl)))]
    walk_at "nwp"
    by_cases ht : ∃ s, d = .str s
    · obtain ⟨t, rfl⟩ := ht
      rw [(tyB_str _).mpr ⟨t, rfl⟩]
      obtain ⟨hs, hp⟩ : t.length ≤ 1000 ∧ prS t := by cases h with | str h1 h2 => exact ⟨h1, h2⟩
      dsimp only
      walk_at "nwp"
      rw [fLen_str (by rw [sl16]; omega)]
      walk_at "nwp"
      refine ⟨?_, [], by simp⟩
      unfold textB
      dsimp only
      congr 1
      exact decide_eq_decide.mpr (by omega)
    · rw [tyB_no (t := "str") (fun z => ht ((tyB_str _).mp z))]
      dsimp only
      walk_at "nwp"
      have : textB d = false := by
        cases d with
        | str s => exact (ht ⟨s, rfl⟩).elim
        | _ => rfl
      rw [this]
      (first | exact ⟨rfl, rfl⟩ | rfl | trivial | exact ⟨rfl, [], by simp⟩ | exact ⟨[], by simp⟩ | exact ⟨by simp [*], trivial⟩ | exact ⟨by simp [*], [], by simp⟩)
  rw [if_neg h2, if_neg h2, wps_nx]
  dsimp only
  rw [wps_seq, wps_kind2 (s := s) rfl]
  by_cases h3 : s = "keeper" ∨ s = "other"
  · rw [if_pos h3, if_pos h3]
    walk_at "nwp"
    exact wp_imp (law_name_spec h false) fun _ _ z => z
  rw [if_neg h3, if_neg h3, wps_nx]
  dsimp only
  rw [wps_seq, wps_kind2 (s := s) rfl]
  by_cases h4 : s = "key" ∨ s = "trust"
  · rw [if_pos h4, if_pos h4]
    walk_at "nwp"
    rw [pow_1012]
    walk_at "nwp"
    exact wp_same (wp_imp (among_spec h 1 1000000000000) fun _ _ z => z)
  rw [if_neg h4, if_neg h4, wps_nx]
  dsimp only
  rw [wps_seq, wps_if, wp_tOr, wp_tNot]
  walk_at "nwp"
  rw [isA_ok h (.inr (.inr (.inr rfl)))]
  walk_at "nwp"
  by_cases ht : ∃ ds, d = .tup ds
  · obtain ⟨ds, rfl⟩ := ht
    rw [(tyB_tup _).mpr ⟨ds, rfl⟩]
    walk_at "nwp"
    rw [show fLen [.tup ds] μ = .ok (.int (ds.length : Int)) μ from rfl]
    unfold mDGet
    walk_at "nwp"
    rw [show ∀ δ, mDisp [(mC (.str "top"), mC (.int 2)), (mC (.str "seal"), mC (.int 3)), (mC (.str "gap"), mC (.int 2))] δ μ = .ok (.cell μ.length) (μ ++ [.dict [(.inr "top", .int 2), (.inr "seal", .int 3), (.inr "gap", .int 2)]]) from fun δ => by
      unfold mDisp mPairs mPairs mPairs mPairs
      simp only [mC, Res.bind, keyD, getElem?_mid, set_mid]
      rfl]
    walk_at "nwp"
    dsimp only [keyD]
    rw [getElem?_mid]
    dsimp only
    have hs' : s = "top" ∨ s = "seal" ∨ s = "gap" := by
      rcases KS_cases hs with e | e | e | e | e | e | e | e | e
      · exact (h1 e).elim
      · exact (h2 e).elim
      · exact (h3 (.inl e)).elim
      · exact (h3 (.inr e)).elim
      · exact .inl e
      · exact (h4 (.inl e)).elim
      · exact (h4 (.inr e)).elim
      · exact .inr (.inl e)
      · exact .inr (.inr e)
    generalize hμ1 : μ ++ [Cell.dict [(Sum.inr "top", Dat.int 2), (Sum.inr "seal", Dat.int 3), (Sum.inr "gap", Dat.int 2)]] = μ1
    have hx : ∃ g, μ1 = μ ++ g := ⟨_, hμ1.symm⟩
    have h' : OkD μ1 (.tup ds) := by
      rw [← hμ1]
      exact h.app
    clear h1 h2 h3 h4 hμ1 hs
    have n1 : ¬ ("seal" : Str) = "top" := by decide +kernel
    have n2 : ¬ ("gap" : Str) = "top" := by decide +kernel
    have n3 : ¬ ("gap" : Str) = "seal" := by decide +kernel
    rcases hs' with rfl | rfl | rfl
    · rw [show lookD [(Sum.inr "top", Dat.int 2), (Sum.inr "seal", Dat.int 3), (Sum.inr "gap", Dat.int 2)] (Sum.inr "top") = some (.int 2) from by rfl]
      dsimp only
      walk_at "nwp"
      rw [neD_int]
      simp only [decide_true, if_true]
      by_cases hl : (ds.length : Int) = 2
      · rw [decide_eq_true hl]
        obtain ⟨a, b, rfl⟩ := len2 (by omega : ds.length = 2)
        have ha := h'.tups.2 a (by simp)
        have hb := h'.tups.2 b (by simp)
        unfold mAnd
        walk_at "nwp"
        rw [fIxU_0]
        walk_at "nwp"
        rw [pow_232]
        walk_at "nwp"
        rw [show (4294967296 : Int) - 1 = 4294967295 from rfl]
        refine wp_imp (among_spec ha 0 4294967295) ?_
        rintro r μ' ⟨rfl, rfl⟩
        unfold topB
        cases ea : amongB a 0 4294967295 with
        | true =>
          dsimp only
          walk_at "nwp"
          rw [fIxU_1]
          walk_at "nwp"
          rw [pow_106]
          walk_at "nwp"
          refine wp_imp (among_spec hb 0 1000000) ?_
          rintro r μ' ⟨rfl, rfl⟩
          exact ⟨by simp [*], hx⟩
        | false =>
          dsimp only
          walk_at "nwp"
          exact ⟨by simp [*], hx⟩
      · rw [decide_eq_false hl]
        walk_at "nwp"
        rw [topB_no fun a b e => by cases e; exact hl rfl]
        exact ⟨rfl, hx⟩
    · rw [show lookD [(Sum.inr "top", Dat.int 2), (Sum.inr "seal", Dat.int 3), (Sum.inr "gap", Dat.int 2)] (Sum.inr "seal") = some (.int 3) from by rfl]
      dsimp only
      walk_at "nwp"
      rw [neD_int]
      simp only [n1, decide_false, decide_true, if_true, if_false, Bool.false_eq_true]
      by_cases hl : (ds.length : Int) = 3
      · rw [decide_eq_true hl]
        obtain ⟨a, b, c, rfl⟩ := len3 (by omega : ds.length = 3)
        have ha := h'.tups.2 a (by simp)
        have hb := h'.tups.2 b (by simp)
        have hc := h'.tups.2 c (by simp)
        unfold mAnd
        walk_at "nwp"
        rw [fIxU_0]
        walk_at "nwp"
        refine wp_imp (law_kind_spec ha) ?_
        rintro r μ' ⟨rfl, rfl⟩
        unfold sealB
        cases ea : kindB a with
        | true =>
          obtain ⟨t, rfl, hkt⟩ := kindB_str ea
          have hpt : prS t := by cases ha with | str h1 h2 => exact h2
          dsimp only
          walk_at "nwp"
          rw [fIxU_0]
          walk_at "nwp"
          rw [neD_str hpt.ok (by unfold okS; decide +kernel)]
          unfold isSeal
          by_cases h1 : t = "seal"
          · rw [decide_eq_true h1]
            dsimp only
            walk_at "nwp"
            exact ⟨by simp [*], hx⟩
          · rw [decide_eq_false h1]
            dsimp only
            walk_at "nwp"
            rw [fIxU_1]
            walk_at "nwp"
            rw [pow_1012]
            walk_at "nwp"
            refine wp_imp (among_spec hb 1 1000000000000) ?_
            rintro r μ' ⟨rfl, rfl⟩
            cases eb : amongB b 1 1000000000000 with
            | true =>
              dsimp only
              walk_at "nwp"
              rw [fIxU_2]
              walk_at "nwp"
              refine wp_imp (among_spec hc 0 1000000006) ?_
              rintro r μ' ⟨rfl, rfl⟩
              exact ⟨by simp [*], hx⟩
            | false =>
              dsimp only
              walk_at "nwp"
              exact ⟨by simp [*], hx⟩
        | false =>
          dsimp only
          walk_at "nwp"
          exact ⟨by simp [*], hx⟩
      · rw [decide_eq_false hl]
        walk_at "nwp"
        rw [sealB_no fun a b c e => by cases e; exact hl rfl]
        exact ⟨rfl, hx⟩
    · rw [show lookD [(Sum.inr "top", Dat.int 2), (Sum.inr "seal", Dat.int 3), (Sum.inr "gap", Dat.int 2)] (Sum.inr "gap") = some (.int 2) from by rfl]
      dsimp only
      walk_at "nwp"
      rw [neD_int]
      simp only [n2, n3, decide_false, decide_true, if_true, if_false, Bool.false_eq_true]
      by_cases hl : (ds.length : Int) = 2
      · rw [decide_eq_true hl]
        obtain ⟨a, b, rfl⟩ := len2 (by omega : ds.length = 2)
        have ha := h'.tups.2 a (by simp)
        have hb := h'.tups.2 b (by simp)
        walk_at "nwp"
        rw [fIxU_0]
        walk_at "nwp"
        refine wp_imp (law_name_spec ha true) ?_
        rintro r μ' ⟨rfl, g, rfl⟩
        have hx2 : ∃ g2, μ1 ++ g = μ ++ g2 := by
          obtain ⟨g1, e⟩ := hx
          exact ⟨g1 ++ g, by rw [e, List.append_assoc]⟩
        unfold gapB
        rw [show nameB true a = isNameD a from rfl]
        cases ea : isNameD a with
        | false =>
          dsimp only
          walk_at "nwp"
          exact ⟨by simp [*], hx2⟩
        | true =>
          dsimp only
          walk_at "nwp"
          rw [fIxU_1]
          walk_at "nwp"
          have hb2 : OkD (μ1 ++ g) b := hb.app
          generalize μ1 ++ g = μ2 at hx2 hb2 ⊢
          rw [isA_ok hb2 (.inr (.inr (.inr rfl)))]
          walk_at "nwp"
          by_cases ht : ∃ es, b = .tup es
          · obtain ⟨es, rfl⟩ := ht
            obtain ⟨hl2, hes⟩ := hb2.tups
            rw [(tyB_tup _).mpr ⟨es, rfl⟩]
            unfold mAnd
            walk_at "nwp"
            refine wp_lc_map (s := srcT es) es (fun _ => true) (fun e => .bl (kindB e)) ?_ rfl (fun _ _ => rfl) (fun _ => rfl) (by rw [sl16]; omega) (fun i e g acc he => ?_) fun g2 => ?_
            · unfold mAlt miList miTup
              simp only [mOp, mVar, mC, List.getElem?_cons_succ, List.getElem?_cons_zero, Res.bind, fIxU_1]
            · refine ⟨_, rfl, rfl, g, rfl, fun _ => ?_⟩
              dsimp only [wipeD]
              walk_at "nwp"
              refine wp_imp (law_kind_spec ((hes e (List.mem_of_getElem? he)).app)) ?_
              rintro r μ' ⟨rfl, rfl⟩
              exact ⟨rfl, g, rfl⟩
            · rw [filter_yes, fAll_mid (bs := es.map kindB) (by rw [List.map_map]; rfl), List.all_map]
              walk_at "nwp"
              unfold risingB
              dsimp only
              cases hall : es.all kindB with
              | false =>
                rw [show (es.all (id ∘ kindB)) = false from hall]
                walk_at "nwp"
                obtain ⟨g3, rfl⟩ := hx2
                exact ⟨by simp [*], _, List.append_assoc _ _ _⟩
              | true =>
                rw [show (es.all (id ∘ kindB)) = true from hall]
                obtain ⟨ss, rfl, hk⟩ := kinds_strs hall
                walk_at "nwp"
                rw [fIxU_1]
                walk_at "nwp"
                unfold fListOf mSortedSet
                dsimp only [seqD]
                unfold allocR
                walk_at "nwp"
                rw [fIxU_1]
                walk_at "nwp"
                rw [strsD_map]
                dsimp only
                rw [if_pos (by rw [List.length_map] at hl2; omega)]
                walk_at "nwp"
                have ok : ∀ s ∈ ss, okS s := fun s hs => by
                  have := hes (.str s) (List.mem_map.mpr ⟨s, hs, rfl⟩)
                  cases this with | str h1 h2 => exact h2.ok
                rw [eqD_lists (ss := ss) (ts := (dedS ss).mergeSort leT) (get_app getElem?_mid) getElem?_mid ok (fun s hs => ok s ((dedS_mem ss s).mp ((List.mergeSort_perm _ _).mem_iff.mp hs))), rise_sorted]
                obtain ⟨g3, rfl⟩ := hx2
                exact ⟨by simp [*], _, (by simp only [List.append_assoc]; rfl)⟩
          · rw [tyB_no (t := "tuple") (fun z => ht ((tyB_tup _).mp z))]
            walk_at "nwp"
            have : risingB b = false := by
              cases b with
              | tup ds => exact (ht ⟨_, rfl⟩).elim
              | _ => rfl
            rw [this]
            exact ⟨by simp, hx2⟩
      · rw [decide_eq_false hl]
        walk_at "nwp"
        rw [gapB_no fun a b e => by cases e; exact hl rfl]
        exact ⟨rfl, hx⟩
  · rw [tyB_no (t := "tuple") (fun z => ht ((tyB_tup _).mp z))]
    walk_at "nwp"
    rw [topB_no fun a b e => ht ⟨_, e⟩, sealB_no fun a b c e => ht ⟨_, e⟩, gapB_no fun a b e => ht ⟨_, e⟩]
    refine ⟨?_, [], by simp⟩
    simp
theorem law_record_spec (h : OkD μ d) : wp (f__law_is_record [d] μ) fun r μ' => r = .bl (recB d) ∧ ∃ g, μ' = μ ++ g := by
  refine wp_nr ?_
  rw [wp_run]
  unfold b__law_is_record
  rw [wps_seq]
  walk_at "nwp"
  rw [isA_ok h (.inr (.inr (.inr rfl)))]
  walk_at "nwp"
  by_cases ht : ∃ ds, d = .tup ds
  · obtain ⟨ds, rfl⟩ := ht
    rw [(tyB_tup _).mpr ⟨ds, rfl⟩]
    walk_at "nwp"
    rw [fLenQ_tup]
    walk_at "nwp"
    rw [fNe_int]
    by_cases hl : (ds.length : Int) = 4
    · rw [decide_eq_true hl]
      obtain ⟨a, b, c, e, rfl⟩ := len4 (by omega : ds.length = 4)
      have ha := h.tups.2 a (by simp)
      have hb := h.tups.2 b (by simp)
      have hc := h.tups.2 c (by simp)
      have he := h.tups.2 e (by simp)
      have t0 : ∀ μ, fIxT (.tup [a, b, c, e]) (.int 0) μ = .ok a μ := fun μ => by simp only [fIxT, show atI [a, b, c, e] 0 = some a from atI_nat (j := 0) rfl]
      have t1 : ∀ μ, fIxT (.tup [a, b, c, e]) (.int 1) μ = .ok b μ := fun μ => by simp only [fIxT, show atI [a, b, c, e] 1 = some b from atI_nat (j := 1) rfl]
      have t2 : ∀ μ, fIxT (.tup [a, b, c, e]) (.int 2) μ = .ok c μ := fun μ => by simp only [fIxT, show atI [a, b, c, e] 2 = some c from atI_nat (j := 2) rfl]
      have t3 : ∀ μ, fIxT (.tup [a, b, c, e]) (.int 3) μ = .ok e μ := fun μ => by simp only [fIxT, show atI [a, b, c, e] 3 = some e from atI_nat (j := 3) rfl]
      walk_at "nwp"
      rw [t0]
      walk_at "nwp"
      refine wp_imp (law_name_spec ha true) ?_
      rintro r μ' ⟨rfl, g, rfl⟩
      rw [show nameB true a = isNameD a from rfl, recB_is]
      cases ea : isNameD a with
      | true =>
        dsimp only
        unfold mAnd
        walk_at "nwp"
        rw [t1]
        walk_at "nwp"
        refine wp_imp (law_kind_spec hb.app) ?_
        rintro r μ' ⟨rfl, rfl⟩
        cases eb : kindB b with
        | true =>
          obtain ⟨s, rfl, hs⟩ := kindB_str eb
          dsimp only
          walk_at "nwp"
          rw [t2]
          walk_at "nwp"
          rw [pow_106]
          walk_at "nwp"
          refine wp_imp (among_spec hc.app 0 1000000) ?_
          rintro r μ' ⟨rfl, rfl⟩
          cases ec : amongB c 0 1000000 with
          | true =>
            dsimp only
            walk_at "nwp"
            rw [t1]
            walk_at "nwp"
            rw [t3]
            walk_at "nwp"
            refine wp_imp (law_data_spec hs he.app) ?_
            rintro r μ' ⟨rfl, g2, rfl⟩
            exact ⟨by simp [*], g ++ g2, by rw [List.append_assoc]⟩
          | false =>
            dsimp only
            walk_at "nwp"
            exact ⟨by simp [*], g, rfl⟩
        | false =>
          dsimp only
          walk_at "nwp"
          exact ⟨by simp [*], g, rfl⟩
      | false =>
        dsimp only
        walk_at "nwp"
        exact ⟨by simp [*], g, rfl⟩
    · rw [decide_eq_false hl]
      walk_at "nwp"
      rw [recB_no fun a b c e z => by cases z; exact hl rfl]
      (first | exact ⟨rfl, rfl⟩ | rfl | trivial | exact ⟨rfl, [], by simp⟩ | exact ⟨[], by simp⟩ | exact ⟨by simp [*], trivial⟩ | exact ⟨by simp [*], [], by simp⟩)
  · rw [tyB_no (t := "tuple") (fun z => ht ((tyB_tup _).mp z))]
    walk_at "nwp"
    rw [recB_no fun a b c e z => ht ⟨_, z⟩]
    (first | exact ⟨rfl, rfl⟩ | rfl | trivial | exact ⟨rfl, [], by simp⟩ | exact ⟨[], by simp⟩ | exact ⟨by simp [*], trivial⟩ | exact ⟨by simp [*], [], by simp⟩)
end
end Nh

namespace Nh
open PySem PySem.Spec PyProof.Rows L2
local macro_rules | `(tactic| walk_at "nwp") => `(tactic| try simp only [wp_bind, wp_ok, wp_nrR, wps_toS, wps_nx, wps_rt, wps_seq, wp_run, wps_if, wp_if, wp_tAnd, wp_tOr, wp_tNot, startD, List.map_cons, List.map_nil, List.length_cons, List.length_nil, Nat.reduceAdd, Nat.reduceSub, List.replicate_succ, List.replicate_zero, List.cons_append, List.nil_append, List.getElem?_cons_zero, List.getElem?_cons_succ, List.set_cons_zero, List.set_cons_succ,
  asB, mVar, mC, mOp, mCB, maCons, maNil, mCall, msRet, msAsg, mgName, msDrop, msNext, msRaise, mTup, mChain, mUn, if_true, if_false, Bool.not_true, Bool.not_false, Bool.false_eq_true, reduceIte, Nat.reduceEqDiff, Nat.reduceLeDiff,
  eq_self_iff_true, true_and, isA_str, inSign_star, inSign_one, notInSign_one, fEq_str, fEq_int, fLe_int, fLt_int, fGt_int, fAdd_int, fSub_int, fNeg_int])
/-! ### records -/
inductive Dt
  | num (i : Int)
  | txt (s : Str)
  | nam (ss : List Str)
  | top (v n : Int)
  | sea (k : Str) (y z : Int)
  | gap (n ks : List Str)
def Dt.d : Dt → Dat
  | .num i => .int i
  | .txt s => .str s
  | .nam ss => tupN ss
  | .top v n => .tup [.int v, .int n]
  | .sea k y z => .tup [.str k, .int y, .int z]
  | .gap n ks => .tup [tupN n, tupN ks]
def Dt.rk : Dt → Dat
  | .nam ss => tupN ss.reverse
  | .gap n ks => .tup [tupN n.reverse, tupN ks]
  | x => x.d
def pyS (ss : List Str) : PyData := .tuple (ss.map .str)
def Dt.p : Dt → PyData
  | .num i => .int i
  | .txt s => .str s
  | .nam ss => pyS ss
  | .top v n => .tuple [.int v, .int n]
  | .sea k y z => .tuple [.str k, .int y, .int z]
  | .gap n ks => .tuple [pyS n, pyS ks]
def Dt.key : Dt → PyData
  | .nam ss => keyN ss
  | .gap n ks => .tuple [keyN n, pyS ks]
  | x => x.p
def Dt.fits (k : Str) : Dt → Prop
  | .num i => (k = "addr" ∧ 0 ≤ i ∧ i ≤ 2 ^ 64 - 1) ∨ ((k = "key" ∨ k = "trust") ∧ 1 ≤ i ∧ i ≤ 1000000000000)
  | .txt s => k = "text" ∧ s.length ≤ 30 ∧ prS s
  | .nam ss => (k = "keeper" ∨ k = "other") ∧ isNameS ss = true ∧ (ss.map Dat.str).any isStarD = false
  | .top v n => k = "top" ∧ (0 ≤ v ∧ v ≤ 4294967295) ∧ 0 ≤ n ∧ n ≤ 1000000
  | .sea o y z => k = "seal" ∧ (o ∈ KS ∧ o ≠ "seal") ∧ (1 ≤ y ∧ y ≤ 1000000000000) ∧ 0 ≤ z ∧ z ≤ 1000000006
  | .gap n ks => k = "gap" ∧ isNameS n = true ∧ (∀ s ∈ ks, s ∈ KS) ∧ ks.length ≤ 9 ∧ risingL (ks.map .str) = true
structure Rec where
  n : List Str
  k : Str
  l : Int
  x : Dt
def Rec.d (r : Rec) : Dat := .tup [tupN r.n, .str r.k, .int r.l, r.x.d]
def Rec.p (r : Rec) : PyData := .tuple [pyS r.n, .str r.k, .int r.l, r.x.p]
def Rec.rk (r : Rec) : Dat := .tup [tupN r.n.reverse, .str r.k, r.x.rk, .int r.l]
def Rec.key (r : Rec) : PyData := .tuple [keyN r.n, .str r.k, r.x.key, .int r.l]
structure Rec.Good (r : Rec) : Prop where
  hn : isNameS r.n = true
  hk : r.k ∈ KS
  hl : 0 ≤ r.l ∧ r.l ≤ 1000000
  hx : r.x.fits r.k
def Dt.sh : Dt → Nat
  | .num _ => 0
  | .txt _ => 1
  | .nam _ => 2
  | .top _ _ => 3
  | .sea _ _ _ => 4
  | .gap _ _ => 5
def kindSh (k : Str) : Nat := if k = "text" then 1 else if k = "keeper" ∨ k = "other" then 2 else if k = "top" then 3 else if k = "seal" then 4 else if k = "gap" then 5 else 0
theorem Dt.fits.sh {k : Str} {x : Dt} (h : x.fits k) : x.sh = kindSh k := by
  cases x with
  | num i => rcases h with ⟨rfl, _⟩ | ⟨rfl | rfl, _⟩ <;> (show (0 : Nat) = _; decide +kernel)
  | txt s => obtain ⟨rfl, _⟩ := h; (show (1 : Nat) = _; decide +kernel)
  | nam ss => obtain ⟨rfl | rfl, _⟩ := h <;> (show (2 : Nat) = _; decide +kernel)
  | top v n => obtain ⟨rfl, _⟩ := h; (show (3 : Nat) = _; decide +kernel)
  | sea o y z => obtain ⟨rfl, _⟩ := h; (show (4 : Nat) = _; decide +kernel)
  | gap n ks => obtain ⟨rfl, _⟩ := h; (show (5 : Nat) = _; decide +kernel)
/-! ### records are records -/
theorem KS_pr : ∀ s ∈ KS, s.length ≤ 10 ∧ prS s := by unfold prS; decide +kernel
theorem okD_name {μ : Store} {ss : List Str} (h : isNameS ss = true) : OkD μ (tupN ss) := by
  refine .tup (by rw [List.length_map]; have := isNameS_len h; omega) fun e he => ?_
  obtain ⟨s, hs, rfl⟩ := List.mem_map.mp he
  have := label_len (isNameS_lab h s hs)
  exact .str (by omega) (label_pr (isNameS_lab h s hs))
theorem okD_kinds {μ : Store} {ss : List Str} (h : ∀ s ∈ ss, s ∈ KS) (hl : ss.length ≤ 20) : OkD μ (tupN ss) := by
  refine .tup (by rw [List.length_map]; exact hl) fun e he => ?_
  obtain ⟨s, hs, rfl⟩ := List.mem_map.mp he
  have := KS_pr s (h s hs)
  exact .str (by omega) this.2
theorem okD_list {μ : Store} {ds : List Dat} (hl : ds.length ≤ 20) (h : ds.all (fun _ => true) = true → ∀ e ∈ ds, OkD μ e) : OkD μ (.tup ds) := .tup hl (h (by simp))
theorem Dt.fits.okD {k : Str} {x : Dt} (h : x.fits k) (μ : Store) : OkD μ x.d := by
  cases x with
  | num i => exact .int i
  | txt s => exact .str (by have := h.2.1; omega) h.2.2
  | nam ss => exact okD_name h.2.1
  | top v n =>
    refine .tup (by simp) fun e he => ?_
    rcases List.mem_cons.mp he with rfl | he
    · exact .int _
    · rw [List.mem_singleton.mp he]; exact .int _
  | sea o y z =>
    have := KS_pr o h.2.1.1
    refine .tup (by simp) fun e he => ?_
    rcases List.mem_cons.mp he with rfl | he
    · exact .str (by omega) this.2
    rcases List.mem_cons.mp he with rfl | he
    · exact .int _
    · rw [List.mem_singleton.mp he]; exact .int _
  | gap n ks =>
    refine .tup (by simp) fun e he => ?_
    rcases List.mem_cons.mp he with rfl | he
    · exact okD_name h.2.1
    · rw [List.mem_singleton.mp he]; exact okD_kinds h.2.2.1 (by have := h.2.2.2.1; omega)
theorem Rec.Good.okD {r : Rec} (h : r.Good) (μ : Store) : OkD μ r.d := by
  have := KS_pr r.k h.hk
  refine .tup (by simp) fun e he => ?_
  rcases List.mem_cons.mp he with rfl | he
  · exact okD_name h.hn
  rcases List.mem_cons.mp he with rfl | he
  · exact .str (by omega) this.2
  rcases List.mem_cons.mp he with rfl | he
  · exact .int _
  · rw [List.mem_singleton.mp he]; exact h.hx.okD μ
theorem kinds_all {ks : List Str} (h : ∀ s ∈ ks, s ∈ KS) : (ks.map Dat.str).all kindB = true := by
  rw [List.all_eq_true]
  intro e he
  obtain ⟨s, hs, rfl⟩ := List.mem_map.mp he
  exact decide_eq_true (h s hs)
theorem Dt.fits.data {k : Str} {x : Dt} (h : x.fits k) : dataB k x.d = true := by
  cases x with
  | num i =>
    rcases h with ⟨rfl, h1, h2⟩ | ⟨rfl | rfl, h1, h2⟩
    · show amongB (.int i) 0 (2 ^ 64 - 1) = true
      unfold amongB
      dsimp only
      rw [decide_eq_true h1, decide_eq_true h2]
      rfl
    · show amongB (.int i) 1 1000000000000 = true
      unfold amongB
      dsimp only
      rw [decide_eq_true h1, decide_eq_true h2]
      rfl
    · show amongB (.int i) 1 1000000000000 = true
      unfold amongB
      dsimp only
      rw [decide_eq_true h1, decide_eq_true h2]
      rfl
  | txt s =>
    obtain ⟨rfl, h1, _⟩ := h
    exact decide_eq_true h1
  | nam ss =>
    have e : starless1 (tupN ss) = true := by
      unfold starless1 tupN
      dsimp only
      rw [show isNameD (.tup (ss.map Dat.str)) = true from h.2.1, h.2.2]
      rfl
    obtain ⟨rfl | rfl, _⟩ := h
    · exact e
    · exact e
  | top v n =>
    obtain ⟨rfl, ⟨h1, h2⟩, h3, h4⟩ := h
    show (amongB (.int v) 0 4294967295 && amongB (.int n) 0 1000000) = true
    unfold amongB
    dsimp only
    rw [decide_eq_true h1, decide_eq_true h2, decide_eq_true h3, decide_eq_true h4]
    rfl
  | sea o y z =>
    obtain ⟨rfl, ⟨h1, h2⟩, ⟨h3, h4⟩, h5, h6⟩ := h
    show (decide (o ∈ KS) && (!decide (o = "seal") && (amongB (.int y) 1 1000000000000 && amongB (.int z) 0 1000000006))) = true
    unfold amongB
    dsimp only
    rw [decide_eq_true h1, decide_eq_false h2, decide_eq_true h3, decide_eq_true h4, decide_eq_true h5, decide_eq_true h6]
    rfl
  | gap n ks =>
    obtain ⟨rfl, h1, h2, _, h3⟩ := h
    show (isNameD (tupN n) && ((ks.map Dat.str).all kindB && risingL (ks.map Dat.str))) = true
    rw [show isNameD (tupN n) = true from h1, kinds_all h2, h3]
    rfl
theorem Rec.Good.recB {r : Rec} (h : r.Good) : recB r.d = true := by
  show (isNameD (tupN r.n) && (decide (r.k ∈ KS) && (amongB (.int r.l) 0 1000000 && dataB r.k r.x.d))) = true
  unfold amongB
  dsimp only
  rw [show isNameD (tupN r.n) = true from h.hn, decide_eq_true h.hk, decide_eq_true h.hl.1, decide_eq_true h.hl.2, h.hx.data]
  rfl
/-! ### their order -/
theorem alike_S (a b : List Str) : PySem.W.alike (pyS a) (pyS b) = true := by
  unfold pyS
  simp only [PySem.W.alike, alike_strs]
theorem alike_N (a b : List Str) : PySem.W.alike (keyN a) (keyN b) = true := alike_S a.reverse b.reverse
theorem eqv_S (a b : List Str) : PyData.eqv (pyS a) (pyS b) = decide (a = b) := eqv_strs a b
theorem eqv_N (a b : List Str) : PyData.eqv (keyN a) (keyN b) = decide (a = b) := by
  refine (eqv_strs a.reverse b.reverse).trans ?_
  exact decide_eq_decide.mpr List.reverse_inj
theorem alike_x {x y : Dt} (h : x.sh = y.sh) : PySem.W.alike x.key y.key = true := by
  cases x <;> cases y <;> first | cases h | skip
  all_goals simp only [Dt.key, Dt.p, PySem.W.alike, PySem.W.alikeAll, alike_S, alike_N, Bool.and_self]
theorem eqv_x {x y : Dt} (h : x.sh = y.sh) : PyData.eqv x.key y.key = true ↔ x = y := by
  cases x <;> cases y <;> first | cases h | skip
  · simp [Dt.key, Dt.p, PyData.eqv]
  · simp [Dt.key, Dt.p, PyData.eqv]
  · simp [Dt.key, eqv_N]
  · simp [Dt.key, Dt.p, PyData.eqv, PyData.eqvAll]
  · simp [Dt.key, Dt.p, PyData.eqv, PyData.eqvAll]
  · simp [Dt.key, Dt.p, PyData.eqv, PyData.eqvAll, eqv_N, eqv_S]
theorem eqv_p {x y : Dt} (h : x.sh = y.sh) : PyData.eqv x.p y.p = true ↔ x = y := by
  cases x <;> cases y <;> first | cases h | skip
  · simp [Dt.p, PyData.eqv]
  · simp [Dt.p, PyData.eqv]
  · simp [Dt.p, eqv_S]
  · simp [Dt.p, PyData.eqv, PyData.eqvAll]
  · simp [Dt.p, PyData.eqv, PyData.eqvAll]
  · simp [Dt.p, PyData.eqv, PyData.eqvAll, eqv_S]
theorem eqv_key_p {x y : Dt} (h : x.sh = y.sh) : PyData.eqv x.p y.p = PyData.eqv x.key y.key := by
  cases e : PyData.eqv x.key y.key with
  | true => exact (eqv_p h).mpr ((eqv_x h).mp e)
  | false =>
    cases e2 : PyData.eqv x.p y.p with
    | false => rfl
    | true =>
      have := (eqv_x h).mpr ((eqv_p h).mp e2)
      rw [e] at this
      exact this.symm
open PySem.W in
theorem toks_eq {x y : PyData} (h : PySem.W.alike x y = true) (e : keyToks x = keyToks y) : PyData.eqv x y = true := by
  cases q : PyData.eqv x y with
  | true => rfl
  | false =>
    have z := (toks_eqv x y h).2 q [Sum.inl 0] [Sum.inl 1]
    rw [e, lex_pre] at z
    have z2 : PyProof.Rows.lexLt itemOrd (keyToks y) (keyToks y) = false := lex_irrefl _
    rw [z2] at z
    have z3 : PyProof.Rows.lexLt itemOrd [Sum.inl 0] [Sum.inl 1] = true := by decide +kernel
    rw [z3] at z
    cases z
def ltR (a b : Rec) : Bool := PySem.W.dataLt a.key b.key
def leR (a b : Rec) : Bool := !ltR b a
theorem ltR_irrefl (a : Rec) : ltR a a = false := lex_irrefl _
theorem leR_total (a b : Rec) : (leR a b || leR b a) = true := by
  unfold leR
  cases h : ltR b a with
  | false => rfl
  | true =>
    cases h2 : ltR a b with
    | false => rfl
    | true =>
      have := lex_trans _ _ _ h h2
      rw [show PyProof.Rows.lexLt itemOrd (PySem.W.keyToks b.key) (PySem.W.keyToks b.key) = false from lex_irrefl _] at this
      cases this
theorem leR_trans (a b c : Rec) (h1 : leR a b = true) (h2 : leR b c = true) : leR a c = true := by
  unfold leR at h1 h2 ⊢
  rw [Bool.not_eq_true'] at h1 h2 ⊢
  cases h : ltR c a with
  | false => rfl
  | true =>
    rcases lex_negTrans _ (PySem.W.keyToks b.key) _ h with z | z
    · have : ltR c b = true := z
      rw [this] at h2
      cases h2
    · have : ltR b a = true := z
      rw [this] at h1
      cases h1
section
variable {a b : Rec}
theorem ltR_n (h : a.n ≠ b.n) : ltR a b = lexS a.n.reverse b.n.reverse := by
  unfold ltR Rec.key
  rw [PySem.W.dataLt_tuple, PySem.W.dataLt_all_no (alike_N _ _) (by rw [eqv_N]; exact decide_eq_false h), dataLt_keys]
theorem ltR_k (h1 : a.n = b.n) (h : a.k ≠ b.k) : ltR a b = ltT a.k b.k := by
  unfold ltR Rec.key
  rw [PySem.W.dataLt_tuple, PySem.W.dataLt_all_yes (alike_N _ _) (by rw [eqv_N]; exact decide_eq_true h1), PySem.W.dataLt_all_no (by simp only [PySem.W.alike]) (show PyData.eqv (.str a.k) (.str b.k) = false from beq_eq_false_iff_ne.mpr h), PySem.W.dataLt_str]
  rfl
theorem ltR_x (h1 : a.n = b.n) (h2 : a.k = b.k) (hs : a.x.sh = b.x.sh) (h : PyData.eqv a.x.key b.x.key = false) : ltR a b = PySem.W.dataLt a.x.key b.x.key := by
  unfold ltR Rec.key
  rw [PySem.W.dataLt_tuple, PySem.W.dataLt_all_yes (alike_N _ _) (by rw [eqv_N]; exact decide_eq_true h1), PySem.W.dataLt_all_yes (by simp only [PySem.W.alike]) (show PyData.eqv (.str a.k) (.str b.k) = true from beq_iff_eq.mpr h2), PySem.W.dataLt_all_no (alike_x hs) h]
theorem ltR_l (h1 : a.n = b.n) (h2 : a.k = b.k) (hs : a.x.sh = b.x.sh) (h : PyData.eqv a.x.key b.x.key = true) : ltR a b = decide (a.l < b.l) := by
  unfold ltR Rec.key
  rw [PySem.W.dataLt_tuple, PySem.W.dataLt_all_yes (alike_N _ _) (by rw [eqv_N]; exact decide_eq_true h1), PySem.W.dataLt_all_yes (by simp only [PySem.W.alike]) (show PyData.eqv (.str a.k) (.str b.k) = true from beq_iff_eq.mpr h2), PySem.W.dataLt_all_yes (alike_x hs) h]
  by_cases e : a.l = b.l
  · rw [PySem.W.dataLt_all_yes (by simp only [PySem.W.alike]) (show PyData.eqv (.int a.l) (.int b.l) = true from beq_iff_eq.mpr e), e, decide_eq_false (by omega)]
    rfl
  · rw [PySem.W.dataLt_all_no (by simp only [PySem.W.alike]) (show PyData.eqv (.int a.l) (.int b.l) = false from beq_eq_false_iff_ne.mpr e), PySem.W.dataLt_int]
theorem leR_anti (ha : a.Good) (hb : b.Good) (h1 : leR a b = true) (h2 : leR b a = true) : a = b := by
  unfold leR at h1 h2
  rw [Bool.not_eq_true'] at h1 h2
  have en : a.n = b.n := Classical.byContradiction fun h => by
    rw [ltR_n h] at h2
    rw [ltR_n fun z => h z.symm] at h1
    exact h (List.reverse_inj.mp (lexS_tri h2 h1))
  have ek : a.k = b.k := Classical.byContradiction fun h => by
    rw [ltR_k en h] at h2
    rw [ltR_k en.symm fun z => h z.symm] at h1
    exact h (ltT_tri h2 h1)
  have hs : a.x.sh = b.x.sh := by rw [ha.hx.sh, hb.hx.sh, ek]
  have ex : PyData.eqv a.x.key b.x.key = true := by
    cases q : PyData.eqv a.x.key b.x.key with
    | true => rfl
    | false =>
      have q2 : PyData.eqv b.x.key a.x.key = false := by
        cases z : PyData.eqv b.x.key a.x.key with
        | false => rfl
        | true =>
          rw [(eqv_x hs).mpr ((eqv_x hs.symm).mp z).symm] at q
          cases q
      rw [ltR_x en ek hs q] at h2
      rw [ltR_x en.symm ek.symm hs.symm q2] at h1
      rw [toks_eq (alike_x hs) (lex_total _ _ h2 h1)] at q
      cases q
  have exx := (eqv_x hs).mp ex
  have ex2 : PyData.eqv b.x.key a.x.key = true := (eqv_x hs.symm).mpr exx.symm
  rw [ltR_l en ek hs ex] at h2
  rw [ltR_l en.symm ek.symm hs.symm ex2] at h1
  have el : a.l = b.l := by
    have z1 := of_decide_eq_false h1
    have z2 := of_decide_eq_false h2
    omega
  obtain ⟨n, k, l, x⟩ := a
  obtain ⟨n', k', l', x'⟩ := b
  dsimp only at en ek el exx
  subst en ek el exx
  rfl
theorem step_ok (ha : a.Good) (hb : b.Good) : stepOk a.key b.key = true := by
  unfold Rec.key stepOk
  simp only [stepAll, alike_N, PySem.W.alike, Bool.true_and, Bool.and_true, Bool.or_eq_true, Bool.not_eq_true', Bool.or_true, Bool.and_eq_true]
  by_cases h : PyData.eqv (.str a.k) (.str b.k) = true
  · have e : a.k = b.k := beq_iff_eq.mp h
    have hs : a.x.sh = b.x.sh := by rw [ha.hx.sh, hb.hx.sh, e]
    exact .inr (.inr (alike_x hs))
  · exact .inr (.inl (by simpa using h))
end
end Nh

namespace Nh
open PySem PySem.Spec PyProof.Rows L2
local macro_rules | `(tactic| walk_at "nwp") => `(tactic| try simp only [wp_bind, wp_ok, wp_nrR, wps_toS, wps_nx, wps_rt, wps_seq, wp_run, wps_if, wp_if, wp_tAnd, wp_tOr, wp_tNot, startD, List.map_cons, List.map_nil, List.length_cons, List.length_nil, Nat.reduceAdd, Nat.reduceSub, List.replicate_succ, List.replicate_zero, List.cons_append, List.nil_append, List.getElem?_cons_zero, List.getElem?_cons_succ, List.set_cons_zero, List.set_cons_succ,
  asB, mVar, mC, mOp, mCB, maCons, maNil, mCall, msRet, msAsg, mgName, msDrop, msNext, msRaise, mTup, mChain, mUn, if_true, if_false, Bool.not_true, Bool.not_false, Bool.false_eq_true, reduceIte, Nat.reduceEqDiff, Nat.reduceLeDiff,
  eq_self_iff_true, true_and, isA_str, inSign_star, inSign_one, notInSign_one, fEq_str, fEq_int, fLe_int, fLt_int, fGt_int, fAdd_int, fSub_int, fNeg_int])
/-! ### records as plain data -/
theorem py_S (μ : Store) (n : Nat) (ss : List Str) : py μ (n + 2) (tupN ss) = some (pyS ss) := py_strs μ n ss
theorem py_x (μ : Store) (n : Nat) (x : Dt) : py μ (n + 3) x.d = some x.p := by
  cases x with
  | num i => rfl
  | txt s => rfl
  | nam ss => exact py_S μ (n + 1) ss
  | top v m => rfl
  | sea o y z => rfl
  | gap m ks =>
    show (pyAll (py μ (n + 2)) [tupN m, tupN ks]).map PyData.tuple = _
    simp only [pyAll, py_S]
    rfl
theorem py_rk (μ : Store) (n : Nat) (x : Dt) : py μ (n + 3) x.rk = some x.key := by
  cases x with
  | num i => rfl
  | txt s => rfl
  | nam ss => exact py_S μ (n + 1) ss.reverse
  | top v m => rfl
  | sea o y z => rfl
  | gap m ks =>
    show (pyAll (py μ (n + 2)) [tupN m.reverse, tupN ks]).map PyData.tuple = _
    simp only [pyAll, py_S]
    rfl
theorem py_r (μ : Store) (n : Nat) (r : Rec) : py μ (n + 4) r.d = some r.p := by
  show (pyAll (py μ (n + 3)) [tupN r.n, .str r.k, .int r.l, r.x.d]).map PyData.tuple = _
  simp only [pyAll, py_S μ (n + 1), py_x]
  rfl
theorem py_rrk (μ : Store) (n : Nat) (r : Rec) : py μ (n + 4) r.rk = some r.key := by
  show (pyAll (py μ (n + 3)) [tupN r.n.reverse, .str r.k, r.x.rk, .int r.l]).map PyData.tuple = _
  simp only [pyAll, py_S μ (n + 1), py_rk]
  rfl
theorem depth_S (ss : List Str) : (pyS ss).depth = 1 := by
  show PyData.depthAll (ss.map .str) + 1 = 1
  rw [depth_strs]
theorem depth_x (x : Dt) : x.p.depth ≤ 2 := by
  cases x with
  | num i => exact Nat.zero_le _
  | txt s => exact Nat.zero_le _
  | nam ss => exact (show (pyS ss).depth ≤ 2 by rw [depth_S]; omega)
  | top v m => show max 0 (max 0 0) + 1 ≤ 2; omega
  | sea o y z => show max 0 (max 0 (max 0 0)) + 1 ≤ 2; omega
  | gap m ks =>
    show max (pyS m).depth (max (pyS ks).depth 0) + 1 ≤ 2
    rw [depth_S, depth_S]
    omega
theorem depth_key (x : Dt) : x.key.depth ≤ 2 := by
  cases x with
  | nam ss => exact (show (pyS ss.reverse).depth ≤ 2 by rw [depth_S]; omega)
  | gap m ks =>
    show max (pyS m.reverse).depth (max (pyS ks).depth 0) + 1 ≤ 2
    rw [depth_S, depth_S]
    omega
  | num i => exact depth_x (.num i)
  | txt s => exact depth_x (.txt s)
  | top v m => exact depth_x (.top v m)
  | sea o y z => exact depth_x (.sea o y z)
theorem depth_rkey (r : Rec) : r.key.depth ≤ 3 := by
  show max (pyS r.n.reverse).depth (max 0 (max r.x.key.depth (max 0 0))) + 1 ≤ 3
  rw [depth_S]
  have := depth_key r.x
  omega
theorem depth_r (r : Rec) : r.p.depth ≤ 3 := by
  show max (pyS r.n).depth (max 0 (max 0 (max r.x.p.depth 0))) + 1 ≤ 3
  rw [depth_S]
  have := depth_x r.x
  omega
theorem lay_S {ss : List Str} (h : ∀ s ∈ ss, okS s) : (pyS ss).canLay0 = true := lay_strs h
theorem Dt.fits.lay {k : Str} {x : Dt} (h : x.fits k) : x.p.canLay0 = true := by
  cases x with
  | num i => rfl
  | txt s => exact h.2.2.ok.strOk
  | nam ss => exact lay_S (isNameS_ok h.2.1)
  | top v m => rfl
  | sea o y z =>
    show (PyData.strOk o && (true && (true && true))) = true
    rw [(KS_pr o h.2.1.1).2.ok.strOk]
    rfl
  | gap m ks =>
    show ((pyS m).canLay0 && ((pyS ks).canLay0 && true)) = true
    rw [lay_S (isNameS_ok h.2.1), lay_S fun s hs => (KS_pr s (h.2.2.1 s hs)).2.ok]
    rfl
theorem Dt.fits.shp {k : Str} {x : Dt} (h : x.fits k) : Shp x.p := ⟨h.lay, by have := depth_x x; omega⟩
theorem Rec.Good.lay {r : Rec} (h : r.Good) : r.p.canLay0 = true := by
  show ((pyS r.n).canLay0 && (PyData.strOk r.k && (true && (r.x.p.canLay0 && true)))) = true
  rw [lay_S (isNameS_ok h.hn), (KS_pr r.k h.hk).2.ok.strOk, h.hx.lay]
  rfl
theorem eqv_r_refl (r : Rec) : PyData.eqv r.p r.p = true := by
  show (PyData.eqv (pyS r.n) (pyS r.n) && (PyData.eqv (.str r.k) (.str r.k) && (PyData.eqv (.int r.l) (.int r.l) && (PyData.eqv r.x.p r.x.p && true)))) = true
  rw [eqv_S, decide_eq_true rfl, show PyData.eqv (.str r.k) (.str r.k) = true from beq_self_eq_true r.k, show PyData.eqv (.int r.l) (.int r.l) = true from beq_self_eq_true r.l, (eqv_p rfl).mpr rfl]
  rfl
def Goods (rl : List Rec) : Prop := ∀ r ∈ rl, r.Good
theorem shp_rl {rl : List Rec} (h : Goods rl) : Shp (.list (rl.map Rec.p)) := by
  have h1 : PyData.canLayAll0 (rl.map Rec.p) = true := by
    induction rl with
    | nil => rfl
    | cons a r ih =>
      rw [List.map_cons]
      show (a.p.canLay0 && PyData.canLayAll0 (r.map Rec.p)) = true
      rw [(h a List.mem_cons_self).lay, ih fun b hb => h b (List.mem_cons_of_mem _ hb)]
      rfl
  have h2 : PyData.depthAll (rl.map Rec.p) ≤ 3 := by
    clear h h1
    induction rl with
    | nil => exact Nat.zero_le _
    | cons a r ih =>
      rw [List.map_cons]
      show max a.p.depth (PyData.depthAll (r.map Rec.p)) ≤ 3
      have := depth_r a
      omega
  refine ⟨h1, ?_⟩
  show PyData.depthAll (rl.map Rec.p) + 1 ≤ 5
  omega
theorem eqv_rl : ∀ rl : List Rec, PyData.eqvAll (rl.map Rec.p) (rl.map Rec.p) = true
  | [] => rfl
  | a :: r => by
    rw [List.map_cons]
    show (PyData.eqv a.p a.p && PyData.eqvAll (r.map Rec.p) (r.map Rec.p)) = true
    rw [eqv_r_refl, eqv_rl r]
    rfl
theorem py_rl (μ : Store) : ∀ rl : List Rec, pyAll (py μ 11) (rl.map Rec.d) = some (rl.map Rec.p)
  | [] => rfl
  | a :: r => by
    rw [List.map_cons, pyAll, py_r μ 7, py_rl μ r]
    rfl
theorem py_cellR {μ : Store} {a : Nat} {rl : List Rec} (h : μ[a]? = some (.lst (rl.map Rec.d))) : py μ 12 (.cell a) = some (.list (rl.map Rec.p)) := by
  show (match μ[a]? with | some (.lst ds) => (pyAll (py μ 11) ds).map PyData.list | _ => none) = _
  rw [h]
  dsimp only
  rw [py_rl]
  rfl
theorem neD_recs {μ : Store} {a b : Nat} {rl : List Rec} (h1 : μ[a]? = some (.lst (rl.map Rec.d))) (h2 : μ[b]? = some (.lst (rl.map Rec.d))) (ok : Goods rl) : fNeD (.cell a) (.cell b) μ = .ok (.bl false) μ := by
  simp only [fNeD, py_cellR h1, py_cellR h2, (shp_rl ok).shaped, Bool.and_self, if_true]
  rw [show PyData.eqv (.list (rl.map Rec.p)) (.list (rl.map Rec.p)) = PyData.eqvAll (rl.map Rec.p) (rl.map Rec.p) from rfl, eqv_rl]
  rfl
theorem neD_rempty {μ : Store} {a b : Nat} {rl : List Rec} (h1 : μ[a]? = some (.lst (rl.map Rec.d))) (h2 : μ[b]? = some (.lst [])) (ok : Goods rl) : fNeD (.cell a) (.cell b) μ = .ok (.bl (!rl.isEmpty)) μ := by
  have h3 : py μ 12 (.cell b) = some (.list []) := py_cellR (rl := []) h2
  have s2 : SeqAt.shaped (.list []) = true := by decide +kernel
  simp only [fNeD, py_cellR h1, h3, (shp_rl ok).shaped, s2, Bool.and_self, if_true]
  cases rl with
  | nil => rfl
  | cons a r => rfl
theorem neD_N {a b : List Str} (μ : Store) (h1 : isNameS a = true) (h2 : isNameS b = true) : fNeD (tupN a) (tupN b) μ = .ok (.bl (!decide (a = b))) μ := by
  simp only [fNeD, py_S μ 10, (shp_strs (isNameS_ok h1)).shaped, (shp_strs (isNameS_ok h2)).shaped, show pyS a = .tuple (a.map .str) from rfl, show pyS b = .tuple (b.map .str) from rfl, Bool.and_self, if_true]
  rw [show PyData.eqv (.tuple (a.map .str)) (.tuple (b.map .str)) = PyData.eqvAll (a.map .str) (b.map .str) from rfl, eqv_strs]
theorem neD_x {k k' : Str} {x y : Dt} (hx : x.fits k) (hy : y.fits k') (μ : Store) : fNeD x.d y.d μ = .ok (.bl (!PyData.eqv x.p y.p)) μ := by
  simp only [fNeD, py_x μ 9, hx.shp.shaped, hy.shp.shaped, Bool.and_self, if_true]
/-! ### the law's comparing -/
theorem notNone_x (x : Dt) : notNone x.p = true := by cases x <;> rfl
theorem ltD_x {x y : Dt} (h : x.sh = y.sh) (hk : x.key = x.p) (hk2 : y.key = y.p) (μ : Store) : fLtD x.d y.d μ = .ok (.bl (PySem.W.dataLt x.key y.key)) μ := by
  have ha := alike_x h
  rw [hk, hk2] at ha
  simp only [fLtD, py_x μ 9, ha, notNone_x, Bool.true_and, hk, hk2]
  rw [if_pos (decide_eq_true (by have := depth_x x; omega))]
theorem ltD_S (a b : List Str) (μ : Store) : fLtD (tupN a) (tupN b) μ = .ok (.bl (PySem.W.dataLt (pyS a) (pyS b))) μ := by
  simp only [fLtD, py_S μ 10, alike_S, Bool.true_and]
  rw [if_pos (by
    rw [show notNone (pyS a) = true from rfl, Bool.true_and]
    exact decide_eq_true (by rw [depth_S]; omega))]
theorem before_len {a : List Str} (h : isNameS a = true) : a.length ≤ 6 := isNameS_len h
theorem less_spec {k : Str} {x y : Dt} (hx : x.fits k) (hy : y.fits k) (hne : x ≠ y) (μ : Store) : wp (f__law_less [.str k, x.d, y.d] μ) fun d μ' => d = .bl (PySem.W.dataLt x.key y.key) ∧ μ' = μ := by
  have hs : x.sh = y.sh := by rw [hx.sh, hy.sh]
  refine wp_nr ?_
  rw [wp_run]
  unfold b__law_less
  rw [wps_seq, wps_kind2 (s := k) rfl]
  by_cases h1 : k = "keeper" ∨ k = "other"
  · rw [if_pos h1]
    have h2 : x.sh = 2 := by
      rw [hx.sh]
      rcases h1 with rfl | rfl <;> decide +kernel
    have h3 : y.sh = 2 := by rw [← hs, h2]
    cases x <;> first | cases h2 | skip
    cases y <;> first | cases h3 | skip
    walk_at "nwp"
    refine wp_imp (before_spec (before_len hx.2.1) _) ?_
    rintro d μ' ⟨rfl, rfl⟩
    exact ⟨congrArg Dat.bl (dataLt_keys _ _).symm, rfl⟩
  rw [if_neg h1]
  unfold msNext
  rw [wps_nx]
  dsimp only
  rw [wps_seq]
  walk_at "nwp"
  by_cases h2 : k = "gap"
  · rw [decide_eq_true h2]
    have h3 : x.sh = 5 := by
      rw [hx.sh, h2]
      decide +kernel
    have h4 : y.sh = 5 := by rw [← hs, h3]
    cases x <;> first | cases h3 | skip
    cases y <;> first | cases h4 | skip
    rename_i n ks n' ks'
    walk_at "nwp"
    rw [show ∀ μ, fIxU (Dt.gap n ks).d (.int 0) μ = .ok (tupN n) μ from fun μ => fIxU_0 _ _ _]
    walk_at "nwp"
    rw [show ∀ μ, fIxU (Dt.gap n' ks').d (.int 0) μ = .ok (tupN n') μ from fun μ => fIxU_0 _ _ _]
    walk_at "nwp"
    rw [neD_N μ hx.2.1 hy.2.1]
    by_cases h5 : n = n'
    · rw [decide_eq_true h5]
      walk_at "nwp"
      rw [show ∀ μ, fIxU (Dt.gap n ks).d (.int 1) μ = .ok (tupN ks) μ from fun μ => fIxU_1 _ _ _ _]
      walk_at "nwp"
      rw [show ∀ μ, fIxU (Dt.gap n' ks').d (.int 1) μ = .ok (tupN ks') μ from fun μ => fIxU_1 _ _ _ _]
      walk_at "nwp"
      rw [ltD_S]
      have h6 : ks ≠ ks' := fun e => hne (by rw [h5, e])
      refine ⟨congrArg Dat.bl ?_, rfl⟩
      show _ = PySem.W.dataLt (.tuple [keyN n, pyS ks]) (.tuple [keyN n', pyS ks'])
      rw [PySem.W.dataLt_tuple, PySem.W.dataLt_all_yes (alike_N _ _) (by rw [eqv_N]; exact decide_eq_true h5), PySem.W.dataLt_all_no (alike_S _ _) (by rw [eqv_S]; exact decide_eq_false h6)]
    · rw [decide_eq_false h5]
      walk_at "nwp"
      rw [show ∀ μ, fIxU (Dt.gap n ks).d (.int 0) μ = .ok (tupN n) μ from fun μ => fIxU_0 _ _ _]
      walk_at "nwp"
      rw [show ∀ μ, fIxU (Dt.gap n' ks').d (.int 0) μ = .ok (tupN n') μ from fun μ => fIxU_0 _ _ _]
      walk_at "nwp"
      refine wp_imp (before_spec (before_len hx.2.1) _) ?_
      rintro d μ' ⟨rfl, rfl⟩
      refine ⟨congrArg Dat.bl ?_, rfl⟩
      show _ = PySem.W.dataLt (.tuple [keyN n, pyS ks]) (.tuple [keyN n', pyS ks'])
      rw [PySem.W.dataLt_tuple, PySem.W.dataLt_all_no (alike_N _ _) (by rw [eqv_N]; exact decide_eq_false h5), dataLt_keys]
  · rw [decide_eq_false h2]
    walk_at "nwp"
    have kx : ∀ {z : Dt}, z.fits k → z.key = z.p := fun {z} hz => by
      cases z with
      | nam ss => exact (h1 hz.1).elim
      | gap n ks => exact (h2 hz.1).elim
      | _ => rfl
    rw [ltD_x hs (kx hx) (kx hy)]
    exact ⟨rfl, rfl⟩
theorem ahead_spec {a b : Rec} (ha : a.Good) (hb : b.Good) (μ : Store) : wp (f__law_ahead [a.d, b.d] μ) fun d μ' => d = .bl (ltR a b) ∧ μ' = μ := by
  have t0 : ∀ (r : Rec) μ, fIxT r.d (.int 0) μ = .ok (tupN r.n) μ := fun r μ => by simp only [Rec.d, fIxT, show ∀ a b c e : Dat, atI [a, b, c, e] 0 = some a from fun a b c e => atI_nat (j := 0) rfl]
  have t1 : ∀ (r : Rec) μ, fIxT r.d (.int 1) μ = .ok (.str r.k) μ := fun r μ => by simp only [Rec.d, fIxT, show ∀ a b c e : Dat, atI [a, b, c, e] 1 = some b from fun a b c e => atI_nat (j := 1) rfl]
  have t2 : ∀ (r : Rec) μ, fIxT r.d (.int 2) μ = .ok (.int r.l) μ := fun r μ => by simp only [Rec.d, fIxT, show ∀ a b c e : Dat, atI [a, b, c, e] 2 = some c from fun a b c e => atI_nat (j := 2) rfl]
  have t3 : ∀ (r : Rec) μ, fIxT r.d (.int 3) μ = .ok r.x.d μ := fun r μ => by simp only [Rec.d, fIxT, show ∀ a b c e : Dat, atI [a, b, c, e] 3 = some e from fun a b c e => atI_nat (j := 3) rfl]
  refine wp_nr ?_
  rw [wp_run]
  unfold b__law_ahead
  walk_at "nwp"
  simp only [t0, wp_ok, neD_N _ ha.hn hb.hn]
  walk_at "nwp"
  by_cases h0 : a.n = b.n
  · rw [decide_eq_true h0]
    walk_at "nwp"
    simp only [t1, wp_ok, fNe_s]
    walk_at "nwp"
    by_cases h1 : a.k = b.k
    · rw [decide_eq_true h1]
      walk_at "nwp"
      have hs : a.x.sh = b.x.sh := by rw [ha.hx.sh, hb.hx.sh, h1]
      simp only [t3, wp_ok, neD_x ha.hx hb.hx]
      rw [eqv_key_p hs]
      cases hx : PyData.eqv a.x.key b.x.key with
      | true =>
        walk_at "nwp"
        simp only [t2, wp_ok]
        walk_at "nwp"
        rw [ltR_l h0 h1 hs hx]
        first | exact ⟨rfl, rfl⟩ | exact ⟨rfl, trivial⟩ | trivial
      | false =>
        walk_at "nwp"
        try simp only [t1, t3, wp_ok]
        walk_at "nwp"
        rw [ltR_x h0 h1 hs hx]
        refine wp_imp (less_spec ha.hx (h1 ▸ hb.hx) (fun e => ?_) _) fun _ _ z => z
        rw [(eqv_x hs).mpr e] at hx
        cases hx
    · rw [decide_eq_false h1]
      walk_at "nwp"
      try simp only [t1, wp_ok]
      walk_at "nwp"
      rw [ltR_k h0 h1]
      exact ⟨rfl, rfl⟩
  · rw [decide_eq_false h0]
    walk_at "nwp"
    try simp only [t0, wp_ok]
    walk_at "nwp"
    rw [ltR_n h0]
    exact wp_imp (before_spec (before_len ha.hn) _) fun _ _ z => z
end Nh

namespace Nh
open PySem PySem.Spec PyProof.Rows L2
local macro_rules | `(tactic| walk_at "nwp") => `(tactic| try simp only [wp_bind, wp_ok, wp_nrR, wps_toS, wps_nx, wps_rt, wps_seq, wp_run, wps_if, wp_if, wp_tAnd, wp_tOr, wp_tNot, startD, List.map_cons, List.map_nil, List.length_cons, List.length_nil, Nat.reduceAdd, Nat.reduceSub, List.replicate_succ, List.replicate_zero, List.cons_append, List.nil_append, List.getElem?_cons_zero, List.getElem?_cons_succ, List.set_cons_zero, List.set_cons_succ,
  asB, mVar, mC, mOp, mCB, maCons, maNil, mCall, msRet, msAsg, mgName, msDrop, msNext, msRaise, mTup, mChain, mUn, if_true, if_false, Bool.not_true, Bool.not_false, Bool.false_eq_true, reduceIte, Nat.reduceEqDiff, Nat.reduceLeDiff,
  eq_self_iff_true, true_and, isA_str, inSign_star, inSign_one, notInSign_one, fEq_str, fEq_int, fLe_int, fLt_int, fGt_int, fAdd_int, fSub_int, fNeg_int])
/-! ### the law's own sorting -/
theorem ltR_asymm {a b : Rec} (h : ltR a b = true) : leR a b = true := by
  have := leR_total a b
  rw [show leR b a = false from by unfold leR; rw [h]; rfl, Bool.or_false] at this
  exact this
theorem ins_sorted {x : Rec} {out : List Rec} {p : Nat} (hs : out.Pairwise fun a b => leR a b = true) (hp : p ≤ out.length) (h1 : ∀ j (hj : j < out.length), p ≤ j → ltR x out[j] = true) (h2 : ∀ hp : 0 < p, ∀ h : p - 1 < out.length, ltR x out[p - 1] = false) :
    (out.take p ++ [x] ++ out.drop p).Pairwise fun a b => leR a b = true := by
  have hsplit : out.take p ++ out.drop p = out := List.take_append_drop p out
  rw [← hsplit, List.pairwise_append] at hs
  obtain ⟨s1, s2, s3⟩ := hs
  have low : ∀ a ∈ out.take p, leR a x = true := by
    intro a ha
    obtain ⟨j, hj, rfl⟩ := List.getElem_of_mem ha
    rw [List.length_take] at hj
    have hp0 : 0 < p := by omega
    have hlt : p - 1 < out.length := by omega
    have hx : leR out[p - 1] x = true := by
      unfold leR
      rw [h2 hp0 hlt]
      rfl
    rw [List.getElem_take]
    by_cases e : j = p - 1
    · subst e
      exact hx
    · have hpw : out.Pairwise fun a b => leR a b = true := by
        rw [← hsplit, List.pairwise_append]
        exact ⟨s1, s2, s3⟩
      exact leR_trans _ _ _ (List.pairwise_iff_getElem.mp hpw j (p - 1) (by omega) hlt (by omega)) hx
  have high : ∀ b ∈ out.drop p, leR x b = true := by
    intro b hb
    obtain ⟨j, hj, rfl⟩ := List.getElem_of_mem hb
    rw [List.length_drop] at hj
    rw [List.getElem_drop]
    unfold leR
    exact ltR_asymm (h1 (p + j) (by omega) (by omega))
  rw [List.append_assoc, List.pairwise_append]
  refine ⟨s1, ?_, ?_⟩
  · rw [List.singleton_append, List.pairwise_cons]
    exact ⟨high, s2⟩
  · intro a ha b hb
    rw [List.singleton_append] at hb
    rcases List.mem_cons.mp hb with rfl | hb
    · exact low a ha
    · exact leR_trans _ _ _ (low a ha) (high b hb)
theorem ins_perm {x : Rec} {out : List Rec} (p : Nat) : (out.take p ++ [x] ++ out.drop p).Perm (x :: out) := by
  have e : x :: out = x :: (out.take p ++ out.drop p) := by rw [List.take_append_drop]
  rw [e, List.append_assoc, List.singleton_append]
  exact List.perm_middle
theorem recs_at {μ : Store} {k : Nat} {nl : List Rec} (hk : μ[k]? = some (.lst (nl.map Rec.d))) {j : Nat} (hj : j < nl.length) {z : Int} (hz : z = (j : Int)) : fIxL (.cell k) (.int z) μ = .ok (Rec.d nl[j]) μ := by
  subst hz
  simp only [fIxL, lstAt, hk]
  rw [atI_nat (v := Rec.d nl[j]) (by rw [List.getElem?_map, List.getElem?_eq_getElem hj]; rfl)]
theorem rsorted_spec {μ : Store} {k : Nat} {nl : List Rec} (hk : μ[k]? = some (.lst (nl.map Rec.d))) (hn : nl.length ≤ 9) (hG : Goods nl) :
    wp (f__law_sorted [.cell k] μ) fun d μ' => d = .cell μ.length ∧ ∃ out : List Rec, μ' = μ ++ [.lst (out.map Rec.d)] ∧ out.Perm nl ∧ out.Pairwise fun a b => leR a b = true := by
  refine wp_nr ?_
  rw [wp_run]
  unfold b__law_sorted mLst
  walk_at "nwp"
  rw [if_pos (Nat.zero_le _)]
  unfold allocR
  walk_at "nwp"
  have hk2 : ∀ x, (μ ++ [x])[k]? = some (.lst (nl.map Rec.d)) := fun x => get_app hk
  refine wps_for2 (s := srcL k nl.length) (μ1 := μ ++ [.lst []]) (nl.map Rec.d) (fun i δ μ2 => ∃ x2 x3 out, δ = [some (.cell k), some (.cell μ.length), x2, x3] ∧ μ2 = μ ++ [.lst (List.map Rec.d out)] ∧ List.Perm out (nl.take i) ∧ List.Pairwise (fun a b => leR a b = true) out) ?_ (by rw [List.length_map]; rfl) ?_ ?_
    ⟨none, none, [], rfl, rfl, by rw [List.take_zero], List.Pairwise.nil⟩ ?_ ?_
  · unfold miList
    walk_at "nwp"
    show (match celL (μ ++ [Cell.lst []]) (.cell k) with | some ds => Res.ok (srcL k ds.length) (μ ++ [Cell.lst []]) | none => Res.stuck) = _
    simp only [celL, hk2, List.length_map]
  · rintro i δ μ2 ⟨_, _, out, rfl, rfl, _, _⟩
    show (celL (μ ++ [.lst (out.map Rec.d)]) (.cell k)).bind (·[i]?) = _
    simp only [celL, hk2]
    rfl
  · rintro i δ μ2 ⟨_, _, out, rfl, rfl, _, _⟩
    show (match celL (μ ++ [.lst (out.map Rec.d)]) (.cell k) with | some ds => decide (ds.length ≤ nl.length) | none => false) = true
    simp only [celL, hk2, List.length_map]
    exact decide_eq_true (Nat.le_refl _)
  · rintro i d δ μ2 hd ⟨_, _, out, rfl, rfl, hp, hs⟩
    rw [List.getElem?_map] at hd
    have hi : i < nl.length := by
      rcases Nat.lt_or_ge i nl.length with h | h
      · exact h
      · rw [List.getElem?_eq_none h] at hd; cases hd
    rw [List.getElem?_eq_getElem hi] at hd
    cases hd
    refine ⟨_, rfl, ?_⟩
    have hol : out.length = i := by
      rw [hp.length_eq, List.length_take]
      omega
    have hc : ∀ zs : List Dat, (μ ++ [Cell.lst zs])[μ.length]? = some (.lst zs) := fun zs => getElem?_mid
    have hlen : fLenQ [.cell μ.length] (μ ++ [.lst (out.map Rec.d)]) = .ok (.int (out.length : Int)) (μ ++ [.lst (out.map Rec.d)]) := by
      simp only [fLenQ, seqD, lstAt, hc]
      rw [List.length_map]
    walk_at "nwp"
    rw [hlen]
    walk_at "nwp"
    refine wps_while (N := 9) (n := out.length) (fun n δ μ2 => ∃ z : Int, z = (n : Int) ∧ δ = [some (.cell k), some (.cell μ.length), some (Rec.d nl[i]), some (.int z)] ∧ μ2 = μ ++ [.lst (out.map Rec.d)] ∧ n ≤ out.length ∧ ∀ j (hj : j < out.length), n ≤ j → ltR nl[i] out[j] = true) (by omega) ⟨_, rfl, rfl, rfl, Nat.le_refl _, fun j hj h => by omega⟩ ?_
    rintro n δ μ2 ⟨z, hz, rfl, rfl, hn2, hb⟩
    walk_at "nwp"
    have finish : (∀ hp : 0 < n, ∀ h : n - 1 < out.length, ltR nl[i] out[n - 1] = false) → wps ((msDrop (mBM fInsert (mVar 1) (maCons (mVar 3) (maCons (mVar 2) maNil)))) [some (.cell k), some (.cell μ.length), some (Rec.d nl[i]), some (.int z)] (μ ++ [.lst (out.map Rec.d)]))
        { nx := fun δ μ2 => ∃ x2 x3 out, δ = [some (.cell k), some (.cell μ.length), x2, x3] ∧ μ2 = μ ++ [.lst (List.map Rec.d out)] ∧ List.Perm out (nl.take (i + 1)) ∧ List.Pairwise (fun a b => leR a b = true) out, rt := fun d μ' => d = .cell μ.length ∧ ∃ out : List Rec, μ' = μ ++ [.lst (out.map Rec.d)] ∧ out.Perm nl ∧ out.Pairwise fun a b => leR a b = true } := by
      intro h2
      unfold mBM
      walk_at "nwp"
      rw [show lstAt (μ ++ [.lst (out.map Rec.d)]) (.cell μ.length) = some (out.map Rec.d) from by simp only [lstAt, hc], if_pos (show (some (out.map Rec.d)).isSome = true from rfl)]
      walk_at "nwp"
      have e : fInsert (.cell μ.length) [.int z, Rec.d nl[i]] (μ ++ [.lst (out.map Rec.d)]) = .ok .non (μ ++ [.lst ((out.take n ++ [nl[i]] ++ out.drop n).map Rec.d)]) := by
        simp only [fInsert, hc]
        rw [if_pos (by rw [sl16, List.length_map]; omega), show z.toNat = n by omega, set_mid, List.map_append, List.map_append, List.map_take, List.map_drop]
        rfl
      rw [e]
      refine ⟨_, _, out.take n ++ [nl[i]] ++ out.drop n, rfl, rfl, ?_, ins_sorted hs hn2 hb h2⟩
      have e2 : nl.take (i + 1) = nl.take i ++ [nl[i]] := by
        rw [List.take_add_one, List.getElem?_eq_getElem hi]
        rfl
      rw [e2]
      exact (ins_perm n).trans ((hp.cons _).trans (List.perm_append_singleton _ _).symm)
    by_cases h0 : 0 < z
    · rw [decide_eq_true h0]
      walk_at "nwp"
      have hj : n - 1 < out.length := by omega
      rw [recs_at (hc _) hj (z := z - 1) (by omega)]
      walk_at "nwp"
      refine wp_imp (ahead_spec (hG _ (List.getElem_mem hi)) (hG _ (List.mem_of_mem_take (hp.mem_iff.mp (List.getElem_mem hj)))) _) ?_
      rintro d μ' ⟨rfl, rfl⟩
      cases hx : ltR nl[i] out[n - 1] with
      | true =>
        walk_at "nwp"
        refine ⟨n - 1, by omega, z - 1, by omega, rfl, by omega, fun j hj2 hle => ?_⟩
        by_cases e : j = n - 1
        · subst e
          exact hx
        · exact hb j hj2 (by omega)
      | false =>
        walk_at "nwp"
        have := finish (fun _ _ => hx)
        unfold msDrop at this
        rw [wps_toS] at this
        exact this
    · rw [decide_eq_false h0]
      walk_at "nwp"
      have := finish (fun h _ => by omega)
      unfold msDrop at this
      rw [wps_toS] at this
      exact this
  · rintro δ μ2 ⟨_, _, out, rfl, rfl, hp, hs⟩
    walk_at "nwp"
    rw [List.length_map, List.take_length] at hp
    exact ⟨out, rfl, hp, hs⟩
/-! ### comprehensions over a list that stands in the store -/
theorem lcLoop_st {s : Src} {mg : MG} {mt : M Bool} {me : M Dat} {δ0 : Env} {μ : Store} {items : List Dat} {p : Dat → Bool} {f : Dat → Dat} (hn : s.n = items.length) (hget : ∀ i acc g, s.get i (μ ++ (.lst acc :: g)) = items[i]?) (hfin : ∀ acc g, s.fin (μ ++ (.lst acc :: g)) = true) (hlen : items.length < sizeLine)
    (step : ∀ (i : Nat) (d : Dat) (g : Store) (acc : List Dat), items[i]? = some d → ∃ δ1, mg d δ0 = some δ1 ∧ wp (mt δ1 (μ ++ (.lst acc :: g))) fun b μ3 => b = p d ∧ ∃ g1, μ3 = μ ++ (.lst acc :: g1) ∧
      (b = true → wp (me δ1 μ3) fun y μ4 => y = f d ∧ ∃ g2, μ4 = μ ++ (.lst acc :: g2))) :
    ∀ (r i : Nat) (acc : List Dat) (g : Store), i + r = items.length → acc.length ≤ i → ∃ g', lcLoop s mg mt me δ0 μ.length r i (μ ++ (.lst acc :: g)) = .ok () (μ ++ (.lst (acc ++ ((items.drop i).filter p).map f) :: g')) := by
  intro r
  induction r with
  | zero =>
    intro i acc g hi ha
    refine ⟨g, ?_⟩
    unfold lcLoop
    rw [if_pos (hfin _ _), List.drop_eq_nil_of_le (by omega), List.filter_nil, List.map_nil, List.append_nil]
  | succ r ih =>
    intro i acc g hi ha
    have hlt : i < items.length := by omega
    obtain ⟨δ1, h1, h2⟩ := step i items[i] g acc (List.getElem?_eq_getElem hlt)
    unfold lcLoop
    rw [hget, List.getElem?_eq_getElem hlt, Option.bind_some, h1]
    dsimp only
    have hd : items.drop i = items[i] :: items.drop (i + 1) := List.drop_eq_getElem_cons hlt
    cases hm : mt δ1 (μ ++ (.lst acc :: g)) with
    | ok b μ3 =>
      rw [hm] at h2
      obtain ⟨rfl, g1, rfl, h3⟩ := h2
      show ∃ g', (if p items[i] = true then _ else _) = _
      rw [hd, List.filter_cons]
      by_cases hp : p items[i] = true
      · rw [if_pos hp, if_pos hp]
        have h4 := h3 hp
        cases hme : me δ1 (μ ++ (.lst acc :: g1)) with
        | ok y μ4 =>
          rw [hme] at h4
          obtain ⟨rfl, g2, rfl⟩ := h4
          dsimp only [nrR, Res.bind]
          rw [getElem?_mid]
          dsimp only
          rw [if_pos (by omega), set_mid, List.map_cons]
          obtain ⟨g', e⟩ := ih (i + 1) (acc ++ [f items[i]]) g2 (by omega) (by simp; omega)
          exact ⟨g', by rw [e]; simp⟩
        | raise n μ4 => rw [hme] at h4; exact h4.elim
        | stuck => rw [hme] at h4; exact h4.elim
      · rw [if_neg hp, if_neg hp]
        exact ih (i + 1) acc g1 (by omega) (by omega)
    | raise n μ3 => rw [hm] at h2; exact h2.elim
    | stuck => rw [hm] at h2; exact h2.elim
/-- over the list at k -/
theorem wp_lc_cell {a : M Dat} {mg : MG} {mt : M Bool} {me : M Dat} {vs : List Nat} {δ : Env} {μ : Store} {Q : Dat → Store → Prop} {R : Nat → Store → Prop} {k : Nat} (items : List Dat) (p : Dat → Bool) (f : Dat → Dat) (ha : a δ μ = .ok (.cell k) μ) (hk : μ[k]? = some (.lst items)) (hlen : items.length < sizeLine)
    (step : ∀ (i : Nat) (d : Dat) (g : Store) (acc : List Dat), items[i]? = some d → ∃ δ1, mg d (wipeD δ vs) = some δ1 ∧ wp (mt δ1 (μ ++ (.lst acc :: g))) fun b μ3 => b = p d ∧ ∃ g1, μ3 = μ ++ (.lst acc :: g1) ∧
      (b = true → wp (me δ1 μ3) fun y μ4 => y = f d ∧ ∃ g2, μ4 = μ ++ (.lst acc :: g2)))
    (h : ∀ g, Q (.cell μ.length) (μ ++ (.lst ((items.filter p).map f) :: g))) : wp (mLc (miList a) mg mt me vs δ μ) Q R := by
  have hs : miList a δ μ = .ok (srcL k items.length) μ := by
    unfold miList
    rw [ha]
    show (match celL μ (.cell k) with | some ds => Res.ok (srcL k ds.length) μ | none => Res.stuck) = _
    simp only [celL, hk]
  unfold mLc
  rw [hs]
  obtain ⟨g', e⟩ := lcLoop_st (s := srcL k items.length) (items := items) (p := p) (f := f) rfl (fun i acc g => by
    show (celL (μ ++ (.lst acc :: g)) (.cell k)).bind (·[i]?) = _
    simp only [celL, get_app hk]
    rfl) (fun acc g => by
    show (match celL (μ ++ (.lst acc :: g)) (.cell k) with | some ds => decide (ds.length ≤ items.length) | none => false) = true
    simp only [celL, get_app hk]
    exact decide_eq_true (Nat.le_refl _)) hlen step items.length 0 [] [] (by omega) (Nat.zero_le _)
  show wp ((lcLoop (srcL k items.length) mg mt me (wipeD δ vs) μ.length items.length 0 (μ ++ [.lst []])).bind _) Q R
  rw [e]
  exact h g'
/-! ### the program's sorting -/
theorem name_rank_is (ss : List Str) (μ : Store) : f_name_rank [tupN ss] μ = .ok (tupN ss.reverse) μ := by
  have e : runB 1 b_name_rank [tupN ss] μ = .ok (.tup (ss.map Dat.str).reverse) μ := by rfl
  unfold f_name_rank nr
  rw [e]
  unfold tupN
  rw [List.map_reverse]
theorem fIn_two {s : Str} {μ : Store} {ss : List Str} : fIn false (.str s) (.tup (ss.map .str)) μ = .ok (.bl (decide (s ∈ ss))) μ := by
  simp only [fIn, toV, seqD, Option.bind_some, toVs_strs, inV_strs, Bool.false_eq_true, if_false]
theorem data_rank_is {k : Str} {x : Dt} (h : x.fits k) (μ : Store) : f_data_rank [.str k, x.d] μ = .ok x.rk μ := by
  refine eq_of_wp (wp_nr ?_)
  rw [wp_run]
  unfold b_data_rank
  rw [wps_seq]
  walk_at "nwp"
  rw [if_pos (show 2 ≤ sizeLine by rw [sl16]; omega)]
  walk_at "nwp"
  rw [show fIn false (.str k) (.tup [.str "keeper", .str "other"]) μ = .ok (.bl (decide (k ∈ [("keeper" : Str), "other"]))) μ from fIn_two (ss := ["keeper", "other"])]
  walk_at "nwp"
  by_cases h1 : k ∈ [("keeper" : Str), "other"]
  · rw [decide_eq_true h1]
    walk_at "nwp"
    have h2 : x.sh = 2 := by
      rw [h.sh]
      rcases (show k = "keeper" ∨ k = "other" by simpa using h1) with rfl | rfl <;> decide +kernel
    cases x <;> first | cases h2 | skip
    rw [show ∀ ss, (Dt.nam ss).d = tupN ss from fun _ => rfl, name_rank_is]
    exact ⟨rfl, rfl⟩
  · rw [decide_eq_false h1]
    walk_at "nwp"
    by_cases h2 : k = "gap"
    · rw [decide_eq_true h2]
      walk_at "nwp"
      have h3 : x.sh = 5 := by
        rw [h.sh, h2]
        decide +kernel
      cases x <;> first | cases h3 | skip
      rename_i n ks
      rw [show ∀ a b c d, mgTup [2, 3] (Dt.gap n ks).d [a, b, c, d] = some [a, b, some (tupN n), some (tupN ks)] from fun _ _ _ _ => rfl]
      walk_at "nwp"
      rw [name_rank_is]
      walk_at "nwp"
      rw [if_pos (show 2 ≤ sizeLine by rw [sl16]; omega)]
      exact ⟨rfl, rfl⟩
    · rw [decide_eq_false h2]
      walk_at "nwp"
      have : x.rk = x.d := by
        cases x with
        | nam ss => exact (h1 (by simpa using h.1)).elim
        | gap n ks => exact (h2 h.1).elim
        | _ => rfl
      rw [this]
      first | exact ⟨rfl, rfl⟩ | exact ⟨rfl, trivial⟩ | trivial
theorem rank_is {r : Rec} (h : r.Good) (μ : Store) : nr (runB 5 b_record_rank) [r.d] μ = .ok r.rk μ := by
  refine eq_of_wp (wp_nr ?_)
  rw [wp_run]
  unfold b_record_rank
  walk_at "nwp"
  rw [show ∀ a b c d e, mgTup [1, 2, 3, 4] r.d [a, b, c, d, e] = some [a, some (tupN r.n), some (.str r.k), some (.int r.l), some r.x.d] from fun _ _ _ _ _ => rfl]
  walk_at "nwp"
  rw [name_rank_is]
  walk_at "nwp"
  rw [data_rank_is h.hx]
  walk_at "nwp"
  rw [if_pos (show 4 ≤ sizeLine by rw [sl16]; omega)]
  exact ⟨rfl, rfl⟩
theorem keys_are (μ : Store) : ∀ {rl : List Rec}, Goods rl → mKeys (runB 5 b_record_rank) (rl.map Rec.d) μ = .ok (rl.map Rec.rk) μ
  | [], _ => rfl
  | r :: t, h => by
    rw [List.map_cons]
    unfold mKeys
    rw [rank_is (h r List.mem_cons_self)]
    dsimp only [Res.bind]
    rw [keys_are μ fun a ha => h a (List.mem_cons_of_mem _ ha)]
    rfl
theorem py_keys (μ : Store) : ∀ rl : List Rec, pyAll (py μ 12) (rl.map Rec.rk) = some (rl.map Rec.key)
  | [] => rfl
  | r :: t => by
    rw [List.map_cons, pyAll, py_rrk μ 8, py_keys μ t]
    rfl
theorem keys_ok {rl : List Rec} (h : Goods rl) : keysStep (rl.map Rec.key) = true := by
  unfold keysStep
  rw [Bool.and_eq_true, List.all_eq_true, List.all_eq_true]
  refine ⟨fun d hd => List.all_eq_true.mpr fun e he => ?_, fun d hd => ?_⟩
  · obtain ⟨a, ha, rfl⟩ := List.mem_map.mp hd
    obtain ⟨b, hb, rfl⟩ := List.mem_map.mp he
    exact step_ok (h a ha) (h b hb)
  · obtain ⟨a, _, rfl⟩ := List.mem_map.mp hd
    refine decide_eq_true ?_
    have := depth_rkey a
    omega
theorem sortedBy_recs (rl : List Rec) : sortedBy (rl.map Rec.key) (rl.map Rec.d) = (rl.mergeSort leR).map Rec.d := by
  rw [← sortedBy_map]
  congr 1
  unfold sortedBy
  have e : (rl.map Rec.key).zip rl = rl.map fun x => (x.key, x) := by
    induction rl with
    | nil => rfl
    | cons x r ih => rw [List.map_cons, List.map_cons, List.zip_cons_cons, ih]
  have m : (rl.mergeSort leR).map (fun x => (x.key, x)) = (rl.map fun x => (x.key, x)).mergeSort (PySem.W.dataLe false Prod.fst) := List.map_mergeSort (fun a _ b _ => by
    rw [PySem.W.dataLe_eq]
    rfl)
  rw [e, ← m, List.map_map]
  exact List.map_id _
theorem sort_is {μ : Store} {k : Nat} {rl : List Rec} (hk : μ[k]? = some (.lst (rl.map Rec.d))) (h : Goods rl) : fSortKey (runB 5 b_record_rank) [.cell k] μ = .ok (.cell μ.length) (μ ++ [.lst ((rl.mergeSort leR).map Rec.d)]) := by
  unfold fSortKey
  dsimp only
  rw [show lstAt μ (.cell k) = some (rl.map Rec.d) from by simp only [lstAt, hk]]
  dsimp only
  rw [keys_are μ h]
  dsimp only [Res.bind]
  rw [py_keys]
  dsimp only
  rw [if_pos (by rw [keys_ok h, Bool.or_true]), sortedBy_recs]
  rfl
theorem are_spec {μ : Store} {k : Nat} {ds : List Dat} (hk : μ[k]? = some (.lst ds)) (hn : ds.length ≤ 1000) (hok : ∀ d ∈ ds, OkD μ d) : wp (f_are_records [.cell k] μ) fun d μ' => d = .bl (ds.all recB) ∧ ∃ g, μ' = μ ++ g := by
  refine wp_nr ?_
  rw [wp_run]
  unfold b_are_records mAnd
  walk_at "nwp"
  rw [isA_k (k := "list") (b := true) (by simp only [tyD, kindD, hk]; rfl) (by decide +kernel)]
  walk_at "nwp"
  refine wp_lc_cell (k := k) ds (fun _ => true) (fun d => .bl (recB d)) rfl hk (by rw [sl16]; omega) (fun i d g acc hd => ?_) fun g => ?_
  · refine ⟨_, rfl, rfl, g, rfl, fun _ => ?_⟩
    dsimp only [wipeD]
    walk_at "nwp"
    refine wp_imp (is_record_spec ((hok d (List.mem_of_getElem? hd)).app)) ?_
    rintro r μ' ⟨rfl, g2, rfl⟩
    exact ⟨rfl, g ++ g2, by simp⟩
  · rw [filter_yes, fAll_mid (bs := ds.map recB) (by rw [List.map_map]; rfl), List.all_map]
    exact ⟨rfl, _, rfl⟩
theorem ordered_good {μ : Store} {k : Nat} {rl : List Rec} (hk : μ[k]? = some (.lst (rl.map Rec.d))) (hn : rl.length ≤ 1000) (h : Goods rl) {R : Nat → Store → Prop} :
    wp (f_ordered [.cell k] μ) (fun d μ' => ∃ g, d = .cell (μ ++ g).length ∧ μ' = μ ++ g ++ [.lst ((rl.mergeSort leR).map Rec.d)]) R := by
  unfold f_ordered
  rw [wp_run]
  unfold b_ordered
  walk_at "nwp"
  refine wp_imp (are_spec hk (by rw [List.length_map]; exact hn) fun d hd => ?_) ?_
  · obtain ⟨r, hr, rfl⟩ := List.mem_map.mp hd
    exact (h r hr).okD μ
  rintro r μ' ⟨rfl, g, rfl⟩
  rw [show (rl.map Rec.d).all recB = true from by
    rw [List.all_eq_true]
    intro d hd
    obtain ⟨r, hr, rfl⟩ := List.mem_map.mp hd
    exact (h r hr).recB]
  walk_at "nwp"
  rw [sort_is (get_app hk) h]
  exact ⟨g, rfl, rfl⟩
theorem ordered_bad {μ : Store} {k : Nat} {ds : List Dat} (hk : μ[k]? = some (.lst ds)) (hn : ds.length ≤ 1000) (hok : ∀ d ∈ ds, OkD μ d) (hb : ds.all recB = false) :
    wp (f_ordered [.cell k] μ) (fun _ _ => False) fun n μ' => n = 2 ∧ ∃ g, μ' = μ ++ g := by
  unfold f_ordered
  rw [wp_run]
  unfold b_ordered
  walk_at "nwp"
  refine wp_imp (are_spec hk hn hok) ?_
  rintro r μ' ⟨rfl, g, rfl⟩
  rw [hb]
  walk_at "nwp"
  first | exact ⟨rfl, g, rfl⟩ | exact ⟨g, rfl⟩
theorem ordered_other {μ : Store} {d : Dat} {k : String} (h1 : tyD μ d = some (.inl k)) (h2 : kitB k "list" = some false) : wp (f_ordered [d] μ) (fun _ _ => False) fun n μ' => n = 2 ∧ ∃ g, μ' = μ ++ g := by
  unfold f_ordered
  rw [wp_run]
  unfold b_ordered
  walk_at "nwp"
  refine wp_imp (Q := fun r μ' => r = .bl false ∧ ∃ g, μ' = μ ++ g) (wp_nr ?_) ?_
  · rw [wp_run]
    unfold b_are_records mAnd
    walk_at "nwp"
    rw [isA_k h1 h2]
    walk_at "nwp"
    first | exact ⟨rfl, [], by simp⟩ | exact ⟨[], by simp⟩
  · rintro r μ' ⟨rfl, g, rfl⟩
    walk_at "nwp"
    first | exact ⟨rfl, g, rfl⟩ | exact ⟨g, rfl⟩
theorem word_spec {μ : Store} {x : Dat} (h : wp (f_ordered [x] μ) (fun _ _ => False) fun n μ' => n = 2 ∧ ∃ g, μ' = μ ++ g) : wp (f__law_word [x] μ) fun d μ' => d = .bl true ∧ ∃ g, μ' = μ ++ g := by
  refine wp_nr ?_
  rw [wp_run]
  unfold b__law_word
  walk_at "nwp"
  refine wps_try ?_
  walk_at "nwp"
  refine wp_mono h (fun _ _ z => z.elim) ?_
  rintro n μ' ⟨rfl, g, hμ'⟩
  have hx : ∃ g, μ' ++ [Cell.exc 2] = μ ++ g := ⟨g ++ [.exc 2], by rw [hμ', List.append_assoc]⟩
  clear hμ'
  refine ⟨rfl, by simp, ?_⟩
  have hk : (μ' ++ [Cell.exc 2])[μ'.length]? = some (.exc 2) := getElem?_mid
  have ht : tyD (μ' ++ [Cell.exc 2]) (.cell μ'.length) = some (.inr 2) := by simp only [tyD, hk]
  unfold mAnd mOr mNot
  walk_at "nwp"
  rw [if_pos (show 4 ≤ sizeLine by rw [sl16]; omega)]
  walk_at "nwp"
  rw [show fIsA tab [.cell μ'.length, .tup [.cls 6, .cls 3, .cls 8, .cls 1]] (μ' ++ [Cell.exc 2]) = .ok (.bl false) (μ' ++ [Cell.exc 2]) from by simp only [fIsA, ht]; rfl]
  walk_at "nwp"
  rw [if_pos (show 3 ≤ sizeLine by rw [sl16]; omega)]
  walk_at "nwp"
  rw [show fIsA tab [.cell μ'.length, .tup [.cls 5, .cls 7, .cls 4]] (μ' ++ [Cell.exc 2]) = .ok (.bl false) (μ' ++ [Cell.exc 2]) from by simp only [fIsA, ht]; rfl]
  walk_at "nwp"
  rw [show fIsA tab [.cell μ'.length, .cls 2] (μ' ++ [Cell.exc 2]) = .ok (.bl true) (μ' ++ [Cell.exc 2]) from by simp only [fIsA, ht]; rfl]
  walk_at "nwp"
  rw [show fIsA tab [.cell μ'.length, .ty "ValueError"] (μ' ++ [Cell.exc 2]) = .ok (.bl true) (μ' ++ [Cell.exc 2]) from by simp only [fIsA, ht]; rfl]
  walk_at "nwp"
  first | exact ⟨rfl, hx⟩ | exact hx
end Nh

namespace Nh
open PySem PySem.Spec PyProof.Rows L2
local macro_rules | `(tactic| walk_at "nwp") => `(tactic| try simp only [wp_bind, wp_ok, wp_nrR, wps_toS, wps_nx, wps_rt, wps_seq, wp_run, wps_if, wp_if, wp_tAnd, wp_tOr, wp_tNot, startD, List.map_cons, List.map_nil, List.length_cons, List.length_nil, Nat.reduceAdd, Nat.reduceSub, List.replicate_succ, List.replicate_zero, List.cons_append, List.nil_append, List.getElem?_cons_zero, List.getElem?_cons_succ, List.set_cons_zero, List.set_cons_succ,
  asB, mVar, mC, mOp, mCB, maCons, maNil, mCall, msRet, msAsg, mgName, msDrop, msNext, msRaise, mTup, mChain, mUn, if_true, if_false, Bool.not_true, Bool.not_false, Bool.false_eq_true, reduceIte, Nat.reduceEqDiff, Nat.reduceLeDiff,
  eq_self_iff_true, true_and, isA_str, inSign_star, inSign_one, notInSign_one, fEq_str, fEq_int, fLe_int, fLt_int, fGt_int, fAdd_int, fSub_int, fNeg_int])
/-! ### draws -/
theorem great_spec {ns : List Int} {k : Nat} {r : Store} {m : Int} (hk : k ≤ 90000) (hm : 1 ≤ m ∧ m ≤ 18446744073709551616) :
    wp (f__law_great [.cell 0, .int m] (D ns k :: r)) fun d μ' => ∃ (i : Int) (g : Store), d = .int i ∧ (0 ≤ i ∧ i ≤ m) ∧ μ' = D ns (k + 3) :: (r ++ g) := by
  refine wp_nr ?_
  rw [wp_run]
  unfold b__law_great
  walk_at "nwp"
  refine wp_imp (next_spec (by omega) _) ?_
  rintro d μ' ⟨n, rfl, n0, n1, rfl⟩
  walk_at "nwp"
  rw [fMul_int (.inr (by omega))]
  walk_at "nwp"
  refine wp_imp (next_spec (by omega) _) ?_
  rintro d μ' ⟨n2, rfl, _, _, rfl⟩
  walk_at "nwp"
  rw [fMul_int (.inr (by omega))]
  walk_at "nwp"
  refine wp_imp (next_spec (by omega) _) ?_
  rintro d μ' ⟨n3, rfl, _, _, rfl⟩
  walk_at "nwp"
  generalize (n * 268435399 + n2) * 268435399 + n3 = w
  unfold mLst
  walk_at "nwp"
  rw [fMod_int (by omega)]
  walk_at "nwp"
  rw [fMod_int (by omega)]
  walk_at "nwp"
  rw [fMod_int (by omega)]
  walk_at "nwp"
  rw [fMod_int (by omega)]
  walk_at "nwp"
  rw [if_pos (show 7 ≤ sizeLine by rw [sl16]; omega)]
  unfold allocR
  walk_at "nwp"
  rw [fMod_int (by omega)]
  walk_at "nwp"
  obtain ⟨d, e, hd⟩ := fIxL_r (ns := ns) (k := k + 1 + 1 + 1) (r := r) (g := [.lst [.int 0, .int 1, .int m, .int (m - 1), .int (w % (m + 1)), .int (w % (m + 1)), .int (n % 300 % (m + 1))]]) (j := 0) (i := n % 7) rfl (by omega) (by simp; omega)
  rw [e]
  have b1 := Int.emod_nonneg w (show m + 1 ≠ 0 by omega)
  have b2 := Int.emod_lt_of_pos w (show 0 < m + 1 by omega)
  have b3 := Int.emod_nonneg (n % 300) (show m + 1 ≠ 0 by omega)
  have b4 := Int.emod_lt_of_pos (n % 300) (show 0 < m + 1 by omega)
  simp only [List.mem_cons, List.not_mem_nil, or_false] at hd
  rcases hd with rfl | rfl | rfl | rfl | rfl | rfl | rfl
  · exact ⟨_, _, rfl, by omega, rfl⟩
  · exact ⟨_, _, rfl, by omega, rfl⟩
  · exact ⟨_, _, rfl, by omega, rfl⟩
  · exact ⟨_, _, rfl, by omega, rfl⟩
  · exact ⟨_, _, rfl, by omega, rfl⟩
  · exact ⟨_, _, rfl, by omega, rfl⟩
  · exact ⟨_, _, rfl, by omega, rfl⟩
theorem no_star : ∀ {ss : List Str}, (∀ t ∈ ss, GL t) → (ss.map Dat.str).any isStarD = false
  | [], _ => rfl
  | s :: r, h => by
    rw [List.map_cons, List.any_cons, no_star fun t ht => h t (List.mem_cons_of_mem _ ht)]
    show (decide (s = "*") || false) = false
    rw [decide_eq_false (h s List.mem_cons_self).star]
    rfl
theorem star_ok : okS "*" := label_ok star_label
theorem plain_spec {ns : List Int} {k c : Nat} {r : Store} {ls : List Str} (hk : k ≤ 80000) (hc : r[c]? = some (.lst (ls.map .str))) (hl : ls.length = 5) (hG : ∀ l ∈ ls, GL l) :
    wp (f__law_plain [.cell 0, .cell (c + 1)] (D ns k :: r)) fun d μ' => ∃ (ss : List Str) (g : Store) (k' : Nat), d = tupN ss ∧ (isNameS ss = true ∧ (ss.map Dat.str).any isStarD = false) ∧ μ' = D ns k' :: (r ++ g) ∧ k' ≤ k + 8 := by
  refine wp_nr ?_
  rw [wp_run]
  unfold b__law_plain
  walk_at "nwp"
  refine wp_imp (name_spec hk hc hl hG) ?_
  rintro d μ' ⟨ss, g, k', rfl, hn, rfl, hk'⟩
  walk_at "nwp"
  unfold mSl moPart moNone
  walk_at "nwp"
  rw [show ∀ μ, fSlT (.tup (ss.map .str)) none (some 1) μ = .ok (tupN (ss.take 1)) μ from fun μ => by
    show Res.ok (Dat.tup (cutD (ss.map Dat.str) none (some ((1 : Nat) : Int)))) μ = _
    rw [cutD_to]
    unfold tupN
    rw [List.map_take]]
  walk_at "nwp"
  rw [if_pos (show 1 ≤ sizeLine by rw [sl16]; omega)]
  walk_at "nwp"
  rw [show ∀ μ, fEqD (tupN (ss.take 1)) (.tup [.str "*"]) μ = .ok (.bl (decide (ss.take 1 = [("*" : Str)]))) μ from fun μ => eqD_names (ss.take 1) [("*" : Str)] μ (fun s hs => isNameS_ok hn.name s (List.mem_of_mem_take hs)) (fun s hs => by rw [List.mem_singleton.mp hs]; exact star_ok)]
  walk_at "nwp"
  by_cases h1 : ss.take 1 = [("*" : Str)]
  · rw [decide_eq_true h1]
    walk_at "nwp"
    rw [show ∀ μ, fSlT (.tup (ss.map .str)) (some 1) none μ = .ok (tupN (ss.drop 1)) μ from fun μ => by
      show Res.ok (Dat.tup (cutD (ss.map Dat.str) (some ((1 : Nat) : Int)) none)) μ = _
      rw [cutD_from]
      unfold tupN
      rw [List.map_drop]]
    exact ⟨ss.drop 1, g, k', rfl, ⟨(hn.drop 1).name, no_star hn.2.1⟩, rfl, hk'⟩
  · rw [decide_eq_false h1]
    walk_at "nwp"
    refine ⟨ss, g, k', rfl, ⟨hn.name, no_star fun t ht => ?_⟩, rfl, hk'⟩
    cases ss with
    | nil => cases ht
    | cons a q =>
      rcases List.mem_cons.mp ht with rfl | ht
      · rcases hn.2.2 t (by simp) with z | z
        · exact z
        · exact (h1 (by rw [z]; rfl)).elim
      · exact hn.2.1 t (by simpa using ht)
theorem PR_len : PR.cps.toList.length = 94 := by decide +kernel
def sgT (n : Int) (i : Int) : Nat := (atI PR.cps.toList ((n / 7 + 13 * i * i + 5 * i) % 94)).getD 0
theorem sgT_at (n i : Int) (μ : Store) : fIxS (.str PR) (.int ((n / 7 + 13 * i * i + 5 * i) % 94)) μ = .ok (.str ⟨#[sgT n i]⟩) μ ∧ sgT n i ∈ PR.cps.toList := by
  have h0 := Int.emod_nonneg (n / 7 + 13 * i * i + 5 * i) (show (94 : Int) ≠ 0 by omega)
  have h1 := Int.emod_lt_of_pos (n / 7 + 13 * i * i + 5 * i) (show (0 : Int) < 94 by omega)
  obtain ⟨q, e, hq⟩ := atI_some (l := PR.cps.toList) h0 (by rw [PR_len]; exact h1)
  unfold sgT
  rw [e]
  refine ⟨?_, hq⟩
  unfold fIxS
  dsimp only
  rw [if_pos (by rw [sl16]; decide +kernel), e]
  rfl
theorem text_spec {n z : Int} {m : Nat} (hz : z = m) (hm : m ≤ 30) (hn : 0 ≤ n ∧ n < 268435456) (μ : Store) : wp (f__law_text [.int n, .int z] μ) fun d μ' => (∃ l : Str, d = .str l ∧ l.length ≤ 30 ∧ prS l) ∧ ∃ g, μ' = μ ++ g := by
  refine wp_nr ?_
  rw [wp_run]
  unfold b__law_text
  walk_at "nwp"
  rw [show ∀ μ, fLen [.str " !\"#$&'()*+,-./0123456789:;<=>?\x40[\\]^_`{|}~ABCDEFGHIJKLMNOPQRSTUVWXYZabcdefghijklmnopqrstuvwxyz"] μ = .ok (.int 94) μ from fun μ => by
    have e := fLen_str (s := PR) (μ := μ) (by rw [sl16]; decide +kernel)
    rw [show PR.length = 94 from PR_len] at e
    exact e]
  walk_at "nwp"
  unfold mM1
  walk_at "nwp"
  rw [mLc_q (lo := 0) (n := m) (μ1 := μ) (by
    have e := range_src (j := z) (by omega) [some (.int n), some (.int z), some (.str PR), some (.int 94), none] μ
    rw [show z.toNat = m by omega] at e
    exact e)]
  refine wp_lc_map (s := srcQ 0 m) (rangeD 0 m) (fun _ => true) (fun d => match d with | .int i => .str ⟨#[sgT n i]⟩ | _ => .non) rfl (rangeD_len _ _).symm (fun _ _ => rfl) (fun _ => rfl) (by rw [sl16, rangeD_len]; omega) (fun i d g acc hd => ?_) fun g => ?_
  · obtain ⟨hi, rfl⟩ := rangeD_get hd
    refine ⟨_, rfl, rfl, g, rfl, fun _ => ?_⟩
    dsimp only [wipeD]
    walk_at "nwp"
    have hi' : (0 : Int) + (i : Nat) < 30 := by omega
    have hi0 : (0 : Int) ≤ 0 + (i : Nat) := by omega
    generalize (0 : Int) + (i : Nat) = j at hi' hi0 ⊢
    rw [fDiv_int (by omega)]
    walk_at "nwp"
    rw [fMul_int (.inl (by omega))]
    walk_at "nwp"
    rw [fMul_int (.inr (by omega))]
    walk_at "nwp"
    rw [fMul_int (.inl (by omega))]
    walk_at "nwp"
    rw [fMod_int (by omega)]
    walk_at "nwp"
    rw [show ∀ μ, fIxS (.str " !\"#$&'()*+,-./0123456789:;<=>?\x40[\\]^_`{|}~ABCDEFGHIJKLMNOPQRSTUVWXYZabcdefghijklmnopqrstuvwxyz") (.int ((n / 7 + 13 * j * j + 5 * j) % 94)) μ = .ok (.str ⟨#[sgT n j]⟩) μ from fun μ => (sgT_at n j μ).1]
    exact ⟨rfl, g, rfl⟩
  · have e1 : ((rangeD 0 m).filter fun _ => true).map (fun d => match d with | .int i => Dat.str ⟨#[sgT n i]⟩ | _ => .non) = (((List.range m).map fun i => sgT n (0 + (i : Nat))).map fun q => (⟨#[q]⟩ : Str)).map Dat.str := by
      rw [filter_yes]
      unfold rangeD
      rw [List.map_map, List.map_map, List.map_map]
      rfl
    rw [e1, fJoin_mid "" rfl (by
      have : ∀ qs : List Nat, ((qs.map fun q => (⟨#[q]⟩ : Str)).map (·.length)).sum = qs.length := by
        intro qs
        induction qs with
        | nil => rfl
        | cons q r ih =>
          rw [List.map_cons, List.map_cons, List.sum_cons, ih, List.length_cons]
          show 1 + r.length = r.length + 1
          omega
      rw [this, List.length_map, List.length_map, List.length_range]
      have : ("" : Str).length = 0 := rfl
      rw [this]
      omega)]
    have e2 : (Txt.join "" (((List.range m).map fun i => sgT n (0 + (i : Nat))).map fun q => (⟨#[q]⟩ : Str))).cps.toList = (List.range m).map fun i => sgT n (0 + (i : Nat)) := by
      rw [show ∀ ps, Txt.join "" ps = Str.join "" ps from fun ps => StrLaws.glued_eq_join _ _, join_toList, List.map_map]
      exact joinL_ones _
    refine ⟨⟨_, rfl, ?_, ?_⟩, _, rfl⟩
    · rw [← len_toList, e2, List.length_map, List.length_range]
      exact hm
    · unfold prS
      rw [e2]
      intro q hq
      obtain ⟨i, _, rfl⟩ := List.mem_map.mp hq
      exact (sgT_at n _ []).2
end Nh

namespace Nh
open PySem PySem.Spec PyProof.Rows L2
local macro_rules | `(tactic| walk_at "nwp") => `(tactic| try simp only [wp_bind, wp_ok, wp_nrR, wps_toS, wps_nx, wps_rt, wps_seq, wp_run, wps_if, wp_if, wp_tAnd, wp_tOr, wp_tNot, startD, List.map_cons, List.map_nil, List.length_cons, List.length_nil, Nat.reduceAdd, Nat.reduceSub, List.replicate_succ, List.replicate_zero, List.cons_append, List.nil_append, List.getElem?_cons_zero, List.getElem?_cons_succ, List.set_cons_zero, List.set_cons_succ,
  asB, mVar, mC, mOp, mCB, maCons, maNil, mCall, msRet, msAsg, mgName, msDrop, msNext, msRaise, mTup, mChain, mUn, if_true, if_false, Bool.not_true, Bool.not_false, Bool.false_eq_true, reduceIte, Nat.reduceEqDiff, Nat.reduceLeDiff,
  eq_self_iff_true, true_and, isA_str, inSign_star, inSign_one, notInSign_one, fEq_str, fEq_int, fLe_int, fLt_int, fGt_int, fAdd_int, fSub_int, fNeg_int])
/-! ### comprehensions that draw -/
theorem lcLoop_invF {s : Src} {mg : MG} {mt : M Bool} {me : M Dat} {δ0 : Env} {L : Nat} {items : List Dat} (hn : s.n = items.length) (hget : ∀ i μ', s.get i μ' = items[i]?) (hfin : ∀ μ', s.fin μ' = true) (hlen : items.length < sizeLine) (I : Nat → List Dat → Store → Prop)
    (step : ∀ (i : Nat) (d : Dat) (acc : List Dat) (μ : Store), items[i]? = some d → I i acc μ → acc.length ≤ i → ∃ δ1, mg d δ0 = some δ1 ∧ wp (mt δ1 μ) fun b μ3 => (b = false → I (i + 1) acc μ3) ∧ (b = true → wp (me δ1 μ3) fun y μ4 => μ4[L]? = some (.lst acc) ∧ I (i + 1) (acc ++ [y]) (μ4.set L (.lst (acc ++ [y]))))) :
    ∀ (r i : Nat) (acc : List Dat) (μ : Store), i + r = items.length → acc.length ≤ i → I i acc μ → ∃ acc' μ', lcLoop s mg mt me δ0 L r i μ = .ok () μ' ∧ acc'.length ≤ items.length ∧ I items.length acc' μ' := by
  intro r
  induction r with
  | zero =>
    intro i acc μ hi ha h
    refine ⟨acc, μ, ?_, by omega, by rw [show items.length = i by omega]; exact h⟩
    unfold lcLoop
    rw [if_pos (hfin _)]
  | succ r ih =>
    intro i acc μ hi ha h
    have hlt : i < items.length := by omega
    obtain ⟨δ1, h1, h2⟩ := step i items[i] acc μ (List.getElem?_eq_getElem hlt) h ha
    unfold lcLoop
    rw [hget, List.getElem?_eq_getElem hlt, Option.bind_some, h1]
    dsimp only
    cases hm : mt δ1 μ with
    | ok b μ3 =>
      rw [hm] at h2
      obtain ⟨hf, ht⟩ := h2
      show ∃ acc' μ', (if b = true then _ else _) = _ ∧ _
      cases b with
      | true =>
        rw [if_pos rfl]
        have h3 := ht rfl
        cases hme : me δ1 μ3 with
        | ok y μ4 =>
          rw [hme] at h3
          obtain ⟨h4, h5⟩ := h3
          dsimp only [nrR, Res.bind]
          rw [h4]
          dsimp only
          rw [if_pos (by omega)]
          exact ih (i + 1) (acc ++ [y]) _ (by omega) (by rw [List.length_append, List.length_singleton]; omega) h5
        | raise n μ4 => rw [hme] at h3; exact h3.elim
        | stuck => rw [hme] at h3; exact h3.elim
      | false =>
        rw [if_neg Bool.false_ne_true]
        exact ih (i + 1) acc μ3 (by omega) (by omega) (hf rfl)
    | raise n μ3 => rw [hm] at h2; exact h2.elim
    | stuck => rw [hm] at h2; exact h2.elim
theorem wp_lc_invF {src : M Src} {s : Src} {mg : MG} {mt : M Bool} {me : M Dat} {vs : List Nat} {δ : Env} {μ : Store} {Q : Dat → Store → Prop} {R : Nat → Store → Prop} (items : List Dat) (I : Nat → List Dat → Store → Prop) (hsrc : src δ μ = .ok s μ)
    (hn : s.n = items.length) (hget : ∀ i μ', s.get i μ' = items[i]?) (hfin : ∀ μ', s.fin μ' = true) (hlen : items.length < sizeLine) (h0 : I 0 [] (μ ++ [.lst []]))
    (step : ∀ (i : Nat) (d : Dat) (acc : List Dat) (μ2 : Store), items[i]? = some d → I i acc μ2 → acc.length ≤ i → ∃ δ1, mg d (wipeD δ vs) = some δ1 ∧ wp (mt δ1 μ2) fun b μ3 => (b = false → I (i + 1) acc μ3) ∧ (b = true → wp (me δ1 μ3) fun y μ4 => μ4[μ.length]? = some (.lst acc) ∧ I (i + 1) (acc ++ [y]) (μ4.set μ.length (.lst (acc ++ [y])))))
    (hd : ∀ acc μ2, acc.length ≤ items.length → I items.length acc μ2 → Q (.cell μ.length) μ2) : wp (mLc src mg mt me vs δ μ) Q R := by
  unfold mLc
  rw [hsrc]
  obtain ⟨acc, μ', e, hl, h⟩ := lcLoop_invF hn hget hfin hlen I step s.n 0 [] (μ ++ [.lst []]) (by omega) (Nat.le_refl _) h0
  show wp ((lcLoop s mg mt me (wipeD δ vs) μ.length s.n 0 (μ ++ [.lst []])).bind _) Q R
  rw [e]
  exact hd acc μ' hl h
section
variable {μ : Store} {P : Ps} {δ : Env}
theorem wps_kindv {i : Nat} {s z : Str} {a b : MS} (h : δ[i]? = some (some (.str s))) : wps (msIf (asB (mOp fEq (mVar i) (mC (.str z)))) a b δ μ) P ↔ (if s = z then wps (a δ μ) P else wps (b δ μ) P) := by
  rw [wps_if]
  unfold asB mOp mVar mC
  simp only [h, Res.bind, fEq_str, wp_ok, decide_eq_true_eq]
theorem wps_kindv2 {i : Nat} {s z y : Str} {a b : MS} (h : δ[i]? = some (some (.str s))) : wps (msIf (mtOr (asB (mOp fEq (mVar i) (mC (.str z)))) (asB (mOp fEq (mVar i) (mC (.str y))))) a b δ μ) P ↔ (if s = z ∨ s = y then wps (a δ μ) P else wps (b δ μ) P) := by
  rw [wps_if]
  unfold mtOr asB mOp mVar mC
  by_cases h1 : s = z
  · simp [h, Res.bind, fEq_str, wp_ok, h1, wp]
  · simp [h, Res.bind, fEq_str, wp_ok, h1, wp]
end
theorem rise_of {ss : List Str} (h1 : ss.Pairwise fun a b => leT a b = true) (h2 : ss.Nodup) : risingL (ss.map Dat.str) = true :=
  (rise_pair ss).mpr ((h1.and h2).imp fun {a b} z => by
    cases q : ltT a b with
    | true => rfl
    | false => exact (z.2 (ltT_tri q (decide_eq_false (leT_iff.mp z.1)))).elim)
theorem KS_nodup : KS.Nodup := by decide +kernel
theorem kinds_src (δ : Env) (μ : Store) : miTup (mCall 0 f__law_kinds maNil) δ μ = .ok (srcT (KS.map .str)) μ := by
  unfold miTup mCall
  simp only [maNil, Res.bind, List.length_nil, if_true, kinds_call]
def KS8 : List Str := KS.filter fun s => !decide (s = "seal")
theorem KS8_ok : ∀ s ∈ KS8, s ∈ KS ∧ s ≠ "seal" := fun s hs => by
  obtain ⟨h1, h2⟩ := List.mem_filter.mp hs
  exact ⟨h1, by simpa using h2⟩
theorem KS8_len : KS8.length = 8 := by decide +kernel
theorem data_spec {ns : List Int} {k c : Nat} {r : Store} {ls : List Str} {kd : Str} (hkd : kd ∈ KS) (hk : k ≤ 70000) (hc : r[c]? = some (.lst (ls.map .str))) (hl : ls.length = 5) (hG : ∀ l ∈ ls, GL l) :
    wp (f__law_data [.cell 0, .str kd, .cell (c + 1)] (D ns k :: r)) fun d μ' => ∃ (x : Dt) (g : Store) (k' : Nat), d = x.d ∧ x.fits kd ∧ μ' = D ns k' :: (r ++ g) ∧ k' ≤ k + 20 := by
  refine wp_nr ?_
  rw [wp_run]
  unfold b__law_data
  rw [wps_seq]
  walk_at "nwp"
  refine wp_imp (next_spec (by omega) _) ?_
  rintro d μ' ⟨n, rfl, n0, n1, rfl⟩
  walk_at "nwp"
  by_cases h1 : kd = "addr"
  · rw [decide_eq_true h1, if_pos rfl, pow_264]
    walk_at "nwp"
    refine wp_imp (great_spec (by omega) (by constructor <;> decide)) ?_
    rintro d μ' ⟨i, g, rfl, hi, rfl⟩
    exact ⟨.num i, g, k + 1 + 3, rfl, .inl ⟨h1, hi⟩, rfl, by omega⟩
  rw [decide_eq_false h1, if_neg Bool.false_ne_true]
  by_cases h2 : kd = "text"
  · rw [decide_eq_true h2, if_pos rfl]
    unfold mLst
    walk_at "nwp"
    rw [fDiv_int (by omega)]
    walk_at "nwp"
    rw [fMod_int (by omega)]
    walk_at "nwp"
    rw [if_pos (show 3 ≤ sizeLine by rw [sl16]; omega)]
    unfold allocR
    walk_at "nwp"
    rw [fMod_int (by omega)]
    walk_at "nwp"
    obtain ⟨d, e, hd⟩ := fIxL_r (ns := ns) (k := k + 1) (r := r) (g := [.lst [.int 0, .int 30, .int (n / 7 % 31)]]) (j := 0) (i := n % 3) rfl (by omega) (by simp; omega)
    rw [e]
    walk_at "nwp"
    obtain ⟨z, m, rfl, hz, hm⟩ : ∃ (z : Int) (m : Nat), d = .int z ∧ z = m ∧ m ≤ 30 := by
      simp only [List.mem_cons, List.not_mem_nil, or_false] at hd
      rcases hd with rfl | rfl | rfl
      · exact ⟨0, 0, rfl, rfl, by omega⟩
      · exact ⟨30, 30, rfl, rfl, by omega⟩
      · exact ⟨_, (n / 7 % 31).toNat, rfl, by omega, by omega⟩
    refine wp_imp (text_spec hz hm ⟨n0, n1⟩ _) ?_
    rintro d μ' ⟨⟨l, rfl, hl1, hl2⟩, g, rfl⟩
    exact ⟨.txt l, _, k + 1, rfl, ⟨h2, hl1, hl2⟩, by rw [List.cons_append, List.append_assoc], by omega⟩
  rw [decide_eq_false h2, if_neg Bool.false_ne_true]
  have plain : ∀ (h : kd = "keeper" ∨ kd = "other"), wp (f__law_plain [.cell 0, .cell (c + 1)] (D ns (k + 1) :: r)) fun d μ' => ∃ (x : Dt) (g : Store) (k' : Nat), d = x.d ∧ x.fits kd ∧ μ' = D ns k' :: (r ++ g) ∧ k' ≤ k + 20 := fun h => by
    refine wp_imp (plain_spec (by omega) hc hl hG) ?_
    rintro d μ' ⟨ss, g, k', rfl, hs, rfl, hk'⟩
    exact ⟨.nam ss, g, k', rfl, ⟨h, hs⟩, rfl, by omega⟩
  by_cases h3 : kd = "keeper"
  · rw [decide_eq_true h3, if_pos rfl]
    exact plain (.inl h3)
  rw [decide_eq_false h3, if_neg Bool.false_ne_true]
  by_cases h4 : kd = "other"
  · rw [decide_eq_true h4, if_pos rfl]
    exact plain (.inr h4)
  rw [decide_eq_false h4, if_neg Bool.false_ne_true]
  by_cases h5 : kd = "top"
  · rw [decide_eq_true h5, if_pos rfl, pow_232]
    walk_at "nwp"
    rw [show (4294967296 : Int) - 1 = 4294967295 from rfl]
    refine wp_imp (great_spec (by omega) (by constructor <;> decide)) ?_
    rintro d μ' ⟨i, g, rfl, hi, rfl⟩
    rw [pow_106]
    walk_at "nwp"
    refine wp_imp (great_spec (by omega) (by constructor <;> decide)) ?_
    rintro d μ' ⟨i2, g2, rfl, hi2, rfl⟩
    rw [if_pos (show 2 ≤ sizeLine by rw [sl16]; omega)]
    exact ⟨.top i i2, g ++ g2, _, rfl, ⟨h5, hi, hi2⟩, by rw [List.append_assoc], by omega⟩
  rw [decide_eq_false h5, if_neg Bool.false_ne_true]
  by_cases h6 : kd = "seal"
  · rw [decide_eq_true h6, if_pos rfl]
    refine wp_lc_map (s := srcT (KS.map .str)) (KS.map .str) (fun d => match d with | .str s => !decide (s = "seal") | _ => false) (fun d => d) (kinds_src _ _) rfl (fun _ _ => rfl) (fun _ => rfl) (by rw [sl16]; decide) (fun i d g acc hd => ?_) fun g => ?_
    · rw [List.getElem?_map] at hd
      cases hq : KS[i]? with
      | none => rw [hq] at hd; cases hd
      | some s =>
        rw [hq] at hd
        cases hd
        refine ⟨_, rfl, ?_⟩
        dsimp only [wipeD]
        walk_at "nwp"
        rw [fNe_s]
        walk_at "nwp"
        first | exact ⟨rfl, g, rfl, fun _ => ⟨rfl, g, rfl⟩⟩ | exact ⟨g, rfl, fun _ => ⟨g, rfl⟩⟩ | exact ⟨g, rfl, fun _ => ⟨trivial, g, rfl⟩⟩ | exact ⟨g, rfl, fun _ => ⟨rfl, g, rfl⟩⟩
    · rw [show (List.filter (fun d => match d with | .str s => !decide (s = "seal") | _ => false) (KS.map Dat.str)).map (fun d => d) = KS8.map .str from by
        rw [List.map_id', List.filter_map]
        rfl]
      rw [fMod_int (by omega)]
      walk_at "nwp"
      obtain ⟨d, e, hd⟩ := fIxL_at (μ := (D ns (k + 1) :: r) ++ (Cell.lst (KS8.map .str) :: g)) (i := n % 8) getElem?_mid (by omega) (by rw [List.length_map, KS8_len]; omega)
      obtain ⟨o, ho, rfl⟩ := strs_at hd
      have e' : fIxL (.cell (r.length + 1)) (.int (n % 8)) (D ns (k + 1) :: (r ++ (Cell.lst (KS8.map .str) :: g))) = .ok (.str o) (D ns (k + 1) :: (r ++ (Cell.lst (KS8.map .str) :: g))) := e
      rw [e']
      walk_at "nwp"
      rw [pow_1012]
      walk_at "nwp"
      rw [show (1000000000000 : Int) - 1 = 999999999999 from rfl]
      refine wp_imp (great_spec (r := r ++ (Cell.lst (KS8.map .str) :: g)) (by omega) (by constructor <;> decide)) ?_
      rintro d μ' ⟨i, g1, rfl, hi, rfl⟩
      walk_at "nwp"
      refine wp_imp (great_spec (by omega) (by constructor <;> decide)) ?_
      rintro d μ' ⟨i2, g2, rfl, hi2, rfl⟩
      rw [if_pos (show 3 ≤ sizeLine by rw [sl16]; omega)]
      exact ⟨.sea o (1 + i) i2, (Cell.lst (KS8.map .str) :: g) ++ (g1 ++ g2), k + 1 + 3 + 3, rfl, ⟨h6, KS8_ok o ho, by omega, hi2⟩, by simp only [List.append_assoc], by omega⟩
  rw [decide_eq_false h6, if_neg Bool.false_ne_true]
  by_cases h7 : kd = "gap"
  · rw [decide_eq_true h7, if_pos rfl]
    refine wp_lc_invF (s := srcT (KS.map .str)) (KS.map .str) (fun i acc μ2 => ∃ (ts : List Str) (g : Store) (k2 : Nat), acc = ts.map .str ∧ ts.Sublist (KS.take i) ∧ μ2 = (D ns k2 :: r) ++ (.lst acc :: g) ∧ k2 ≤ k + 1 + i) (kinds_src _ _) rfl (fun _ _ => rfl) (fun _ => rfl) (by rw [sl16]; decide) ⟨[], [], k + 1, rfl, by simp, rfl, by omega⟩ ?_ ?_
    · rintro i d acc μ2 hd ⟨ts, g, k2, rfl, hts, rfl, hk2⟩ hacc
      rw [List.getElem?_map] at hd
      cases hq : KS[i]? with
      | none => rw [hq] at hd; cases hd
      | some s =>
        rw [hq] at hd
        cases hd
        have hi : i < 9 := (List.getElem?_eq_some_iff.mp hq).1
        refine ⟨_, rfl, ?_⟩
        dsimp only [wipeD]
        walk_at "nwp"
        refine wp_imp (next_spec (by omega) (r ++ (Cell.lst (ts.map .str) :: g))) ?_
        rintro d μ' ⟨n2, rfl, h2, h3, rfl⟩
        walk_at "nwp"
        rw [fMod_int (by omega)]
        walk_at "nwp"
        have e2 : KS.take (i + 1) = KS.take i ++ [s] := by
          rw [List.take_add_one, hq]
          rfl
        refine ⟨fun _ => ⟨ts, g, k2 + 1, rfl, ?_, rfl, by omega⟩, fun _ => ⟨?_, ts ++ [s], g, k2 + 1, by rw [List.map_append]; rfl, ?_, ?_, by omega⟩⟩
        · rw [e2]
          exact hts.trans (List.sublist_append_left _ _)
        · exact getElem?_mid (μ := D ns (k2 + 1) :: r)
        · rw [e2]
          exact hts.append (List.Sublist.refl [s])
        · exact set_mid (μ := D ns (k2 + 1) :: r)
    · rintro acc μ2 hacc ⟨ts, g, k2, rfl, hts, rfl, hk2⟩
      rw [show (KS.map Dat.str).length = 9 from rfl] at hts hk2
      rw [show KS.take 9 = KS from rfl] at hts
      have hlen : ts.length ≤ 9 := hts.length_le
      refine wp_imp (name_spec (r := r ++ (Cell.lst (ts.map .str) :: g)) (by omega) (get_app hc) hl hG) ?_
      rintro d μ' ⟨ss, g2, k3, rfl, hn, rfl, hk3⟩
      rw [show fSortedS [.cell (D ns (k + 1) :: r).length] (D ns k3 :: (r ++ (Cell.lst (ts.map .str) :: g) ++ g2)) = .ok (.cell (D ns k3 :: (r ++ (Cell.lst (ts.map .str) :: g) ++ g2)).length) (D ns k3 :: (r ++ (Cell.lst (ts.map .str) :: g) ++ g2) ++ [.lst ((ts.mergeSort leT).map .str)]) from by
        unfold fSortedS
        dsimp only
        rw [show lstAt (D ns k3 :: (r ++ (Cell.lst (ts.map .str) :: g) ++ g2)) (.cell (D ns (k + 1) :: r).length) = some (ts.map .str) from by
          have : (D ns k3 :: (r ++ (Cell.lst (ts.map .str) :: g) ++ g2))[(D ns (k + 1) :: r).length]? = some (.lst (ts.map .str)) := by
            rw [List.length_cons, List.getElem?_cons_succ]
            exact get_app getElem?_mid
          simp only [lstAt, this]]
        rw [Option.bind_some, strsD_map]
        dsimp only
        rw [if_pos (by omega)]
        rfl]
      walk_at "nwp"
      rw [show fTupleOf [.cell ((r ++ (Cell.lst (ts.map .str) :: g) ++ g2).length + 1)] (D ns k3 :: (r ++ (Cell.lst (ts.map .str) :: g) ++ g2 ++ [.lst ((ts.mergeSort leT).map .str)])) = .ok (.tup ((ts.mergeSort leT).map .str)) (D ns k3 :: (r ++ (Cell.lst (ts.map .str) :: g) ++ g2 ++ [.lst ((ts.mergeSort leT).map .str)])) from by
        simp only [fTupleOf, seqD, lstAt, List.getElem?_cons_succ, getElem?_mid]]
      walk_at "nwp"
      rw [if_pos (show 2 ≤ sizeLine by rw [sl16]; omega)]
      have hp := List.mergeSort_perm ts leT
      refine ⟨.gap ss (ts.mergeSort leT), (Cell.lst (ts.map .str) :: g) ++ (g2 ++ [.lst ((ts.mergeSort leT).map .str)]), k3, rfl, ⟨h7, hn.name, fun s hs => hts.subset (hp.mem_iff.mp hs), by rw [List.length_mergeSort]; exact hlen, rise_of (List.pairwise_mergeSort leT_trans leT_total _) (hp.nodup_iff.mpr (KS_nodup.sublist hts))⟩, by simp only [List.append_assoc, List.cons_append], by omega⟩
  rw [decide_eq_false h7, if_neg Bool.false_ne_true, pow_1012]
  walk_at "nwp"
  rw [show (1000000000000 : Int) - 1 = 999999999999 from rfl]
  refine wp_imp (great_spec (by omega) (by constructor <;> decide)) ?_
  rintro d μ' ⟨i, g, rfl, hi, rfl⟩
  walk_at "nwp"
  refine ⟨.num (1 + i), g, _, rfl, .inr ⟨?_, by omega, by omega⟩, rfl, by omega⟩
  rcases KS_cases hkd with e | e | e | e | e | e | e | e | e
  · exact (h1 e).elim
  · exact (h2 e).elim
  · exact (h3 e).elim
  · exact (h4 e).elim
  · exact (h5 e).elim
  · exact .inl e
  · exact .inr e
  · exact (h6 e).elim
  · exact (h7 e).elim
theorem record_spec {ns : List Int} {k c : Nat} {r : Store} {ls : List Str} (hk : k ≤ 60000) (hc : r[c]? = some (.lst (ls.map .str))) (hl : ls.length = 5) (hG : ∀ l ∈ ls, GL l) :
    wp (f__law_record [.cell 0, .cell (c + 1)] (D ns k :: r)) fun d μ' => ∃ (x : Rec) (g : Store) (k' : Nat), d = x.d ∧ x.Good ∧ μ' = D ns k' :: (r ++ g) ∧ k' ≤ k + 40 := by
  refine wp_nr ?_
  rw [wp_run]
  unfold b__law_record
  walk_at "nwp"
  rw [kinds_call]
  walk_at "nwp"
  refine wp_imp (next_spec (by omega) _) ?_
  rintro d μ' ⟨n, rfl, n0, n1, rfl⟩
  walk_at "nwp"
  rw [fMod_int (by omega)]
  walk_at "nwp"
  obtain ⟨d, e, hd⟩ := atI_some (l := KS.map Dat.str) (i := n % 9) (by omega) (by rw [show (KS.map Dat.str).length = 9 from rfl]; omega)
  obtain ⟨kd, hkd, rfl⟩ := strs_at hd
  rw [show ∀ μ, fIxT (.tup (KS.map .str)) (.int (n % 9)) μ = .ok (.str kd) μ from fun μ => by simp only [fIxT, e]]
  walk_at "nwp"
  refine wp_imp (name_spec (by omega) hc hl hG) ?_
  rintro d μ' ⟨ss, g, k2, rfl, hn, rfl, hk2⟩
  walk_at "nwp"
  rw [pow_106]
  walk_at "nwp"
  refine wp_imp (great_spec (by omega) (by constructor <;> decide)) ?_
  rintro d μ' ⟨i, g2, rfl, hi, rfl⟩
  walk_at "nwp"
  refine wp_imp (data_spec hkd (by omega) (get_app (get_app hc)) hl hG) ?_
  rintro d μ' ⟨x, g3, k3, rfl, hx, rfl, hk3⟩
  walk_at "nwp"
  rw [if_pos (show 4 ≤ sizeLine by rw [sl16]; omega)]
  exact ⟨⟨ss, kd, i, x⟩, g ++ (g2 ++ g3), k3, rfl, ⟨hn.name, hkd, hi, hx⟩, by simp only [List.append_assoc], by omega⟩
end Nh

namespace Nh
open PySem PySem.Spec PyProof.Rows L2
local macro_rules | `(tactic| walk_at "nwp") => `(tactic| try simp only [wp_bind, wp_ok, wp_nrR, wps_toS, wps_nx, wps_rt, wps_seq, wp_run, wps_if, wp_if, wp_tAnd, wp_tOr, wp_tNot, startD, List.map_cons, List.map_nil, List.length_cons, List.length_nil, Nat.reduceAdd, Nat.reduceSub, List.replicate_succ, List.replicate_zero, List.cons_append, List.nil_append, List.getElem?_cons_zero, List.getElem?_cons_succ, List.set_cons_zero, List.set_cons_succ,
  asB, mVar, mC, mOp, mCB, maCons, maNil, mCall, msRet, msAsg, mgName, msDrop, msNext, msRaise, mTup, mChain, mUn, if_true, if_false, Bool.not_true, Bool.not_false, Bool.false_eq_true, reduceIte, Nat.reduceEqDiff, Nat.reduceLeDiff,
  eq_self_iff_true, true_and, isA_str, inSign_star, inSign_one, notInSign_one, fEq_str, fEq_int, fLe_int, fLt_int, fGt_int, fAdd_int, fSub_int, fNeg_int])
/-! ### some records -/
def bSm : MS := (msSeq (msAsg (mCall 2 f__law_record (maCons (mVar 0) (maCons (mVar 1) maNil))) (mgName 4))
  (msSeq (msAsg (mCall 1 f__law_next (maCons (mVar 0) maNil)) (mgName 5))
  (msSeq (msIf (mtAnd (asB (mOp fNeD (mVar 2) (mLst maNil))) (asB (mOp fEq (mOp fMod (mVar 5) (mC (.int 2))) (mC (.int 0))))) (msSeq (msAsg (mOp fIxL (mVar 2) (mOp fMod (mOp fDiv (mVar 5) (mC (.int 2))) (mCB fLenQ (maCons (mVar 2) maNil)))) (mgName 6))
  (msSeq (msAsg (mLst (maCons (mVar 6) (maCons (mTup (maCons (mOp fIxT (mVar 6) (mC (.int 0))) (maCons (mOp fIxT (mVar 6) (mC (.int 1))) (maCons (mOp fIxT (mVar 4) (mC (.int 2))) (maCons (mOp fIxT (mVar 6) (mC (.int 3))) maNil))))) (maCons (mOp fCatT (mTup (maCons (mOp fIxT (mVar 4) (mC (.int 0))) maNil)) (mSl fSlT (mVar 6) (moPart (mC (.int 1))) moNone)) maNil)))) (mgName 7))
  (msSeq (msDrop (mBM fAppend (mVar 7) (maCons (mTup (maCons (mOp fIxT (mVar 6) (mC (.int 0))) (maCons (mOp fIxT (mVar 6) (mC (.int 1))) (maCons (mOp fIxT (mVar 6) (mC (.int 2))) (maCons (mCall 3 f__law_data (maCons (mVar 0) (maCons (mOp fIxT (mVar 6) (mC (.int 1))) (maCons (mVar 1) maNil)))) maNil))))) maNil)))
  (msAsg (mOp fIxL (mVar 7) (mOp fMod (mOp fDiv (mVar 5) (mC (.int 30))) (mC (.int 4)))) (mgName 4))))) msNext)
  (msDrop (mBM fAppend (mVar 2) (maCons (mVar 4) maNil))))))
theorem b_sm_is : b__law_some = msSeq (msAsg (mLst maNil) (mgName 2))
  (msSeq (msFor (miRange1 (maCons (mOp fMod (mCall 1 f__law_next (maCons (mVar 0) maNil)) (mC (.int 10))) maNil)) (mgName 3) bSm)
  (msRet (mVar 2))) := rfl
def SR (ns : List Int) (L : List Str) (c kn : Nat) (rl : List Rec) (k : Nat) (μ : Store) : Prop := c < kn ∧ ∃ r, μ = D ns k :: r ∧ r[c]? = some (.lst (L.map .str)) ∧ r[kn]? = some (.lst (rl.map Rec.d))
section
variable {ns : List Int} {L : List Str} {c kn k : Nat} {rl : List Rec} {μ g : Store}
theorem SR.app (h : SR ns L c kn rl k μ) : SR ns L c kn rl k (μ ++ g) := by
  obtain ⟨h0, r, rfl, h1, h2⟩ := h
  exact ⟨h0, r ++ g, rfl, get_app h1, get_app h2⟩
theorem SR.lab (h : SR ns L c kn rl k μ) : μ[c + 1]? = some (.lst (L.map .str)) := by
  obtain ⟨h0, r, rfl, h1, h2⟩ := h
  rw [List.getElem?_cons_succ]
  exact h1
theorem SR.rc (h : SR ns L c kn rl k μ) : μ[kn + 1]? = some (.lst (rl.map Rec.d)) := by
  obtain ⟨h0, r, rfl, h1, h2⟩ := h
  rw [List.getElem?_cons_succ]
  exact h2
theorem SR.push (h : SR ns L c kn rl k μ) (a : Rec) : SR ns L c kn (rl ++ [a]) k (μ.set (kn + 1) (.lst (rl.map Rec.d ++ [a.d]))) := by
  obtain ⟨h0, r, rfl, h1, h2⟩ := h
  refine ⟨h0, r.set kn (.lst (rl.map Rec.d ++ [a.d])), by rw [List.set_cons_succ], ?_, ?_⟩
  · rw [List.getElem?_set_ne (by omega)]
    exact h1
  · rw [List.getElem?_set_self (List.getElem?_eq_some_iff.mp h2).1, List.map_append]
    rfl
theorem SR.next (h : SR ns L c kn rl k μ) (hk : k ≤ 50000) : wp (f__law_next [.cell 0] μ) fun d μ' => ∃ n : Int, d = .int n ∧ 0 ≤ n ∧ n < 268435456 ∧ SR ns L c kn rl (k + 1) μ' := by
  obtain ⟨h0, r, rfl, h1, h2⟩ := h
  refine wp_imp (next_spec (by omega) r) ?_
  rintro d μ' ⟨n, rfl, n0, n1, rfl⟩
  exact ⟨n, rfl, n0, n1, h0, r, rfl, h1, h2⟩
theorem SR.record (h : SR ns L c kn rl k μ) (hk : k ≤ 50000) (hl : L.length = 5) (hG : ∀ l ∈ L, GL l) : wp (f__law_record [.cell 0, .cell (c + 1)] μ) fun d μ' => ∃ (x : Rec) (k' : Nat), d = x.d ∧ x.Good ∧ k' ≤ k + 40 ∧ SR ns L c kn rl k' μ' ∧ ∀ j y, 1 ≤ j → μ[j]? = some y → μ'[j]? = some y := by
  obtain ⟨h0, r, rfl, h1, h2⟩ := h
  refine wp_imp (record_spec (by omega) h1 hl hG) ?_
  rintro d μ' ⟨x, g, k', rfl, e1, rfl, e2⟩
  refine ⟨x, k', rfl, e1, e2, ⟨h0, r ++ g, rfl, get_app h1, get_app h2⟩, fun j y hj hy => ?_⟩
  obtain ⟨i, rfl⟩ : ∃ i, j = i + 1 := ⟨j - 1, by omega⟩
  rw [List.getElem?_cons_succ] at hy ⊢
  exact get_app hy
theorem SR.data (h : SR ns L c kn rl k μ) (hk : k ≤ 50000) (hl : L.length = 5) (hG : ∀ l ∈ L, GL l) {kd : Str} (hkd : kd ∈ KS) : wp (f__law_data [.cell 0, .str kd, .cell (c + 1)] μ) fun d μ' => ∃ (x : Dt) (k' : Nat), d = x.d ∧ x.fits kd ∧ k' ≤ k + 20 ∧ SR ns L c kn rl k' μ' ∧ ∀ j y, 1 ≤ j → μ[j]? = some y → μ'[j]? = some y := by
  obtain ⟨h0, r, rfl, h1, h2⟩ := h
  refine wp_imp (data_spec hkd (by omega) h1 hl hG) ?_
  rintro d μ' ⟨x, g, k', rfl, e1, rfl, e2⟩
  refine ⟨x, k', rfl, e1, e2, ⟨h0, r ++ g, rfl, get_app h1, get_app h2⟩, fun j y hj hy => ?_⟩
  obtain ⟨i, rfl⟩ : ∃ i, j = i + 1 := ⟨j - 1, by omega⟩
  rw [List.getElem?_cons_succ] at hy ⊢
  exact get_app hy
theorem ixT_0 (r : Rec) (μ : Store) : fIxT r.d (.int 0) μ = .ok (tupN r.n) μ := by simp only [Rec.d, fIxT, show ∀ a b c e : Dat, atI [a, b, c, e] 0 = some a from fun a b c e => atI_nat (j := 0) rfl]
theorem ixT_1 (r : Rec) (μ : Store) : fIxT r.d (.int 1) μ = .ok (.str r.k) μ := by simp only [Rec.d, fIxT, show ∀ a b c e : Dat, atI [a, b, c, e] 1 = some b from fun a b c e => atI_nat (j := 1) rfl]
theorem ixT_2 (r : Rec) (μ : Store) : fIxT r.d (.int 2) μ = .ok (.int r.l) μ := by simp only [Rec.d, fIxT, show ∀ a b c e : Dat, atI [a, b, c, e] 2 = some c from fun a b c e => atI_nat (j := 2) rfl]
theorem ixT_3 (r : Rec) (μ : Store) : fIxT r.d (.int 3) μ = .ok r.x.d μ := by simp only [Rec.d, fIxT, show ∀ a b c e : Dat, atI [a, b, c, e] 3 = some e from fun a b c e => atI_nat (j := 3) rfl]
theorem recd_at {d : Dat} {xs : List Rec} (h : d ∈ xs.map Rec.d) : ∃ a ∈ xs, d = a.d := by
  obtain ⟨a, ha, e⟩ := List.mem_map.mp h
  exact ⟨a, ha, e.symm⟩
theorem app_at {μ : Store} {q : Nat} {ds : List Dat} {y : Dat} (h : μ[q]? = some (.lst ds)) (hz : ds.length ≤ 1000) : fAppend (.cell q) [y] μ = .ok .non (μ.set q (.lst (ds ++ [y]))) := by
  simp only [fAppend, h]
  rw [if_pos (by rw [sl16]; omega)]
theorem SR.setHigh (h : SR ns L c kn rl k μ) {q : Nat} {x : Cell} (hq : kn + 1 < q) : SR ns L c kn rl k (μ.set q x) := by
  obtain ⟨h0, r, rfl, h1, h2⟩ := h
  obtain ⟨i, rfl⟩ : ∃ i, q = i + 1 := ⟨q - 1, by omega⟩
  refine ⟨h0, r.set i x, by rw [List.set_cons_succ], ?_, ?_⟩
  · rw [List.getElem?_set_ne (by omega)]
    exact h1
  · rw [List.getElem?_set_ne (by omega)]
    exact h2
theorem SR.lt (h : SR ns L c kn rl k μ) : kn + 1 < μ.length := (List.getElem?_eq_some_iff.mp h.rc).1
theorem some_body {P : Ps} {x3 x4 x5 x6 x7 : Option Dat} (h : SR ns L c kn rl k μ) (hk : k ≤ 40000) (hl : L.length = 5) (hG : ∀ l ∈ L, GL l) (hR : Goods rl) (hn : rl.length ≤ 9)
    (hP : ∀ x4 x5 x6 x7 a k' μ', a.Good → k' ≤ k + 100 → SR ns L c kn (rl ++ [a]) k' μ' → P.nx [some (.cell 0), some (.cell (c + 1)), some (.cell (kn + 1)), x3, x4, x5, x6, x7] μ') :
    wps (bSm [some (.cell 0), some (.cell (c + 1)), some (.cell (kn + 1)), x3, x4, x5, x6, x7] μ) P := by
  have fin : ∀ {y4 y5 y6 y7 : Option Dat} {a : Rec} {k' : Nat} {μ' : Store}, a.Good → k' ≤ k + 100 → SR ns L c kn rl k' μ' → y4 = some a.d →
      wps (msDrop (mBM fAppend (mVar 2) (maCons (mVar 4) maNil)) [some (.cell 0), some (.cell (c + 1)), some (.cell (kn + 1)), x3, y4, y5, y6, y7] μ') P := by
    rintro y4 y5 y6 y7 a k' μ' ha hk' h' rfl
    unfold mBM
    walk_at "nwp"
    rw [show lstAt μ' (.cell (kn + 1)) = some (rl.map Rec.d) from by simp only [lstAt, h'.rc], if_pos (show (some (rl.map Rec.d)).isSome = true from rfl)]
    walk_at "nwp"
    rw [app_at h'.rc (by rw [List.length_map]; omega)]
    exact hP _ _ _ _ a k' _ ha hk' (h'.push a)
  unfold bSm
  rw [wps_seq]
  walk_at "nwp"
  refine wp_imp (h.record (by omega) hl hG) ?_
  rintro d μ1 ⟨x, k1, rfl, gx, hk1, h1, _⟩
  walk_at "nwp"
  refine wp_imp (h1.next (by omega)) ?_
  rintro d μ2 ⟨n, rfl, n0, n1, h2⟩
  walk_at "nwp"
  unfold mLst
  walk_at "nwp"
  rw [if_pos (Nat.zero_le _)]
  unfold allocR
  walk_at "nwp"
  rw [neD_rempty (h2.app).rc getElem?_mid hR]
  walk_at "nwp"
  replace h2 := h2.app (g := [.lst []])
  generalize μ2 ++ [Cell.lst []] = μ2 at h2 ⊢
  have skip := fin (y5 := some (.int n)) (y6 := x6) (y7 := x7) gx (by omega) h2 rfl
  unfold msDrop at skip
  rw [wps_toS] at skip
  cases he : rl.isEmpty with
  | true =>
    walk_at "nwp"
    exact skip
  | false =>
    have hpos : 0 < rl.length := by
      cases rl with
      | nil => cases he
      | cons a t => exact Nat.succ_pos _
    walk_at "nwp"
    rw [fMod_int (by omega)]
    walk_at "nwp"
    by_cases h3 : n % 2 = 0
    · rw [decide_eq_true h3]
      walk_at "nwp"
      rw [fDiv_int (by omega)]
      walk_at "nwp"
      obtain ⟨z, hz⟩ : ∃ z : Int, z = (rl.length : Int) := ⟨_, rfl⟩
      have hlen : fLenQ [.cell (kn + 1)] μ2 = .ok (.int z) μ2 := by
        simp only [fLenQ, seqD, lstAt, h2.rc, hz]
        rw [List.length_map]
      rw [hlen]
      walk_at "nwp"
      rw [fMod_int (by omega)]
      walk_at "nwp"
      obtain ⟨d, e, hd⟩ := fIxL_at (i := n / 2 % z) h2.rc (Int.emod_nonneg _ (by omega)) (by rw [List.length_map, ← hz]; exact Int.emod_lt_of_pos _ (by omega))
      obtain ⟨old, ho, rfl⟩ := recd_at hd
      have go := hR old ho
      rw [e]
      unfold mSl moPart moNone
      walk_at "nwp"
      rw [ixT_0]
      walk_at "nwp"
      rw [ixT_1]
      walk_at "nwp"
      rw [ixT_2]
      walk_at "nwp"
      rw [ixT_3]
      walk_at "nwp"
      rw [if_pos (show 4 ≤ sizeLine by rw [sl16]; omega)]
      walk_at "nwp"
      rw [ixT_0]
      walk_at "nwp"
      rw [if_pos (show 1 ≤ sizeLine by rw [sl16]; omega)]
      walk_at "nwp"
      rw [show ∀ μ, fSlT old.d (some 1) none μ = .ok (.tup [.str old.k, .int old.l, old.x.d]) μ from fun μ => by
        show Res.ok (Dat.tup (cutD [tupN old.n, .str old.k, .int old.l, old.x.d] (some ((1 : Nat) : Int)) none)) μ = _
        rw [cutD_from]
        rfl]
      walk_at "nwp"
      rw [show ∀ μ, fCatT (.tup [tupN x.n]) (.tup [.str old.k, .int old.l, old.x.d]) μ = .ok (.tup [tupN x.n, .str old.k, .int old.l, old.x.d]) μ from fun μ => by
        unfold fCatT
        dsimp only
        rw [if_pos (by rw [sl16]; exact (by decide : 1 + 3 ≤ 16777216))]
        rfl]
      walk_at "nwp"
      rw [if_pos (show 3 ≤ sizeLine by rw [sl16]; omega)]
      unfold mBM
      walk_at "nwp"
      have h4 := h2.app (g := [.lst [old.d, .tup [tupN old.n, .str old.k, .int x.l, old.x.d], .tup [tupN x.n, .str old.k, .int old.l, old.x.d]]])
      have hq : (μ2 ++ [Cell.lst [old.d, .tup [tupN old.n, .str old.k, .int x.l, old.x.d], .tup [tupN x.n, .str old.k, .int old.l, old.x.d]]])[μ2.length]? = some (.lst [old.d, .tup [tupN old.n, .str old.k, .int x.l, old.x.d], .tup [tupN x.n, .str old.k, .int old.l, old.x.d]]) := getElem?_mid
      have hlt := h2.lt
      generalize μ2.length = q at hq hlt ⊢
      generalize μ2 ++ [Cell.lst [old.d, .tup [tupN old.n, .str old.k, .int x.l, old.x.d], .tup [tupN x.n, .str old.k, .int old.l, old.x.d]]] = μ3 at h4 hq ⊢
      rw [show lstAt μ3 (.cell q) = some [old.d, .tup [tupN old.n, .str old.k, .int x.l, old.x.d], .tup [tupN x.n, .str old.k, .int old.l, old.x.d]] from by simp only [lstAt, hq], if_pos (show (some _).isSome = true from rfl)]
      walk_at "nwp"
      rw [ixT_0]
      walk_at "nwp"
      rw [ixT_1]
      walk_at "nwp"
      rw [ixT_2]
      walk_at "nwp"
      rw [ixT_1]
      walk_at "nwp"
      refine wp_imp (h4.data (by omega) hl hG go.hk) ?_
      rintro d μ4 ⟨y, k2, rfl, hy, hk2, h5, keep⟩
      walk_at "nwp"
      rw [if_pos (show 4 ≤ sizeLine by rw [sl16]; omega)]
      walk_at "nwp"
      have hq4 := keep q _ (by omega) hq
      rw [app_at hq4 (by simp)]
      walk_at "nwp"
      have hlt4 : q < μ4.length := (List.getElem?_eq_some_iff.mp hq4).1
      have h6 := h5.setHigh (q := q) (x := .lst ([old, ⟨old.n, old.k, x.l, old.x⟩, ⟨x.n, old.k, old.l, old.x⟩, ⟨old.n, old.k, old.l, y⟩].map Rec.d)) hlt
      have hq6 : (μ4.set q (.lst ([old, ⟨old.n, old.k, x.l, old.x⟩, ⟨x.n, old.k, old.l, old.x⟩, ⟨old.n, old.k, old.l, y⟩].map Rec.d)))[q]? = some (.lst ([old, ⟨old.n, old.k, x.l, old.x⟩, ⟨x.n, old.k, old.l, old.x⟩, ⟨old.n, old.k, old.l, y⟩].map Rec.d)) := List.getElem?_set_self hlt4
      rw [show μ4.set q (.lst [old.d, .tup [tupN old.n, .str old.k, .int x.l, old.x.d], .tup [tupN x.n, .str old.k, .int old.l, old.x.d], .tup [tupN old.n, .str old.k, .int old.l, y.d]]) = μ4.set q (.lst ([old, ⟨old.n, old.k, x.l, old.x⟩, ⟨x.n, old.k, old.l, old.x⟩, ⟨old.n, old.k, old.l, y⟩].map Rec.d)) from rfl]
      generalize μ4.set q (.lst ([old, ⟨old.n, old.k, x.l, old.x⟩, ⟨x.n, old.k, old.l, old.x⟩, ⟨old.n, old.k, old.l, y⟩].map Rec.d)) = μ5 at h6 hq6 ⊢
      rw [fDiv_int (by omega)]
      walk_at "nwp"
      rw [fMod_int (by omega)]
      walk_at "nwp"
      obtain ⟨d, e, hd⟩ := fIxL_at (i := n / 30 % 4) hq6 (by omega) (by simp; omega)
      obtain ⟨a, ha, rfl⟩ := recd_at hd
      have ga : a.Good := by
        simp only [List.mem_cons, List.not_mem_nil, or_false] at ha
        rcases ha with rfl | rfl | rfl | rfl
        · exact go
        · exact ⟨go.hn, go.hk, gx.hl, go.hx⟩
        · exact ⟨gx.hn, go.hk, go.hl, go.hx⟩
        · exact ⟨go.hn, go.hk, go.hl, hy⟩
      rw [e]
      walk_at "nwp"
      have last := fin (y5 := some (.int n)) (y6 := some old.d) (y7 := some (.cell q)) ga (by omega) h6 rfl
      unfold msDrop at last
      rw [wps_toS] at last
      exact last
    · rw [decide_eq_false h3]
      walk_at "nwp"
      exact skip
theorem some_spec {r : Store} (hk : k ≤ 30000) (hc : r[c]? = some (.lst (L.map .str))) (hl : L.length = 5) (hG : ∀ l ∈ L, GL l) :
    wp (f__law_some [.cell 0, .cell (c + 1)] (D ns k :: r)) fun d μ' => ∃ (rl : List Rec) (k' : Nat), d = .cell (r.length + 1) ∧ Goods rl ∧ rl.length ≤ 9 ∧ k' ≤ k + 1000 ∧ SR ns L c r.length rl k' μ' := by
  refine wp_nr ?_
  rw [wp_run, b_sm_is]
  unfold mLst
  walk_at "nwp"
  rw [if_pos (Nat.zero_le _)]
  unfold allocR
  walk_at "nwp"
  have hcr : c < r.length := (List.getElem?_eq_some_iff.mp hc).1
  have S0 : SR ns L c r.length [] k (D ns k :: (r ++ [.lst []])) := ⟨hcr, r ++ [.lst []], rfl, get_app hc, getElem?_mid⟩
  have nx := S0.next (by omega)
  cases hnx : f__law_next [.cell 0] (D ns k :: (r ++ [.lst []])) with
  | raise n μ => rw [hnx] at nx; exact nx.elim
  | stuck => rw [hnx] at nx; exact nx.elim
  | ok d μ1 =>
    rw [hnx] at nx
    obtain ⟨n, rfl, n0, n1, S1⟩ := nx
    have hm0 := Int.emod_nonneg n (show (10 : Int) ≠ 0 by omega)
    have hm1 := Int.emod_lt_of_pos n (show (0 : Int) < 10 by omega)
    obtain ⟨m, hm⟩ : ∃ m : Nat, n % 10 = (m : Int) := ⟨(n % 10).toNat, by omega⟩
    rw [msFor_q (lo := 0) (n := m) (μ1 := μ1) (by
      have e := range_src (j := n % 10) (by omega) [some (.cell 0), some (.cell (c + 1)), some (.cell (r.length + 1)), none, none, none, none, none] μ1
      rw [show (n % 10).toNat = m by omega] at e
      refine Eq.trans ?_ e
      unfold miRange1
      simp only [maCons, maNil, mOp, mCall, mVar, mC, Res.bind, List.getElem?_cons_succ, List.getElem?_cons_zero, List.length_cons, List.length_nil, Nat.zero_add, if_true, hnx]
      rw [fMod_int (by omega)])]
    refine wps_for (s := srcQ 0 m) (rangeD 0 m) (fun i δ μ => ∃ x3 x4 x5 x6 x7 k2 rl, δ = [some (.cell 0), some (.cell (c + 1)), some (.cell (r.length + 1)), x3, x4, x5, x6, x7] ∧ SR ns L c r.length rl k2 μ ∧ rl.length = i ∧ Goods rl ∧ k2 ≤ k + 1 + 100 * i) rfl (rangeD_len _ _).symm (fun _ _ => rfl) (fun _ => rfl) ?_ ?_ ?_
    · exact ⟨_, _, _, _, _, k + 1, [], rfl, S1, rfl, (fun _ h => nomatch h), by omega⟩
    · rintro i d δ μ hd ⟨x3, x4, x5, x6, x7, k2, rl, rfl, h, hli, hR, hk2⟩
      obtain ⟨hi, rfl⟩ := rangeD_get hd
      refine ⟨[some (.cell 0), some (.cell (c + 1)), some (.cell (r.length + 1)), some (.int (0 + (i : Nat))), x4, x5, x6, x7], rfl, ?_⟩
      refine some_body h (by omega) hl hG hR (by omega) ?_
      intro x4 x5 x6 x7 a k3 μ3 ga hk3 h3
      refine ⟨_, _, _, _, _, k3, rl ++ [a], rfl, h3, by rw [List.length_append, List.length_singleton, hli], fun b hb => ?_, by omega⟩
      rcases List.mem_append.mp hb with hb | hb
      · exact hR b hb
      · rw [List.mem_singleton.mp hb]; exact ga
    · rintro δ μ ⟨x3, x4, x5, x6, x7, k2, rl, rfl, h, hli, hR, hk2⟩
      rw [rangeD_len] at hli hk2
      walk_at "nwp"
      first | exact ⟨rl, k2, hR, by omega, by omega, h⟩ | exact ⟨rl, k2, rfl, hR, by omega, by omega, h⟩
end
end Nh

namespace Nh
open PySem PySem.Spec PyProof.Rows L2
local macro_rules | `(tactic| walk_at "nwp") => `(tactic| try simp only [wp_bind, wp_ok, wp_nrR, wps_toS, wps_nx, wps_rt, wps_seq, wp_run, wps_if, wp_if, wp_tAnd, wp_tOr, wp_tNot, startD, List.map_cons, List.map_nil, List.length_cons, List.length_nil, Nat.reduceAdd, Nat.reduceSub, List.replicate_succ, List.replicate_zero, List.cons_append, List.nil_append, List.getElem?_cons_zero, List.getElem?_cons_succ, List.set_cons_zero, List.set_cons_succ,
  asB, mVar, mC, mOp, mCB, maCons, maNil, mCall, msRet, msAsg, mgName, msDrop, msNext, msRaise, mTup, mChain, mUn, if_true, if_false, Bool.not_true, Bool.not_false, Bool.false_eq_true, reduceIte, Nat.reduceEqDiff, Nat.reduceLeDiff,
  eq_self_iff_true, true_and, isA_str, inSign_star, inSign_one, notInSign_one, fEq_str, fEq_int, fLe_int, fLt_int, fGt_int, fAdd_int, fSub_int, fNeg_int])
/-! ### odd things -/
theorem num_pr : ∀ n : Nat, n < 1000 → (toString (n : Int) : Str).length ≤ 1000 ∧ ∀ q ∈ (toString (n : Int) : Str).cps.toList, q ∈ PR.cps.toList := by decide +kernel
def AllOk (μ : Store) (ds : List Dat) : Prop := ∀ e ∈ ds, OkD μ e
theorem AllOk.nil {μ : Store} : AllOk μ [] := fun _ h => nomatch h
theorem AllOk.cons {μ : Store} {a : Dat} {r : List Dat} (h : OkD μ a) (t : AllOk μ r) : AllOk μ (a :: r) := fun e he => by
  rcases List.mem_cons.mp he with rfl | he
  · exact h
  · exact t e he
theorem AllOk.app {μ g : Store} {ds : List Dat} (h : AllOk μ ds) : AllOk (μ ++ g) ds := fun e he => (h e he).app
theorem AllOk.append {μ : Store} {a b : List Dat} (h : AllOk μ a) (t : AllOk μ b) : AllOk μ (a ++ b) := fun e he => by
  rcases List.mem_append.mp he with he | he
  · exact h e he
  · exact t e he
theorem sz {n : Nat} (h : n ≤ 100) : n ≤ sizeLine := by rw [sl16]; omega
theorem okD_lit {μ : Store} {s : Str} (h : s.length ≤ 1000 ∧ ∀ q ∈ s.cps.toList, q ∈ PR.cps.toList) : OkD μ (.str s) := .str h.1 h.2
theorem okD_tups {μ : Store} {ds : List Dat} (hl : ds.length ≤ 20) (h : AllOk μ ds) : OkD μ (.tup ds) := .tup hl h
theorem okD_lst {μ : Store} {q : Nat} {ds : List Dat} (h : μ[q]? = some (.lst ds)) : OkD μ (.cell q) := .cell (t := "list") (by simp only [tyD, kindD, h]; rfl) (.inl rfl)
theorem okD_dict {μ : Store} {q : Nat} {ds : List (Key × Dat)} (h : μ[q]? = some (.dict ds)) : OkD μ (.cell q) := .cell (t := "dict") (by simp only [tyD, kindD, h]; rfl) (.inr rfl)
theorem cat_at {μ : Store} {p q : Nat} {a b : List Dat} (h1 : μ[p]? = some (.lst a)) (h2 : μ[q]? = some (.lst b)) (hz : a.length + b.length ≤ 100) : fCat (.cell p) (.cell q) μ = .ok (.cell μ.length) (μ ++ [.lst (a ++ b)]) := by
  simp only [fCat, celL, h1, h2]
  rw [if_pos (sz hz)]
  rfl
theorem mem_cutD {α : Type} {l : List α} {lo hi : Option Int} {x : α} (h : x ∈ cutD l lo hi) : x ∈ l := List.mem_of_mem_drop (List.mem_of_mem_take h)
theorem len_cutD {α : Type} (l : List α) (lo hi : Option Int) : (cutD l lo hi).length ≤ l.length := by
  unfold cutD
  rw [List.length_take, List.length_drop]
  omega
theorem oddA_spec {n : Int} {d : Dat} {μ : Store} (hd : OkD μ d) {P : Ps} (hP : ∀ (q : Nat) (ds : List Dat) (μ' : Store), (∃ g, μ' = μ ++ g) → μ'[q]? = some (.lst ds) → ds.length = 9 → AllOk μ' ds → P.nx [some (.int n), some d, some (.cell q)] μ') :
    wps (msAsg (mLst (maCons (mC .non) (maCons (mC (.bl true)) (maCons (mUn fNeg (mC (.int 1))) (maCons (mC (.str "")) (maCons (mOp fAdd (mOp fPow (mC (.int 10)) (mC (.int 6))) (mC (.int 1))) (maCons (mOp fPow (mC (.int 2)) (mC (.int 64))) (maCons (mOp fAdd (mOp fPow (mC (.int 10)) (mC (.int 12))) (mC (.int 1))) (maCons (mC (.int 0)) (maCons (mOp fMulS (mC (.str "a")) (mC (.int 31))) maNil)))))))))) (mgName 2) [some (.int n), some d, none] μ) P := by
  unfold mLst
  walk_at "nwp"
  rw [pow_106]
  walk_at "nwp"
  rw [pow_264]
  walk_at "nwp"
  rw [pow_1012]
  walk_at "nwp"
  rw [show ∀ μ, fMulS (.str "a") (.int 31) μ = .ok (.str (Txt.mul "a" 31)) μ from fun μ => by
    unfold fMulS
    dsimp only
    rw [if_pos (by decide +kernel)]]
  walk_at "nwp"
  rw [if_pos (sz (by decide))]
  unfold allocR
  walk_at "nwp"
  refine hP _ _ _ ⟨_, rfl⟩ getElem?_mid rfl ?_
  exact .cons .non (.cons (.bl _) (.cons (.int _) (.cons (okD_lit (by decide +kernel)) (.cons (.int _) (.cons (.int _) (.cons (.int _) (.cons (.int _) (.cons (okD_lit (by decide +kernel)) .nil))))))))
theorem oddB_spec {n : Int} {d : Dat} {μ : Store} {q : Nat} {ds : List Dat} (hq : μ[q]? = some (.lst ds)) (hl : ds.length = 9) (ok : AllOk μ ds) {P : Ps} (hP : ∀ (q : Nat) (ds : List Dat) (μ' : Store), (∃ g, μ' = μ ++ g) → μ'[q]? = some (.lst ds) → ds.length = 15 → AllOk μ' ds → P.nx [some (.int n), some d, some (.cell q)] μ') :
    wps (msAsg (mOp fCat (mVar 2) (mLst (maCons (mTup (maCons (mC (.str "a")) maNil)) (maCons (mTup (maCons (mC (.str "*")) maNil)) (maCons (mTup maNil) (maCons (mLst maNil) (maCons mDNew (maCons (mC (.str "seal")) maNil)))))))) (mgName 2) [some (.int n), some d, some (.cell q)] μ) P := by
  unfold mLst mDNew
  walk_at "nwp"
  rw [if_pos (sz (by decide))]
  walk_at "nwp"
  rw [if_pos (sz (by decide))]
  walk_at "nwp"
  rw [if_pos (sz (by decide))]
  walk_at "nwp"
  rw [if_pos (sz (by decide))]
  unfold allocR
  walk_at "nwp"
  rw [if_pos (sz (by decide))]
  walk_at "nwp"
  rw [cat_at (get_app (get_app (get_app hq))) getElem?_mid (by rw [hl]; simp)]
  walk_at "nwp"
  refine hP _ _ _ ⟨_, by simp only [List.append_assoc]; rfl⟩ getElem?_mid (by rw [List.length_append, hl]; rfl) ?_
  refine .append (ok.app.app.app.app) (.app (.app ?_))
  have a1 : (μ ++ [Cell.lst []] ++ [Cell.dict []])[μ.length]? = some (.lst []) := get_app getElem?_mid
  have a2 : (μ ++ [Cell.lst []] ++ [Cell.dict []])[(μ ++ [Cell.lst []]).length]? = some (.dict []) := getElem?_mid
  exact .cons (okD_tups (by decide) (.cons (okD_lit (by decide +kernel)) .nil)) (.cons (okD_tups (by decide) (.cons (okD_lit (by decide +kernel)) .nil)) (.cons (okD_tups (by decide) .nil) (.cons (okD_lst a1) (.cons (okD_dict a2) (.cons (okD_lit (by decide +kernel)) .nil)))))
theorem oddC_spec {n : Int} {d : Dat} {μ : Store} {q : Nat} {ds : List Dat} (hq : μ[q]? = some (.lst ds)) (hl : ds.length = 15) (ok : AllOk μ ds) {P : Ps} (hP : ∀ (q : Nat) (ds : List Dat) (μ' : Store), (∃ g, μ' = μ ++ g) → μ'[q]? = some (.lst ds) → ds.length = 20 → AllOk μ' ds → P.nx [some (.int n), some d, some (.cell q)] μ') :
    wps (msAsg (mOp fCat (mVar 2) (mLst (maCons (mOp fPow (mC (.int 2)) (mC (.int 32))) (maCons (mC (.int 1000000007)) (maCons (mTup (maCons (mC (.str "a")) (maCons (mC (.str "*")) maNil))) (maCons (mTup (maCons (mC (.str "addr")) (maCons (mC (.str "addr")) maNil))) (maCons (mTup (maCons (mC (.str "text")) (maCons (mC (.str "addr")) maNil))) maNil))))))) (mgName 2) [some (.int n), some d, some (.cell q)] μ) P := by
  unfold mLst
  walk_at "nwp"
  rw [pow_232]
  walk_at "nwp"
  rw [if_pos (sz (by decide))]
  walk_at "nwp"
  rw [if_pos (sz (by decide))]
  walk_at "nwp"
  rw [if_pos (sz (by decide))]
  walk_at "nwp"
  rw [if_pos (sz (by decide))]
  unfold allocR
  walk_at "nwp"
  rw [cat_at (get_app hq) getElem?_mid (by rw [hl]; simp)]
  walk_at "nwp"
  refine hP _ _ _ ⟨_, by simp only [List.append_assoc]; rfl⟩ getElem?_mid (by rw [List.length_append, hl]; rfl) ?_
  refine .append (ok.app.app) ?_
  have t : ∀ a b : Str, (a.length ≤ 1000 ∧ ∀ q ∈ a.cps.toList, q ∈ PR.cps.toList) → (b.length ≤ 1000 ∧ ∀ q ∈ b.cps.toList, q ∈ PR.cps.toList) → ∀ μ, OkD μ (.tup [.str a, .str b]) := fun a b ha hb μ => okD_tups (by simp) (.cons (okD_lit ha) (.cons (okD_lit hb) .nil))
  exact .cons (.int _) (.cons (.int _) (.cons (t _ _ (by decide +kernel) (by decide +kernel) _) (.cons (t _ _ (by decide +kernel) (by decide +kernel) _) (.cons (t _ _ (by decide +kernel) (by decide +kernel) _) .nil))))
end Nh

namespace Nh
open PySem PySem.Spec PyProof.Rows L2
local macro_rules | `(tactic| walk_at "nwp") => `(tactic| try simp only [wp_bind, wp_ok, wp_nrR, wps_toS, wps_nx, wps_rt, wps_seq, wp_run, wps_if, wp_if, wp_tAnd, wp_tOr, wp_tNot, startD, List.map_cons, List.map_nil, List.length_cons, List.length_nil, Nat.reduceAdd, Nat.reduceSub, List.replicate_succ, List.replicate_zero, List.cons_append, List.nil_append, List.getElem?_cons_zero, List.getElem?_cons_succ, List.set_cons_zero, List.set_cons_succ,
  asB, mVar, mC, mOp, mCB, maCons, maNil, mCall, msRet, msAsg, mgName, msDrop, msNext, msRaise, mTup, mChain, mUn, if_true, if_false, Bool.not_true, Bool.not_false, Bool.false_eq_true, reduceIte, Nat.reduceEqDiff, Nat.reduceLeDiff,
  eq_self_iff_true, true_and, isA_str, inSign_star, inSign_one, notInSign_one, fEq_str, fEq_int, fLe_int, fLt_int, fGt_int, fAdd_int, fSub_int, fNeg_int])
theorem oddD_spec {n : Int} {d : Dat} {μ : Store} {q : Nat} {ds : List Dat} (hd : OkD μ d) (h10 : ∀ es, d = .tup es → es.length ≤ 10) (hq : μ[q]? = some (.lst ds)) (hl : ds.length = 20) (ok : AllOk μ ds) {P : Ps} (hP : ∀ (q : Nat) (ds : List Dat) (μ' : Store), (∃ g, μ' = μ ++ g) → μ'[q]? = some (.lst ds) → 20 ≤ ds.length ∧ ds.length ≤ 26 → AllOk μ' ds → P.nx [some (.int n), some d, some (.cell q)] μ') :
    wps (msIf (asB (mCB (fIsA tab) (maCons (mVar 1) (maCons (mC (.ty "tuple")) maNil)))) (msAsg (mOp fCat (mVar 2) (mOp fRepL (mLst (maCons (mCB fListOf (maCons (mVar 1) maNil)) (maCons (mOp fAddU (mVar 1) (mSl fSlU (mVar 1) (moPart (mUn fNeg (mC (.int 1)))) moNone)) (maCons (mSl fSlU (mVar 1) moNone (moPart (mUn fNeg (mC (.int 1))))) maNil)))) (mC (.int 2)))) (mgName 2)) msNext [some (.int n), some d, some (.cell q)] μ) P := by
  walk_at "nwp"
  rw [isA_ok hd (.inr (.inr (.inr rfl)))]
  walk_at "nwp"
  by_cases ht : ∃ es, d = .tup es
  · obtain ⟨es, rfl⟩ := ht
    have h10 := h10 es rfl
    have hes := hd.tups.2
    rw [(tyB_tup _).mpr ⟨es, rfl⟩]
    unfold mLst mSl moPart moNone
    walk_at "nwp"
    rw [show fListOf [.tup es] μ = .ok (.cell μ.length) (μ ++ [.lst es]) from rfl]
    walk_at "nwp"
    rw [show ∀ μ, fSlU (.tup es) (some (-1)) none μ = .ok (.tup (cutD es (some (-1)) none)) μ from fun μ => rfl]
    walk_at "nwp"
    have l1 := len_cutD es (some (-1)) none
    rw [show ∀ μ, fAddU (.tup es) (.tup (cutD es (some (-1)) none)) μ = .ok (.tup (es ++ cutD es (some (-1)) none)) μ from fun μ => by
      simp only [fAddU, fAlt, fAdd, intOp, fAddS, fCatT]
      rw [if_pos (sz (by omega))]]
    walk_at "nwp"
    rw [show ∀ μ, fSlU (.tup es) none (some (-1)) μ = .ok (.tup (cutD es none (some (-1)))) μ from fun μ => rfl]
    walk_at "nwp"
    rw [if_pos (sz (by decide))]
    unfold allocR
    walk_at "nwp"
    have l2 := len_cutD es none (some (-1))
    have k1 : (μ ++ [Cell.lst es])[μ.length]? = some (.lst es) := getElem?_mid
    have three : AllOk (μ ++ [Cell.lst es]) [.cell μ.length, .tup (es ++ cutD es (some (-1)) none), .tup (cutD es none (some (-1)))] := by
      have he : AllOk (μ ++ [Cell.lst es]) es := fun e he => (hes e he).app
      exact .cons (okD_lst k1) (.cons (okD_tups (by rw [List.length_append]; omega) (.append he fun e h => he e (mem_cutD h))) (.cons (okD_tups (by omega) fun e h => he e (mem_cutD h)) .nil))
    have hq2 : (μ ++ [Cell.lst es])[q]? = some (.lst ds) := get_app hq
    have hx : ∃ g, μ ++ [Cell.lst es] = μ ++ g := ⟨_, rfl⟩
    have ok2 : AllOk (μ ++ [Cell.lst es]) ds := ok.app
    have t3 : [Dat.cell μ.length, .tup (es ++ cutD es (some (-1)) none), .tup (cutD es none (some (-1)))].length = 3 := rfl
    generalize [Dat.cell μ.length, .tup (es ++ cutD es (some (-1)) none), .tup (cutD es none (some (-1)))] = ts at three t3 ⊢
    generalize μ ++ [Cell.lst es] = μ2 at three hq2 hx ok2 ⊢
    rw [show fRepL (.cell μ2.length) (.int 2) (μ2 ++ [.lst ts]) = .ok (.cell (μ2 ++ [Cell.lst ts]).length) (μ2 ++ [.lst ts] ++ [.lst (ts ++ ts)]) from by
      simp only [fRepL, celL, getElem?_mid]
      rw [if_pos ⟨by decide, by decide, by rw [t3]; decide⟩, show (List.replicate (Int.toNat 2) ts).flatten = ts ++ ts from by simp [List.replicate]]
      rfl]
    walk_at "nwp"
    rw [cat_at (get_app (get_app hq2)) getElem?_mid (by rw [hl, List.length_append, t3]; decide)]
    walk_at "nwp"
    obtain ⟨g, rfl⟩ := hx
    refine hP _ _ _ ⟨g ++ ([.lst ts] ++ ([.lst (ts ++ ts)] ++ [.lst (ds ++ (ts ++ ts))])), by simp only [List.append_assoc]⟩ getElem?_mid (by rw [List.length_append, List.length_append, hl, t3]; decide) ?_
    exact .append ok2.app.app.app (.append three.app.app.app three.app.app.app)
  · rw [tyB_no (t := "tuple") (fun z => ht ((tyB_tup _).mp z))]
    walk_at "nwp"
    exact hP q ds μ ⟨[], by simp⟩ hq (by omega) ok
theorem oddE_spec {n : Int} {d : Dat} {μ : Store} {q : Nat} {ds : List Dat} (hn : 0 ≤ n) (hd : OkD μ d) (hq : μ[q]? = some (.lst ds)) (hl : 20 ≤ ds.length ∧ ds.length ≤ 26) (ok : AllOk μ ds) {P : Ps} (hP : ∀ (q : Nat) (ds : List Dat) (μ' : Store), (∃ g, μ' = μ ++ g) → μ'[q]? = some (.lst ds) → 20 ≤ ds.length → AllOk μ' ds → P.nx [some (.int n), some d, some (.cell q)] μ') :
    wps (msIf (asB (mCall 3 f__law_among (maCons (mVar 1) (maCons (mC (.int 0)) (maCons (mOp fPow (mC (.int 2)) (mC (.int 64))) maNil))))) (msAsg (mOp fCat (mVar 2) (mLst (maCons (mOp fAdd (mVar 1) (mC (.int 1))) (maCons (mOp fSub (mVar 1) (mC (.int 1))) (maCons (mUn fNeg (mVar 1)) (maCons (mCB fStrI (maCons (mOp fMod (mVar 0) (mC (.int 1000))) maNil)) maNil)))))) (mgName 2)) msNext [some (.int n), some d, some (.cell q)] μ) P := by
  walk_at "nwp"
  rw [pow_264]
  walk_at "nwp"
  refine wp_imp (among_spec hd 0 (2 ^ 64)) ?_
  rintro r μ' ⟨rfl, rfl⟩
  cases ha : amongB d 0 (2 ^ 64) with
  | false =>
    walk_at "nwp"
    exact hP q ds _ ⟨[], by simp⟩ hq hl.1 ok
  | true =>
    obtain ⟨i, rfl⟩ : ∃ i, d = .int i := by
      cases d with
      | int i => exact ⟨i, rfl⟩
      | _ => cases ha
    unfold mLst
    walk_at "nwp"
    rw [fMod_int (by omega)]
    walk_at "nwp"
    obtain ⟨m, hm, hm2⟩ : ∃ m : Nat, n % 1000 = (m : Int) ∧ m < 1000 := ⟨(n % 1000).toNat, by omega, by omega⟩
    rw [hm]
    rw [show ∀ μ, fStrI [.int (m : Int)] μ = .ok (.str (toString (m : Int))) μ from fun μ => by
      simp only [fStrI]
      rw [if_pos]
      have : m < 2 ^ 10 := by omega
      rw [Int.natAbs_natCast]
      by_cases h0 : m = 0
      · rw [h0]; decide
      · have := (Nat.log2_lt h0).mpr this
        omega]
    walk_at "nwp"
    rw [if_pos (sz (by decide))]
    unfold allocR
    walk_at "nwp"
    rw [cat_at (get_app hq) getElem?_mid (by simp; omega)]
    walk_at "nwp"
    refine hP _ _ _ ⟨_, by simp only [List.append_assoc]; rfl⟩ getElem?_mid (by rw [List.length_append]; omega) ?_
    exact .append ok.app.app (.cons (.int _) (.cons (.int _) (.cons (.int _) (.cons (okD_lit (num_pr m hm2)) .nil))))
theorem odd_spec {n : Int} {d : Dat} {μ : Store} (hn : 0 ≤ n) (hd : OkD μ d) (h10 : ∀ es, d = .tup es → es.length ≤ 10) : wp (f__law_odd [.int n, d] μ) fun y μ' => OkD μ' y ∧ ∃ g, μ' = μ ++ g := by
  refine wp_nr ?_
  rw [wp_run]
  unfold b__law_odd
  rw [wps_seq]
  refine oddA_spec hd ?_
  rintro q ds _ ⟨g, rfl⟩ hq hl ok
  dsimp only
  rw [wps_seq]
  refine oddB_spec hq hl ok ?_
  rintro q ds _ ⟨g2, rfl⟩ hq hl ok
  dsimp only
  rw [wps_seq]
  refine oddC_spec hq hl ok ?_
  rintro q ds _ ⟨g3, rfl⟩ hq hl ok
  dsimp only
  rw [wps_seq]
  refine oddD_spec (hd.app.app.app) h10 hq hl ok ?_
  rintro q ds _ ⟨g4, rfl⟩ hq hl ok
  dsimp only
  rw [wps_seq]
  refine oddE_spec hn (hd.app.app.app.app) hq hl ok ?_
  rintro q ds _ ⟨g5, rfl⟩ hq hl ok
  walk_at "nwp"
  generalize hμ : μ ++ g ++ g2 ++ g3 ++ g4 ++ g5 = μ2 at hq ok ⊢
  have hx : ∃ g, μ2 = μ ++ g := ⟨g ++ (g2 ++ (g3 ++ (g4 ++ g5))), by rw [← hμ]; simp only [List.append_assoc]⟩
  obtain ⟨z, hz⟩ : ∃ z : Int, z = (ds.length : Int) := ⟨_, rfl⟩
  rw [show fLenQ [.cell q] μ2 = .ok (.int z) μ2 from by simp only [fLenQ, seqD, lstAt, hq, hz]]
  walk_at "nwp"
  rw [fMod_int (by omega)]
  walk_at "nwp"
  obtain ⟨y, e, hy⟩ := fIxL_at (i := n % z) hq (Int.emod_nonneg _ (by omega)) (by rw [← hz]; exact Int.emod_lt_of_pos _ (by omega))
  rw [e]
  exact ⟨ok y hy, hx⟩
end Nh

namespace Nh
open PySem PySem.Spec PyProof.Rows L2
local macro_rules | `(tactic| walk_at "nwp") => `(tactic| try simp only [wp_bind, wp_ok, wp_nrR, wps_toS, wps_nx, wps_rt, wps_seq, wp_run, wps_if, wp_if, wp_tAnd, wp_tOr, wp_tNot, startD, List.map_cons, List.map_nil, List.length_cons, List.length_nil, Nat.reduceAdd, Nat.reduceSub, List.replicate_succ, List.replicate_zero, List.cons_append, List.nil_append, List.getElem?_cons_zero, List.getElem?_cons_succ, List.set_cons_zero, List.set_cons_succ,
  asB, mVar, mC, mOp, mCB, maCons, maNil, mCall, msRet, msAsg, mgName, msDrop, msNext, msRaise, mTup, mChain, mUn, if_true, if_false, Bool.not_true, Bool.not_false, Bool.false_eq_true, reduceIte, Nat.reduceEqDiff, Nat.reduceLeDiff,
  eq_self_iff_true, true_and, isA_str, inSign_star, inSign_one, notInSign_one, fEq_str, fEq_int, fLe_int, fLt_int, fGt_int, fAdd_int, fSub_int, fNeg_int])
/-! ### spoilt records -/
inductive Pl : Nat → Dat → Prop
  | int (n : Nat) (i : Int) : Pl n (.int i)
  | str (n : Nat) {s : Str} : s.length ≤ 1000 → prS s → Pl n (.str s)
  | tup {n : Nat} {ds : List Dat} : ds.length ≤ 10 → (∀ e ∈ ds, Pl n e) → Pl (n + 1) (.tup ds)
theorem Pl.okD {n : Nat} {d : Dat} (h : Pl n d) (μ : Store) : OkD μ d := by
  induction h with
  | int n i => exact .int i
  | str n h1 h2 => exact .str h1 h2
  | tup hl h ih => exact .tup (by omega) ih
theorem pl_all {f : Dat → Option PyData} {n : Nat} : ∀ {ds : List Dat}, (∀ e ∈ ds, ∃ x, f e = some x ∧ x.canLay0 = true ∧ x.depth ≤ n) → ∃ xs, pyAll f ds = some xs ∧ PyData.canLayAll0 xs = true ∧ PyData.depthAll xs ≤ n ∧ xs.length = ds.length
  | [], _ => ⟨[], rfl, rfl, Nat.zero_le _, rfl⟩
  | d :: r, h => by
    obtain ⟨x, e1, e2, e3⟩ := h d List.mem_cons_self
    obtain ⟨xs, f1, f2, f3, f4⟩ := pl_all fun e he => h e (List.mem_cons_of_mem _ he)
    refine ⟨x :: xs, ?_, ?_, ?_, by rw [List.length_cons, List.length_cons, f4]⟩
    · rw [pyAll, e1, f1]
    · show (x.canLay0 && PyData.canLayAll0 xs) = true
      rw [e2, f2]
      rfl
    · show max x.depth (PyData.depthAll xs) ≤ n
      omega
theorem Pl.py {n : Nat} {d : Dat} (h : Pl n d) : ∀ (μ : Store) (m : Nat), n < m → ∃ e, Nh.py μ m d = some e ∧ e.canLay0 = true ∧ e.depth ≤ n := by
  induction h with
  | int n i =>
    intro μ m hm
    obtain ⟨m, rfl⟩ : ∃ j, m = j + 1 := ⟨m - 1, by omega⟩
    exact ⟨.int i, rfl, rfl, Nat.zero_le _⟩
  | str n h1 h2 =>
    intro μ m hm
    obtain ⟨m, rfl⟩ : ∃ j, m = j + 1 := ⟨m - 1, by omega⟩
    exact ⟨.str _, rfl, h2.ok.strOk, Nat.zero_le _⟩
  | tup hl h ih =>
    intro μ m hm
    obtain ⟨m, rfl⟩ : ∃ j, m = j + 1 := ⟨m - 1, by omega⟩
    obtain ⟨xs, f1, f2, f3, f4⟩ := pl_all fun e he => ih e he μ m (by omega)
    refine ⟨.tuple xs, ?_, f2, ?_⟩
    · show (pyAll (Nh.py μ m) _).map PyData.tuple = _
      rw [f1]
      rfl
    · show PyData.depthAll xs + 1 ≤ _
      omega
theorem eqD_empty {n : Nat} {ds : List Dat} (h : Pl n (.tup ds)) (hn : n ≤ 8) (μ : Store) : fEqD (.tup ds) (.tup []) μ = .ok (.bl ds.isEmpty) μ := by
  cases h with
  | @tup n ds hl h =>
    obtain ⟨xs, f1, f2, f3, f4⟩ := pl_all (f := py μ 11) fun e he => (h e he).py μ 11 (by omega)
    have e1 : py μ 12 (.tup ds) = some (.tuple xs) := by
      show (pyAll (py μ 11) ds).map PyData.tuple = _
      rw [f1]
      rfl
    have s1 : SeqAt.shaped (.tuple xs) = true := by
      unfold SeqAt.shaped
      rw [show (PyData.tuple xs).canLay0 = true from f2, decide_eq_true (show (PyData.tuple xs).depth ≤ 64 by
        show PyData.depthAll xs + 1 ≤ 64
        omega)]
      rfl
    have s2 : SeqAt.shaped (.tuple []) = true := by decide +kernel
    simp only [fEqD, e1, show py μ 12 (.tup []) = some (.tuple []) from rfl, s1, s2, Bool.and_self, if_true]
    cases ds with
    | nil =>
      cases xs with
      | nil => rfl
      | cons x r => cases f4
    | cons d r =>
      cases xs with
      | nil => cases f4
      | cons x r => rfl
theorem spoilt_spec : ∀ (n : Nat) {d : Dat} {ns : List Int} {k : Nat} {r : Store}, Pl n d → n ≤ 8 → k + n ≤ 50000 → wp (fr__law_spoilt (n + 1) [.cell 0, d] (D ns k :: r)) fun y μ' => ∃ (g : Store) (k' : Nat), μ' = D ns k' :: (r ++ g) ∧ k' ≤ k + n + 1 ∧ OkD μ' y := by
  intro n
  induction n with
  | zero =>
    intro d ns k r hp hn hk
    have ht : ¬ ∃ ds, d = .tup ds := by
      rintro ⟨ds, rfl⟩
      cases hp
    unfold fr__law_spoilt
    refine wp_nr ?_
    rw [wp_run]
    unfold br__law_spoilt
    rw [wps_seq]
    walk_at "nwp"
    refine wp_imp (next_spec (by omega) _) ?_
    rintro _ μ' ⟨z, rfl, z0, z1, rfl⟩
    walk_at "nwp"
    rw [isA_ok (hp.okD _) (.inr (.inr (.inr rfl))), tyB_no (t := "tuple") (fun z => ht ((tyB_tup _).mp z))]
    walk_at "nwp"
    rw [fDiv_int (by omega)]
    walk_at "nwp"
    refine wp_imp (odd_spec (by omega) (hp.okD _) fun es e => (ht ⟨es, e⟩).elim) ?_
    rintro y μ' ⟨oy, g, rfl⟩
    exact ⟨g, k + 1, rfl, by omega, oy⟩
  | succ n ih =>
    intro d ns k r hp hn hk
    have h10 : ∀ es, d = .tup es → es.length ≤ 10 := by
      rintro es rfl
      cases hp with
      | tup hl h => exact hl
    unfold fr__law_spoilt
    refine wp_nr ?_
    rw [wp_run]
    unfold br__law_spoilt
    rw [wps_seq]
    walk_at "nwp"
    refine wp_imp (next_spec (by omega) _) ?_
    rintro _ μ' ⟨z, rfl, z0, z1, rfl⟩
    walk_at "nwp"
    rw [isA_ok (hp.okD _) (.inr (.inr (.inr rfl)))]
    walk_at "nwp"
    have odd : wp (fDiv (.int z) (.int 5) (D ns (k + 1) :: r)) fun x μ => wp (f__law_odd [x, d] μ) fun y μ' => ∃ (g : Store) (k' : Nat), μ' = D ns k' :: (r ++ g) ∧ k' ≤ k + (n + 1) + 1 ∧ OkD μ' y := by
      rw [fDiv_int (by omega)]
      walk_at "nwp"
      refine wp_imp (odd_spec (by omega) (hp.okD _) h10) ?_
      rintro y μ' ⟨oy, g, rfl⟩
      exact ⟨g, k + 1, rfl, by omega, oy⟩
    by_cases ht : ∃ ds, d = .tup ds
    · obtain ⟨ds, rfl⟩ := ht
      rw [(tyB_tup _).mpr ⟨ds, rfl⟩]
      walk_at "nwp"
      rw [if_pos (sz (by decide))]
      walk_at "nwp"
      rw [eqD_empty hp hn]
      cases he : ds.isEmpty with
      | true =>
        walk_at "nwp"
        exact odd
      | false =>
        walk_at "nwp"
        rw [fMod_int (by omega)]
        walk_at "nwp"
        by_cases h5 : z % 5 = 0
        · rw [decide_eq_true h5]
          walk_at "nwp"
          exact odd
        · rw [decide_eq_false h5]
          walk_at "nwp"
          have hpos : 0 < ds.length := by
            cases ds with
            | nil => cases he
            | cons a t => exact Nat.succ_pos _
          have hl := h10 ds rfl
          have hes : ∀ e ∈ ds, Pl n e := by
            cases hp with
            | tup hl h => exact h
          rw [fDiv_int (by omega)]
          walk_at "nwp"
          rw [fLenQ_tup]
          walk_at "nwp"
          rw [fMod_int (by omega)]
          walk_at "nwp"
          obtain ⟨a, w, hw, ha, hal⟩ : ∃ (a : Nat) (w : Int), z / 5 % (ds.length : Int) = w ∧ w = (a : Int) ∧ a < ds.length := by
            have b0 := Int.emod_nonneg (z / 5) (show (ds.length : Int) ≠ 0 by omega)
            have b1 := Int.emod_lt_of_pos (z / 5) (show (0 : Int) < ds.length by omega)
            exact ⟨(z / 5 % (ds.length : Int)).toNat, _, rfl, by omega, by omega⟩
          rw [hw]
          unfold mSl moPart moNone
          walk_at "nwp"
          rw [show ∀ μ, fSlT (.tup ds) none (some w) μ = .ok (.tup (ds.take a)) μ from fun μ => by
            show Res.ok (Dat.tup (cutD ds none (some w))) μ = _
            rw [ha, cutD_to]]
          walk_at "nwp"
          rw [show ∀ μ, fIxT (.tup ds) (.int w) μ = .ok ds[a] μ from fun μ => by
            simp only [fIxT]
            rw [ha, atI_nat (List.getElem?_eq_getElem hal)]]
          walk_at "nwp"
          have pe := hes ds[a] (List.getElem_mem hal)
          refine wp_imp (ih pe (by omega) (by omega)) ?_
          rintro y μ' ⟨g, k', rfl, hk', oy⟩
          walk_at "nwp"
          rw [if_pos (sz (by decide))]
          walk_at "nwp"
          rw [show ∀ μ, fCatT (.tup (ds.take a)) (.tup [y]) μ = .ok (.tup (ds.take a ++ [y])) μ from fun μ => by
            simp only [fCatT]
            rw [if_pos (sz (by rw [List.length_take, List.length_singleton]; omega))]]
          walk_at "nwp"
          rw [show ∀ μ, fSlT (.tup ds) (some (w + 1)) none μ = .ok (.tup (ds.drop (a + 1))) μ from fun μ => by
            show Res.ok (Dat.tup (cutD ds (some (w + 1)) none)) μ = _
            rw [ha, show (a : Int) + 1 = ((a + 1 : Nat) : Int) by omega, cutD_from]]
          walk_at "nwp"
          rw [show ∀ μ, fCatT (.tup (ds.take a ++ [y])) (.tup (ds.drop (a + 1))) μ = .ok (.tup (ds.take a ++ [y] ++ ds.drop (a + 1))) μ from fun μ => by
            simp only [fCatT]
            rw [if_pos (sz (by rw [List.length_append, List.length_take, List.length_singleton, List.length_drop]; omega))]]
          refine ⟨g, k', rfl, by omega, okD_tups (by rw [List.length_append, List.length_append, List.length_take, List.length_singleton, List.length_drop]; omega) (.append (.append (fun e he => ?_) (.cons oy .nil)) fun e he => ?_)⟩
          · exact (hes e (List.mem_of_mem_take he)).okD _
          · exact (hes e (List.mem_of_mem_drop he)).okD _
    · rw [tyB_no (t := "tuple") (fun z => ht ((tyB_tup _).mp z))]
      walk_at "nwp"
      exact odd
theorem pl_name {n : Nat} {ss : List Str} (h : isNameS ss = true) : Pl (n + 1) (tupN ss) := by
  refine .tup (by rw [List.length_map]; have := isNameS_len h; omega) fun e he => ?_
  obtain ⟨s, hs, rfl⟩ := List.mem_map.mp he
  have := label_len (isNameS_lab h s hs)
  exact .str _ (by omega) (label_pr (isNameS_lab h s hs))
theorem pl_kinds {n : Nat} {ss : List Str} (h : ∀ s ∈ ss, s ∈ KS) (hl : ss.length ≤ 10) : Pl (n + 1) (tupN ss) := by
  refine .tup (by rw [List.length_map]; exact hl) fun e he => ?_
  obtain ⟨s, hs, rfl⟩ := List.mem_map.mp he
  have := KS_pr s (h s hs)
  exact .str _ (by omega) this.2
theorem Dt.fits.pl {k : Str} {x : Dt} (h : x.fits k) : Pl 3 x.d := by
  cases x with
  | num i => exact .int _ i
  | txt s => exact .str _ (by have := h.2.1; omega) h.2.2
  | nam ss => exact pl_name h.2.1
  | top v n =>
    refine .tup (by simp) fun e he => ?_
    rcases List.mem_cons.mp he with rfl | he
    · exact .int _ _
    · rw [List.mem_singleton.mp he]; exact .int _ _
  | sea o y z =>
    have := KS_pr o h.2.1.1
    refine .tup (by simp) fun e he => ?_
    rcases List.mem_cons.mp he with rfl | he
    · exact .str _ (by omega) this.2
    rcases List.mem_cons.mp he with rfl | he
    · exact .int _ _
    · rw [List.mem_singleton.mp he]; exact .int _ _
  | gap n ks =>
    refine .tup (by simp) fun e he => ?_
    rcases List.mem_cons.mp he with rfl | he
    · exact pl_name h.2.1
    · rw [List.mem_singleton.mp he]; exact pl_kinds h.2.2.1 (by have := h.2.2.2.1; omega)
theorem Rec.Good.pl {r : Rec} (h : r.Good) : Pl 4 r.d := by
  have := KS_pr r.k h.hk
  refine .tup (by simp) fun e he => ?_
  rcases List.mem_cons.mp he with rfl | he
  · exact pl_name h.hn
  rcases List.mem_cons.mp he with rfl | he
  · exact .str _ (by omega) this.2
  rcases List.mem_cons.mp he with rfl | he
  · exact .int _ _
  · rw [List.mem_singleton.mp he]; exact h.hx.pl
theorem SR.spoilt {ns : List Int} {L : List Str} {c kn k : Nat} {rl : List Rec} {μ : Store} (h : SR ns L c kn rl k μ) (hk : k ≤ 40000) {x : Rec} (gx : x.Good) : wp (f__law_spoilt [.cell 0, x.d] μ) fun y μ' => ∃ (k' : Nat), OkD μ' y ∧ k' ≤ k + 5 ∧ SR ns L c kn rl k' μ' ∧ ∀ j z, 1 ≤ j → μ[j]? = some z → μ'[j]? = some z := by
  obtain ⟨h0, r, rfl, h1, h2⟩ := h
  refine wp_imp (spoilt_spec 4 gx.pl (by omega) (by omega)) ?_
  rintro y μ' ⟨g, k', rfl, hk', oy⟩
  refine ⟨k', oy, hk', ⟨h0, r ++ g, rfl, get_app h1, get_app h2⟩, fun j y hj hy => ?_⟩
  obtain ⟨i, rfl⟩ : ∃ i, j = i + 1 := ⟨j - 1, by omega⟩
  rw [List.getElem?_cons_succ] at hy ⊢
  exact get_app hy
end Nh

namespace Nh
open PySem PySem.Spec PyProof.Rows L2
local macro_rules | `(tactic| walk_at "nwp") => `(tactic| try simp only [wp_bind, wp_ok, wp_nrR, wps_toS, wps_nx, wps_rt, wps_seq, wp_run, wps_if, wp_if, wp_tAnd, wp_tOr, wp_tNot, startD, List.map_cons, List.map_nil, List.length_cons, List.length_nil, Nat.reduceAdd, Nat.reduceSub, List.replicate_succ, List.replicate_zero, List.cons_append, List.nil_append, List.getElem?_cons_zero, List.getElem?_cons_succ, List.set_cons_zero, List.set_cons_succ,
  asB, mVar, mC, mOp, mCB, maCons, maNil, mCall, msRet, msAsg, mgName, msDrop, msNext, msRaise, mTup, mChain, mUn, if_true, if_false, Bool.not_true, Bool.not_false, Bool.false_eq_true, reduceIte, Nat.reduceEqDiff, Nat.reduceLeDiff,
  eq_self_iff_true, true_and, isA_str, inSign_star, inSign_one, notInSign_one, fEq_str, fEq_int, fLe_int, fLt_int, fGt_int, fAdd_int, fSub_int, fNeg_int])
/-! ### the law's own statements -/
def lf0 : MS := msAsg (mCall 2 f__law_record (maCons (mVar 1) (maCons (mVar 2) maNil))) (mgName 8)
def lf1 : MS := msAsg (mCall 2 f__law_spoilt (maCons (mVar 1) (maCons (mVar 8) maNil))) (mgName 9)
def lf2 : MS := msAsg (mCall 1 f_is_record (maCons (mVar 9) maNil)) (mgName 10)
def lf3 : MS := msIf (mtOr (asB (mOp fNotB (mCall 1 f_is_record (maCons (mVar 8) maNil)) (mC (.bl true)))) (mtOr (mtNot (asB (mCB (fIsA tab) (maCons (mVar 10) (maCons (mC (.ty "bool")) maNil))))) (asB (mOp fNe (mVar 10) (mCall 1 f__law_is_record (maCons (mVar 9) maNil)))))) (msRet (mC (.bl false))) msNext
def lf4 : MS := msAsg (mCall 1 f__law_next (maCons (mVar 1) maNil)) (mgName 11)
def lf5 : MS := msAsg (mOp fMod (mVar 11) (mOp fAdd (mCB fLenQ (maCons (mVar 3) maNil)) (mC (.int 1)))) (mgName 12)
def lf6 : MS := msIf (mtAnd (mtNot (asB (mVar 10))) (mtNot (asB (mCall 1 f__law_word (maCons (mOp fCat (mOp fCat (mSl fSlL (mVar 3) moNone (moPart (mVar 12))) (mLst (maCons (mVar 9) maNil))) (mSl fSlL (mVar 3) (moPart (mVar 12)) moNone)) maNil))))) (msRet (mC (.bl false))) msNext
def lfBody : MS := msSeq lf0 (msSeq lf1 (msSeq lf2 (msSeq lf3 (msSeq lf4 (msSeq lf5 (lf6))))))
def lb0 : MS := msAsg (mDisp [(mC (.str "cells"), mVar 0), (mC (.str "at"), mC (.int 0))]) (mgName 1)
def lb1 : MS := msAsg (mCall 1 f__law_labels (maCons (mVar 1) maNil)) (mgName 2)
def lb2 : MS := msIf (mtOr (mtNot (asB (mCB (fIsA tab) (maCons (mC (.ct k_KINDS)) (maCons (mC (.ty "tuple")) maNil))))) (asB (mOp fNeD (mC (.ct k_KINDS)) (mCall 0 f__law_kinds maNil)))) (msRet (mC (.bl false))) msNext
def lb3 : MS := msAsg (mCall 2 f__law_some (maCons (mVar 1) (maCons (mVar 2) maNil))) (mgName 3)
def lb4 : MS := msAsg (mCall 1 f__law_sorted (maCons (mVar 3) maNil)) (mgName 4)
def lb5 : MS := msAsg (mCB fListOf (maCons (mVar 3) maNil)) (mgName 5)
def lb6 : MS := msAsg (mCall 1 f_ordered (maCons (mVar 5) maNil)) (mgName 6)
def lb7 : MS := msIf (mtOr (mtNot (asB (mCB (fIsA tab) (maCons (mVar 6) (maCons (mC (.ty "list")) maNil))))) (mtOr (asB (mOp fNeD (mVar 6) (mVar 4))) (mtOr (asB (mOp fNeD (mVar 5) (mVar 3))) (asB (mOp fNeD (mCall 1 f_ordered (maCons (mBack fBackL (mVar 3) (moPart (mUn fNeg (mC (.int 1))))) maNil)) (mVar 4)))))) (msRet (mC (.bl false))) msNext
def lb8 : MS := msDrop (mBM fAppend (mVar 6) (maCons (mC .non) maNil))
def lb9 : MS := msIf (asB (mOp fNeD (mCall 1 f_ordered (maCons (mVar 5) maNil)) (mVar 4))) (msRet (mC (.bl false))) msNext
def lb10 : MS := msFor (miRange1 (maCons (mC (.int 4)) maNil)) (mgName 7) lfBody
def lb11 : MS := msRet (mCall 1 f__law_word (maCons (mOp fIxL (mLst (maCons (mC .non) (maCons (mCB fTupleOf (maCons (mVar 3) maNil)) (maCons (mC (.str "records")) (maCons mDNew (maCons (mC (.int 5)) maNil)))))) (mOp fMod (mCall 1 f__law_next (maCons (mVar 1) maNil)) (mC (.int 5)))) maNil))
theorem b_law_is : b_law = msSeq lb0 (msSeq lb1 (msSeq lb2 (msSeq lb3 (msSeq lb4 (msSeq lb5 (msSeq lb6 (msSeq lb7 (msSeq lb8 (msSeq lb9 (msSeq lb10 (lb11))))))))))) := rfl
theorem OkD.next {ns : List Int} {k k' : Nat} {r : Store} {d : Dat} (h : OkD (D ns k :: r) d) : OkD (D ns k' :: r) d := by
  generalize hμ : D ns k :: r = μ at h
  induction h with
  | non => exact .non
  | bl b => exact .bl b
  | int i => exact .int i
  | str h1 h2 => exact .str h1 h2
  | tup hl h ih => exact .tup hl fun e he => ih e he
  | @cell j t h1 h2 =>
    subst hμ
    cases j with
    | zero => exact .cell (t := t) h1 h2
    | succ j => exact .cell (t := t) h1 h2
theorem fNe_bl (a b : Bool) (μ : Store) : fNe (.bl a) (.bl b) μ = .ok (.bl (!decide (a = b))) μ := by
  simp only [fNe, toV, scal, V.bl.injEq, if_true]
theorem okD_recs {rl : List Rec} (h : Goods rl) (μ : Store) : AllOk μ (rl.map Rec.d) := fun e he => by
  obtain ⟨r, hr, rfl⟩ := List.mem_map.mp he
  exact (h r hr).okD μ
theorem sl_cell {μ : Store} {q : Nat} {ds : List Dat} (h : μ[q]? = some (.lst ds)) (lo hi : Option Int) : fSlL (.cell q) lo hi μ = .ok (.cell μ.length) (μ ++ [.lst (cutD ds lo hi)]) := by
  unfold fSlL
  rw [show lstAt μ (.cell q) = some ds from by simp only [lstAt, h]]
  rfl
section
variable {ns : List Int} {L : List Str} {c kn k : Nat} {rl : List Rec} {μ : Store} {x0 x4 x5 x6 x7 x8 x9 x10 x11 x12 : Option Dat}
theorem lf_spec {P : Ps} (h : SR ns L c kn rl k μ) (hk : k ≤ 30000) (hl : L.length = 5) (hG : ∀ l ∈ L, GL l) (hR : Goods rl) (hn : rl.length ≤ 9)
    (hP : ∀ x8 x9 x10 x11 x12 k' μ', k' ≤ k + 60 → SR ns L c kn rl k' μ' → (∀ j z, 1 ≤ j → μ[j]? = some z → μ'[j]? = some z) → P.nx [x0, some (.cell 0), some (.cell (c + 1)), some (.cell (kn + 1)), x4, x5, x6, x7, x8, x9, x10, x11, x12] μ') :
    wps (lfBody [x0, some (.cell 0), some (.cell (c + 1)), some (.cell (kn + 1)), x4, x5, x6, x7, x8, x9, x10, x11, x12] μ) P := by
  unfold lfBody
  rw [wps_seq]
  unfold lf0
  walk_at "nwp"
  refine wp_imp (h.record (by omega) hl hG) ?_
  rintro d μ1 ⟨x, k1, rfl, gx, hk1, h1, kp1⟩
  unfold lf1
  walk_at "nwp"
  refine wp_imp (h1.spoilt (by omega) gx) ?_
  rintro y μ2 ⟨k2, oy, hk2, h2, kp2⟩
  unfold lf2
  walk_at "nwp"
  refine wp_imp (is_record_spec oy) ?_
  rintro d μ' ⟨rfl, g3, rfl⟩
  unfold lf3
  walk_at "nwp"
  refine wp_imp (is_record_spec (gx.okD _)) ?_
  rintro d μ' ⟨rfl, g4, rfl⟩
  rw [gx.recB]
  walk_at "nwp"
  rw [show ∀ μ, fNotB (.bl true) (.bl true) μ = .ok (.bl false) μ from fun _ => rfl]
  walk_at "nwp"
  rw [isA_k (k := "bool") (b := true) rfl (by decide +kernel)]
  walk_at "nwp"
  refine wp_imp (law_record_spec oy.app.app) ?_
  rintro d μ' ⟨rfl, g5, rfl⟩
  rw [fNe_bl, decide_eq_true rfl]
  walk_at "nwp"
  have h5 := (h2.app (g := g3)).app (g := g4) |>.app (g := g5)
  have oy5 : OkD (μ2 ++ g3 ++ g4 ++ g5) y := oy.app.app.app
  have kp5 : ∀ j z, 1 ≤ j → μ[j]? = some z → (μ2 ++ g3 ++ g4 ++ g5)[j]? = some z := fun j z hj hz => get_app (get_app (get_app (kp2 j z hj (kp1 j z hj hz))))
  generalize μ2 ++ g3 ++ g4 ++ g5 = μ5 at h5 oy5 kp5 ⊢
  unfold lf4
  walk_at "nwp"
  obtain ⟨h0, r, rfl, e1, e2⟩ := h5
  refine wp_imp (next_spec (by omega) r) ?_
  rintro d μ' ⟨n, rfl, n0, n1, rfl⟩
  have h6 : SR ns L c kn rl (k2 + 1) (D ns (k2 + 1) :: r) := ⟨h0, r, rfl, e1, e2⟩
  have oy6 : OkD (D ns (k2 + 1) :: r) y := oy5.next
  have kp6 : ∀ j z, 1 ≤ j → μ[j]? = some z → (D ns (k2 + 1) :: r)[j]? = some z := fun j z hj hz => by
    have := kp5 j z hj hz
    obtain ⟨i, rfl⟩ : ∃ i, j = i + 1 := ⟨j - 1, by omega⟩
    exact this
  generalize D ns (k2 + 1) :: r = μ6 at h6 oy6 kp6 ⊢
  unfold lf5
  walk_at "nwp"
  obtain ⟨z, hz⟩ : ∃ z : Int, z = (rl.length : Int) := ⟨_, rfl⟩
  rw [show fLenQ [.cell (kn + 1)] μ6 = .ok (.int z) μ6 from by
    simp only [fLenQ, seqD, lstAt, h6.rc, hz]
    rw [List.length_map]]
  walk_at "nwp"
  rw [fMod_int (by omega)]
  walk_at "nwp"
  unfold lf6
  walk_at "nwp"
  cases hb : recB y with
  | true =>
    walk_at "nwp"
    exact hP _ _ _ _ _ _ _ (by omega) h6 kp6
  | false =>
    unfold mSl moPart moNone mLst
    walk_at "nwp"
    rw [sl_cell h6.rc]
    walk_at "nwp"
    rw [if_pos (sz (by decide))]
    unfold allocR
    walk_at "nwp"
    have hc1 := len_cutD (rl.map Rec.d) none (some (n % (z + 1)))
    have hc2 := len_cutD (rl.map Rec.d) (some (n % (z + 1))) none
    rw [List.length_map] at hc1 hc2
    rw [cat_at (get_app getElem?_mid) getElem?_mid (by rw [List.length_singleton]; omega)]
    walk_at "nwp"
    rw [sl_cell (get_app (get_app (get_app h6.rc)))]
    walk_at "nwp"
    rw [cat_at (get_app getElem?_mid) getElem?_mid (by rw [List.length_append, List.length_singleton]; omega)]
    walk_at "nwp"
    have m1 : ∀ e ∈ cutD (rl.map Rec.d) none (some (n % (z + 1))), e ∈ rl.map Rec.d := fun e he => mem_cutD he
    have m2 : ∀ e ∈ cutD (rl.map Rec.d) (some (n % (z + 1))) none, e ∈ rl.map Rec.d := fun e he => mem_cutD he
    generalize cutD (rl.map Rec.d) none (some (n % (z + 1))) = c1 at hc1 m1 ⊢
    generalize cutD (rl.map Rec.d) (some (n % (z + 1))) none = c2 at hc2 m2 ⊢
    refine wp_imp (word_spec (ordered_bad getElem?_mid (by rw [List.length_append, List.length_append, List.length_singleton]; omega) (fun e he => ?_) ?_)) ?_
    · rcases List.mem_append.mp he with he | he
      · rcases List.mem_append.mp he with he | he
        · exact okD_recs hR _ e (m1 e he)
        · rw [List.mem_singleton.mp he]
          simp only [List.append_assoc]
          exact oy6.app
      · exact okD_recs hR _ e (m2 e he)
    · rw [List.all_append, List.all_append]
      simp [hb]
    · rintro d μ' ⟨rfl, g, rfl⟩
      walk_at "nwp"
      refine hP _ _ _ _ _ (k2 + 1) _ (by omega) ?_ ?_
      · simp only [List.append_assoc]
        exact h6.app
      · intro j w hj hw
        simp only [List.append_assoc]
        exact get_app (kp6 j w hj hw)
theorem last_spec {P : Ps} (hP : ∀ μ, P.rt (.bl true) μ) (h : SR ns L c kn rl k μ) (hk : k ≤ 40000) (hR : Goods rl) :
    wps (lb11 [x0, some (.cell 0), some (.cell (c + 1)), some (.cell (kn + 1)), x4, x5, x6, x7, x8, x9, x10, x11, x12] μ) P := by
  unfold lb11 mLst mDNew
  walk_at "nwp"
  rw [show fTupleOf [.cell (kn + 1)] μ = .ok (.tup (rl.map Rec.d)) μ from by
    unfold fTupleOf seqD
    dsimp only
    rw [show lstAt μ (.cell (kn + 1)) = some (rl.map Rec.d) from by simp only [lstAt, h.rc]]]
  unfold allocR
  walk_at "nwp"
  rw [if_pos (sz (by decide))]
  walk_at "nwp"
  have hq : (μ ++ [Cell.dict []] ++ [.lst [.non, .tup (rl.map Rec.d), .str "records", .cell μ.length, .int 5]])[(μ ++ [Cell.dict []]).length]? = some (.lst [.non, .tup (rl.map Rec.d), .str "records", .cell μ.length, .int 5]) := getElem?_mid
  have hdic : (μ ++ [Cell.dict []] ++ [.lst [.non, .tup (rl.map Rec.d), .str "records", .cell μ.length, .int 5]])[μ.length]? = some (.dict []) := get_app getElem?_mid
  have h2 := (h.app (g := [.dict []])).app (g := [.lst [.non, .tup (rl.map Rec.d), .str "records", .cell μ.length, .int 5]])
  have l1 : 1 ≤ μ.length := by have := h.lt; omega
  have l2 : 1 ≤ (μ ++ [Cell.dict []]).length := by rw [List.length_append]; omega
  generalize (μ ++ [Cell.dict []]).length = q at hq l2 ⊢
  generalize μ ++ [Cell.dict []] ++ [.lst [.non, .tup (rl.map Rec.d), .str "records", .cell μ.length, .int 5]] = μ2 at hq hdic h2 ⊢
  generalize μ.length = qd at hq hdic l1 ⊢
  obtain ⟨h0, r, rfl, e1, e2⟩ := h2
  refine wp_imp (next_spec (by omega) r) ?_
  rintro d μ' ⟨n, rfl, n0, n1, rfl⟩
  walk_at "nwp"
  rw [fMod_int (by omega)]
  walk_at "nwp"
  obtain ⟨q', rfl⟩ : ∃ i, q = i + 1 := ⟨q - 1, by omega⟩
  obtain ⟨qd', rfl⟩ : ∃ i, qd = i + 1 := ⟨qd - 1, by omega⟩
  have hq2 : (D ns (k + 1) :: r)[q' + 1]? = some (.lst [.non, .tup (rl.map Rec.d), .str "records", .cell (qd' + 1), .int 5]) := hq
  have hd2 : (D ns (k + 1) :: r)[qd' + 1]? = some (.dict []) := hdic
  obtain ⟨y, e, hy⟩ := fIxL_at (i := n % 5) hq2 (by omega) (by simp; omega)
  rw [e]
  walk_at "nwp"
  refine wp_imp (word_spec ?_) fun d μ' z => by rw [z.1]; exact hP _
  simp only [List.mem_cons, List.not_mem_nil, or_false] at hy
  rcases hy with rfl | rfl | rfl | rfl | rfl
  · exact ordered_other (k := "NoneType") rfl (by decide +kernel)
  · exact ordered_other (k := "tuple") rfl (by decide +kernel)
  · exact ordered_other (k := "str") rfl (by decide +kernel)
  · refine ordered_other (k := "dict") ?_ (by decide +kernel)
    simp only [tyD, kindD, hd2]
    rfl
  · exact ordered_other (k := "int") rfl (by decide +kernel)
end
end Nh

namespace Nh
open PySem PySem.Spec PyProof.Rows L2
local macro_rules | `(tactic| walk_at "nwp") => `(tactic| try simp only [wp_bind, wp_ok, wp_nrR, wps_toS, wps_nx, wps_rt, wps_seq, wp_run, wps_if, wp_if, wp_tAnd, wp_tOr, wp_tNot, startD, List.map_cons, List.map_nil, List.length_cons, List.length_nil, Nat.reduceAdd, Nat.reduceSub, List.replicate_succ, List.replicate_zero, List.cons_append, List.nil_append, List.getElem?_cons_zero, List.getElem?_cons_succ, List.set_cons_zero, List.set_cons_succ,
  asB, mVar, mC, mOp, mCB, maCons, maNil, mCall, msRet, msAsg, mgName, msDrop, msNext, msRaise, mTup, mChain, mUn, if_true, if_false, Bool.not_true, Bool.not_false, Bool.false_eq_true, reduceIte, Nat.reduceEqDiff, Nat.reduceLeDiff,
  eq_self_iff_true, true_and, isA_str, inSign_star, inSign_one, notInSign_one, fEq_str, fEq_int, fLe_int, fLt_int, fGt_int, fAdd_int, fSub_int, fNeg_int])
/-! ### the law -/
theorem goods_merge {rl : List Rec} (h : Goods rl) : Goods (rl.mergeSort leR) := fun a ha => h a ((List.mergeSort_perm rl leR).mem_iff.mp ha)
theorem merge_is {rl out : List Rec} (h : Goods rl) (hp : out.Perm rl) (hs : out.Pairwise fun a b => leR a b = true) : out = rl.mergeSort leR := by
  refine List.Perm.eq_of_pairwise (le := fun a b => leR a b = true) (fun a b ha hb x y => leR_anti (h a (hp.mem_iff.mp ha)) ?_ x y) hs (List.pairwise_mergeSort leR_trans leR_total rl) (hp.trans (List.mergeSort_perm rl leR).symm)
  exact h b (by
    first | exact hp.mem_iff.mp hb | exact (List.mergeSort_perm rl leR).mem_iff.mp hb)
theorem merge_rev {rl : List Rec} (h : Goods rl) : rl.reverse.mergeSort leR = rl.mergeSort leR :=
  merge_is h ((List.mergeSort_perm _ _).trans (List.reverse_perm rl)) (List.pairwise_mergeSort leR_trans leR_total _)
structure FK (ns : List Int) (L : List Str) (c kn : Nat) (rl : List Rec) (k q4 q5 : Nat) (μ : Store) : Prop where
  s : SR ns L c kn rl k μ
  g4 : μ[q4]? = some (.lst ((rl.mergeSort leR).map Rec.d))
  g5 : μ[q5]? = some (.lst (rl.map Rec.d))
  n4 : 1 ≤ q4
  n5 : 1 ≤ q5
section
variable {ns : List Int} {L : List Str} {c kn k q4 q5 : Nat} {rl : List Rec} {μ g : Store} {x0 x4 x5 x6 x7 x8 x9 x10 x11 x12 : Option Dat}
theorem FK.app (h : FK ns L c kn rl k q4 q5 μ) : FK ns L c kn rl k q4 q5 (μ ++ g) := ⟨h.s.app, get_app h.g4, get_app h.g5, h.n4, h.n5⟩
theorem rest_spec {P : Ps} (hP : ∀ μ, P.rt (.bl true) μ) (h : SR ns L c kn rl k μ) (hk : k ≤ 20000) (hl : L.length = 5) (hG : ∀ l ∈ L, GL l) (hR : Goods rl) (hn : rl.length ≤ 9) :
    wps ((msSeq lb4 (msSeq lb5 (msSeq lb6 (msSeq lb7 (msSeq lb8 (msSeq lb9 (msSeq lb10 lb11))))))) [x0, some (.cell 0), some (.cell (c + 1)), some (.cell (kn + 1)), x4, x5, x6, x7, x8, x9, x10, x11, x12] μ) P := by
  have hsm := goods_merge hR
  rw [wps_seq]
  unfold lb4
  walk_at "nwp"
  refine wp_imp (rsorted_spec h.rc hn hR) ?_
  rintro d μ1 ⟨rfl, out, rfl, hp, hs⟩
  have eo := merge_is hR hp hs
  subst eo
  unfold lb5
  walk_at "nwp"
  rw [show fListOf [.cell (kn + 1)] (μ ++ [.lst ((rl.mergeSort leR).map Rec.d)]) = .ok (.cell (μ ++ [Cell.lst ((rl.mergeSort leR).map Rec.d)]).length) (μ ++ [.lst ((rl.mergeSort leR).map Rec.d)] ++ [.lst (rl.map Rec.d)]) from by
    unfold fListOf seqD
    dsimp only
    rw [show lstAt (μ ++ [.lst ((rl.mergeSort leR).map Rec.d)]) (.cell (kn + 1)) = some (rl.map Rec.d) from by simp only [lstAt, h.app.rc]]
    rfl]
  walk_at "nwp"
  have hlt := h.lt
  have F : FK ns L c kn rl k μ.length (μ ++ [Cell.lst ((rl.mergeSort leR).map Rec.d)]).length (μ ++ [.lst ((rl.mergeSort leR).map Rec.d)] ++ [.lst (rl.map Rec.d)]) :=
    ⟨h.app.app, get_app getElem?_mid, getElem?_mid, by omega, by rw [List.length_append]; omega⟩
  have l5 : (μ ++ [Cell.lst ((rl.mergeSort leR).map Rec.d)]).length < (μ ++ [Cell.lst ((rl.mergeSort leR).map Rec.d)] ++ [Cell.lst (rl.map Rec.d)]).length := by simp
  have l4 : μ.length < (μ ++ [Cell.lst ((rl.mergeSort leR).map Rec.d)] ++ [Cell.lst (rl.map Rec.d)]).length := by simp
  have l3 : kn + 1 < (μ ++ [Cell.lst ((rl.mergeSort leR).map Rec.d)] ++ [Cell.lst (rl.map Rec.d)]).length := by omega
  generalize μ.length = q4 at F l4 ⊢
  generalize (μ ++ [Cell.lst ((rl.mergeSort leR).map Rec.d)]).length = q5 at F l5 ⊢
  generalize μ ++ [Cell.lst ((rl.mergeSort leR).map Rec.d)] ++ [.lst (rl.map Rec.d)] = μ2 at F l3 l4 l5 ⊢
  unfold lb6
  walk_at "nwp"
  refine wp_imp (ordered_good F.g5 (by omega) hR (R := fun _ _ => False)) ?_
  rintro d μ3 ⟨g, rfl, rfl⟩
  have g6 : (μ2 ++ g ++ [Cell.lst ((rl.mergeSort leR).map Rec.d)])[(μ2 ++ g).length]? = some (.lst ((rl.mergeSort leR).map Rec.d)) := getElem?_mid
  have F3 : FK ns L c kn rl k q4 q5 (μ2 ++ g ++ [Cell.lst ((rl.mergeSort leR).map Rec.d)]) := F.app.app
  have n6 : kn + 1 < (μ2 ++ g).length ∧ (μ2 ++ g).length ≠ q4 ∧ (μ2 ++ g).length ≠ q5 := by
    rw [List.length_append]
    omega
  generalize (μ2 ++ g).length = q6 at g6 n6 ⊢
  generalize μ2 ++ g ++ [Cell.lst ((rl.mergeSort leR).map Rec.d)] = μ3 at F3 g6 ⊢
  unfold lb7
  walk_at "nwp"
  rw [isA_k (k := "list") (b := true) (by simp only [tyD, kindD, g6]; rfl) (by decide +kernel)]
  walk_at "nwp"
  rw [neD_recs g6 F3.g4 hsm]
  walk_at "nwp"
  rw [neD_recs F3.g5 F3.s.rc hR]
  unfold mBack moPart
  walk_at "nwp"
  rw [show fBackL (.cell (kn + 1)) μ3 = .ok (.cell μ3.length) (μ3 ++ [.lst (rl.reverse.map Rec.d)]) from by
    unfold fBackL
    rw [show lstAt μ3 (.cell (kn + 1)) = some (rl.map Rec.d) from by simp only [lstAt, F3.s.rc]]
    rw [List.map_reverse]
    rfl]
  walk_at "nwp"
  refine wp_imp (ordered_good (rl := rl.reverse) getElem?_mid (by rw [List.length_reverse]; omega) (fun a ha => hR a (List.mem_reverse.mp ha)) (R := fun _ _ => False)) ?_
  rintro d μ4 ⟨g4, rfl, rfl⟩
  rw [merge_rev hR]
  walk_at "nwp"
  rw [neD_recs (rl := rl.mergeSort leR) getElem?_mid (get_app (get_app (get_app F3.g4))) hsm]
  walk_at "nwp"
  have F4 : FK ns L c kn rl k q4 q5 (μ3 ++ [Cell.lst (rl.reverse.map Rec.d)] ++ g4 ++ [.lst ((rl.mergeSort leR).map Rec.d)]) := F3.app.app.app
  have g6' : (μ3 ++ [Cell.lst (rl.reverse.map Rec.d)] ++ g4 ++ [.lst ((rl.mergeSort leR).map Rec.d)])[q6]? = some (.lst ((rl.mergeSort leR).map Rec.d)) := get_app (get_app (get_app g6))
  generalize μ3 ++ [Cell.lst (rl.reverse.map Rec.d)] ++ g4 ++ [.lst ((rl.mergeSort leR).map Rec.d)] = μ4 at F4 g6' ⊢
  unfold lb8 mBM
  walk_at "nwp"
  rw [show lstAt μ4 (.cell q6) = some ((rl.mergeSort leR).map Rec.d) from by simp only [lstAt, g6'], if_pos (show (some ((rl.mergeSort leR).map Rec.d)).isSome = true from rfl)]
  walk_at "nwp"
  rw [app_at g6' (by rw [List.length_map, List.length_mergeSort]; omega)]
  walk_at "nwp"
  have F5 : FK ns L c kn rl k q4 q5 (μ4.set q6 (.lst ((rl.mergeSort leR).map Rec.d ++ [.non]))) :=
    ⟨F4.s.setHigh n6.1, by rw [List.getElem?_set_ne n6.2.1]; exact F4.g4, by rw [List.getElem?_set_ne n6.2.2]; exact F4.g5, F4.n4, F4.n5⟩
  generalize μ4.set q6 (.lst ((rl.mergeSort leR).map Rec.d ++ [.non])) = μ5 at F5 ⊢
  unfold lb9
  walk_at "nwp"
  refine wp_imp (ordered_good F5.g5 (by omega) hR (R := fun _ _ => False)) ?_
  rintro d μ6 ⟨g6, rfl, rfl⟩
  walk_at "nwp"
  rw [neD_recs (rl := rl.mergeSort leR) getElem?_mid (get_app (get_app F5.g4)) hsm]
  walk_at "nwp"
  have S6 : SR ns L c kn rl k (μ5 ++ g6 ++ [.lst ((rl.mergeSort leR).map Rec.d)]) := F5.s.app.app
  generalize μ5 ++ g6 ++ [.lst ((rl.mergeSort leR).map Rec.d)] = μ6 at S6 ⊢
  unfold lb10
  rw [msFor_q (lo := 0) (n := 4) (μ1 := μ6) (range_src (j := 4) (by omega) _ μ6)]
  refine wps_for (s := srcQ 0 4) (rangeD 0 4) (fun i δ μ => ∃ x7 x8 x9 x10 x11 x12 k2, δ = [x0, some (.cell 0), some (.cell (c + 1)), some (.cell (kn + 1)), some (.cell q4), some (.cell q5), some (.cell q6), x7, x8, x9, x10, x11, x12] ∧ SR ns L c kn rl k2 μ ∧ k2 ≤ k + 60 * i) rfl (rangeD_len _ _).symm (fun _ _ => rfl) (fun _ => rfl) ⟨_, _, _, _, _, _, k, rfl, S6, by omega⟩ ?_ ?_
  · rintro i d δ μ hd ⟨x7, x8, x9, x10, x11, x12, k2, rfl, S, hk2⟩
    obtain ⟨hi, rfl⟩ := rangeD_get hd
    refine ⟨[x0, some (.cell 0), some (.cell (c + 1)), some (.cell (kn + 1)), some (.cell q4), some (.cell q5), some (.cell q6), some (.int (0 + (i : Nat))), x8, x9, x10, x11, x12], rfl, ?_⟩
    refine lf_spec S (by omega) hl hG hR hn ?_
    intro x8 x9 x10 x11 x12 k3 μ3 hk3 S3 _
    exact ⟨_, _, _, _, _, _, k3, rfl, S3, by omega⟩
  · rintro δ μ ⟨x7, x8, x9, x10, x11, x12, k2, rfl, S, hk2⟩
    rw [rangeD_len] at hk2
    exact last_spec hP S (by omega) hR
theorem law_wp (ns : List Int) : wp (f_law [.ro ns] []) fun d _ => d = .bl true := by
  unfold f_law
  rw [wp_run, b_law_is, wps_seq]
  unfold lb0
  walk_at "nwp"
  rw [show ∀ δ, δ[0]? = some (some (.ro ns)) → mDisp [(mC (.str "cells"), mVar 0), (mC (.str "at"), mC (.int 0))] δ [] = .ok (.cell 0) [D ns 0] from fun δ hδ => by
    unfold mDisp mPairs mPairs mPairs
    simp only [mC, Res.bind, mVar, hδ]
    rfl]
  rotate_left
  · rfl
  walk_at "nwp"
  unfold lb1
  walk_at "nwp"
  refine wp_imp (labels_spec (ns := ns) (k := 0) (by omega) []) ?_
  rintro d μ' ⟨ls, g, jj, k', rfl, hg, hl, hG, rfl, hk⟩
  unfold lb2
  walk_at "nwp"
  rw [isA_k (k := "tuple") (b := true) rfl (by decide +kernel)]
  walk_at "nwp"
  rw [kinds_call]
  walk_at "nwp"
  rw [show ∀ μ, fNeD (.ct k_KINDS) (.tup (KS.map .str)) μ = .ok (.bl false) μ from fun μ => by
    have e1 : py μ 12 (.ct k_KINDS) = some (pyS KS) := by
      rw [kinds_are]
      exact py_S μ 10 KS
    have s1 : SeqAt.shaped (pyS KS) = true := (shp_strs fun s hs => (KS_pr s hs).2.ok).shaped
    simp only [fNeD, e1, show py μ 12 (.tup (KS.map .str)) = some (pyS KS) from py_S μ 10 KS, s1, Bool.and_self, if_true]
    rw [eqv_S, decide_eq_true rfl]
    rfl]
  walk_at "nwp"
  unfold lb3
  walk_at "nwp"
  simp only [List.nil_append, List.length_nil, Nat.zero_add]
  refine wp_imp (some_spec (ns := ns) (k := k') (c := jj) (r := g) (by omega) hg hl hG) ?_
  rintro d μ' ⟨rl, k2, rfl, hR, hn, hk2, S⟩
  have fin := fun (P : Ps) (hP : ∀ μ, P.rt (.bl true) μ) => rest_spec (P := P) hP (x0 := some (.ro ns)) (x4 := none) (x5 := none) (x6 := none) (x7 := none) (x8 := none) (x9 := none) (x10 := none) (x11 := none) (x12 := none) S (by omega) hl hG hR hn
  first
  | exact fin _ (fun _ => rfl)
  | (simp only [wps_seq] at fin; exact fin _ (fun _ => rfl))
theorem law_true : ∀ ns : List Int, ns.length ≤ 63 → ∃ μ, f_law [.ro ns] [] = .ok (.bl true) μ := by
  intro ns _
  have h := law_wp ns
  cases e : f_law [.ro ns] [] with
  | ok d μ =>
    rw [e] at h
    have h' : d = .bl true := h
    rw [h']
    exact ⟨μ, rfl⟩
  | raise n μ => rw [e] at h; exact h.elim
  | stuck => rw [e] at h; exact h.elim
end
end Nh


namespace Nh
open PySem PySem.Spec PyProof.Rows L2
def topS (i : Nat) : Stmt := PySem.Challenge.pw_namehouse_k03_records_and_their_order.main.body.getD i (.Pass ⟨0, 0, 0, 0⟩)
abbrev s_is_whole : Stmt := topS 1
theorem sc_is_whole : FnScope ["thing"] ["thing"] (defScope s_is_whole) := ⟨rfl, rfl, rfl, by decide +kernel, rfl, by decide +kernel, by decide +kernel⟩
abbrev s_within : Stmt := topS 2
theorem sc_within : FnScope ["thing", "low", "high"] ["thing", "low", "high"] (defScope s_within) := ⟨rfl, rfl, rfl, by decide +kernel, rfl, by decide +kernel, by decide +kernel⟩
abbrev s_is_label : Stmt := topS 18
theorem sc_is_label : FnScope ["thing", "sign"] ["thing"] (defScope s_is_label) := ⟨rfl, rfl, rfl, by decide +kernel, rfl, by decide +kernel, by decide +kernel⟩
abbrev s_is_name : Stmt := topS 19
theorem sc_is_name : FnScope ["thing", "label"] ["thing"] (defScope s_is_name) := ⟨rfl, rfl, rfl, by decide +kernel, rfl, by decide +kernel, by decide +kernel⟩
abbrev s_is_starless : Stmt := topS 20
theorem sc_is_starless : FnScope ["thing"] ["thing"] (defScope s_is_starless) := ⟨rfl, rfl, rfl, by decide +kernel, rfl, by decide +kernel, by decide +kernel⟩
abbrev s_name_rank : Stmt := topS 21
theorem sc_name_rank : FnScope ["name"] ["name"] (defScope s_name_rank) := ⟨rfl, rfl, rfl, by decide +kernel, rfl, by decide +kernel, by decide +kernel⟩
abbrev s_is_sign : Stmt := topS 25
theorem sc_is_sign : FnScope ["sign"] ["sign"] (defScope s_is_sign) := ⟨rfl, rfl, rfl, by decide +kernel, rfl, by decide +kernel, by decide +kernel⟩
abbrev s_is_kind : Stmt := topS 33
theorem sc_is_kind : FnScope ["thing"] ["thing"] (defScope s_is_kind) := ⟨rfl, rfl, rfl, by decide +kernel, rfl, by decide +kernel, by decide +kernel⟩
abbrev s_is_life : Stmt := topS 34
theorem sc_is_life : FnScope ["thing"] ["thing"] (defScope s_is_life) := ⟨rfl, rfl, rfl, by decide +kernel, rfl, by decide +kernel, by decide +kernel⟩
abbrev s_is_key : Stmt := topS 35
theorem sc_is_key : FnScope ["thing"] ["thing"] (defScope s_is_key) := ⟨rfl, rfl, rfl, by decide +kernel, rfl, by decide +kernel, by decide +kernel⟩
abbrev s_is_addr : Stmt := topS 36
theorem sc_is_addr : FnScope ["thing"] ["thing"] (defScope s_is_addr) := ⟨rfl, rfl, rfl, by decide +kernel, rfl, by decide +kernel, by decide +kernel⟩
abbrev s__is_text : Stmt := topS 37
theorem sc__is_text : FnScope ["thing", "sign"] ["thing"] (defScope s__is_text) := ⟨rfl, rfl, rfl, by decide +kernel, rfl, by decide +kernel, by decide +kernel⟩
abbrev s__is_named : Stmt := topS 38
theorem sc__is_named : FnScope ["thing"] ["thing"] (defScope s__is_named) := ⟨rfl, rfl, rfl, by decide +kernel, rfl, by decide +kernel, by decide +kernel⟩
abbrev s_is_version : Stmt := topS 39
theorem sc_is_version : FnScope ["thing"] ["thing"] (defScope s_is_version) := ⟨rfl, rfl, rfl, by decide +kernel, rfl, by decide +kernel, by decide +kernel⟩
abbrev s__is_top : Stmt := topS 40
theorem sc__is_top : FnScope ["thing", "version", "none"] ["thing"] (defScope s__is_top) := ⟨rfl, rfl, rfl, by decide +kernel, rfl, by decide +kernel, by decide +kernel⟩
abbrev s__is_seal : Stmt := topS 41
theorem sc__is_seal : FnScope ["thing", "kind", "key", "total"] ["thing"] (defScope s__is_seal) := ⟨rfl, rfl, rfl, by decide +kernel, rfl, by decide +kernel, by decide +kernel⟩
abbrev s__are_rising_kinds : Stmt := topS 43
theorem sc__are_rising_kinds : FnScope ["thing", "first", "second", "kind"] ["thing"] (defScope s__are_rising_kinds) := ⟨rfl, rfl, rfl, by decide +kernel, rfl, by decide +kernel, by decide +kernel⟩
abbrev s__is_gap : Stmt := topS 42
theorem sc__is_gap : FnScope ["thing", "name", "kinds"] ["thing"] (defScope s__is_gap) := ⟨rfl, rfl, rfl, by decide +kernel, rfl, by decide +kernel, by decide +kernel⟩
abbrev s_is_data : Stmt := topS 46
theorem sc_is_data : FnScope ["kind", "thing", "fits"] ["kind", "thing"] (defScope s_is_data) := ⟨rfl, rfl, rfl, by decide +kernel, rfl, by decide +kernel, by decide +kernel⟩
abbrev s_is_record : Stmt := topS 45
theorem sc_is_record : FnScope ["thing", "name", "kind", "live", "data"] ["thing"] (defScope s_is_record) := ⟨rfl, rfl, rfl, by decide +kernel, rfl, by decide +kernel, by decide +kernel⟩
abbrev s_are_records : Stmt := topS 47
theorem sc_are_records : FnScope ["thing", "record"] ["thing"] (defScope s_are_records) := ⟨rfl, rfl, rfl, by decide +kernel, rfl, by decide +kernel, by decide +kernel⟩
abbrev s_data_rank : Stmt := topS 50
theorem sc_data_rank : FnScope ["kind", "data", "name", "kinds"] ["kind", "data"] (defScope s_data_rank) := ⟨rfl, rfl, rfl, by decide +kernel, rfl, by decide +kernel, by decide +kernel⟩
abbrev s_record_rank : Stmt := topS 49
theorem sc_record_rank : FnScope ["record", "name", "kind", "live", "data"] ["record"] (defScope s_record_rank) := ⟨rfl, rfl, rfl, by decide +kernel, rfl, by decide +kernel, by decide +kernel⟩
abbrev s_ordered : Stmt := topS 48
theorem sc_ordered : FnScope ["records"] ["records"] (defScope s_ordered) := ⟨rfl, rfl, rfl, by decide +kernel, rfl, by decide +kernel, by decide +kernel⟩
abbrev s__law_cell_at : Stmt := topS 52
theorem sc__law_cell_at : FnScope ["_law_script", "_law_k"] ["_law_script", "_law_k"] (defScope s__law_cell_at) := ⟨rfl, rfl, rfl, by decide +kernel, rfl, by decide +kernel, by decide +kernel⟩
abbrev s__law_next : Stmt := topS 53
theorem sc__law_next : FnScope ["_law_state", "_law_k", "_law_cell"] ["_law_state"] (defScope s__law_next) := ⟨rfl, rfl, rfl, by decide +kernel, rfl, by decide +kernel, by decide +kernel⟩
abbrev s__law_great : Stmt := topS 54
theorem sc__law_great : FnScope ["_law_state", "_law_most", "_law_number", "_law_wide"] ["_law_state", "_law_most"] (defScope s__law_great) := ⟨rfl, rfl, rfl, by decide +kernel, rfl, by decide +kernel, by decide +kernel⟩
abbrev s__law_signs : Stmt := topS 55
theorem sc__law_signs : FnScope [] [] (defScope s__law_signs) := ⟨rfl, rfl, rfl, by decide +kernel, rfl, by decide +kernel, by decide +kernel⟩
abbrev s__law_label : Stmt := topS 56
theorem sc__law_label : FnScope ["_law_number", "_law_size", "_law_signs_here", "_law_k"] ["_law_number", "_law_size"] (defScope s__law_label) := ⟨rfl, rfl, rfl, by decide +kernel, rfl, by decide +kernel, by decide +kernel⟩
abbrev s__law_labels : Stmt := topS 57
theorem sc__law_labels : FnScope ["_law_state", "_law_base", "_law_found", "_law_turn", "_law_number", "_law_size", "_law_at", "_law_sign"] ["_law_state"] (defScope s__law_labels) := ⟨rfl, rfl, rfl, by decide +kernel, rfl, by decide +kernel, by decide +kernel⟩
abbrev s__law_name : Stmt := topS 58
theorem sc__law_name : FnScope ["_law_state", "_law_labels_here", "_law_number", "_law_many", "_law_found", "_law_turn"] ["_law_state", "_law_labels_here"] (defScope s__law_name) := ⟨rfl, rfl, rfl, by decide +kernel, rfl, by decide +kernel, by decide +kernel⟩
abbrev s__law_plain : Stmt := topS 59
theorem sc__law_plain : FnScope ["_law_state", "_law_labels_here", "_law_found"] ["_law_state", "_law_labels_here"] (defScope s__law_plain) := ⟨rfl, rfl, rfl, by decide +kernel, rfl, by decide +kernel, by decide +kernel⟩
abbrev s__law_text : Stmt := topS 60
theorem sc__law_text : FnScope ["_law_number", "_law_size", "_law_signs_here", "_law_many", "_law_k"] ["_law_number", "_law_size"] (defScope s__law_text) := ⟨rfl, rfl, rfl, by decide +kernel, rfl, by decide +kernel, by decide +kernel⟩
abbrev s__law_kinds : Stmt := topS 61
theorem sc__law_kinds : FnScope [] [] (defScope s__law_kinds) := ⟨rfl, rfl, rfl, by decide +kernel, rfl, by decide +kernel, by decide +kernel⟩
abbrev s__law_data : Stmt := topS 62
theorem sc__law_data : FnScope ["_law_state", "_law_kind", "_law_labels_here", "_law_number", "_law_over", "_law_drawn", "_law_one"] ["_law_state", "_law_kind", "_law_labels_here"] (defScope s__law_data) := ⟨rfl, rfl, rfl, by decide +kernel, rfl, by decide +kernel, by decide +kernel⟩
abbrev s__law_record : Stmt := topS 63
theorem sc__law_record : FnScope ["_law_state", "_law_labels_here", "_law_kind"] ["_law_state", "_law_labels_here"] (defScope s__law_record) := ⟨rfl, rfl, rfl, by decide +kernel, rfl, by decide +kernel, by decide +kernel⟩
abbrev s__law_before : Stmt := topS 64
theorem sc__law_before : FnScope ["_law_one", "_law_other", "_law_k"] ["_law_one", "_law_other"] (defScope s__law_before) := ⟨rfl, rfl, rfl, by decide +kernel, rfl, by decide +kernel, by decide +kernel⟩
abbrev s__law_among : Stmt := topS 65
theorem sc__law_among : FnScope ["_law_thing", "_law_least", "_law_most"] ["_law_thing", "_law_least", "_law_most"] (defScope s__law_among) := ⟨rfl, rfl, rfl, by decide +kernel, rfl, by decide +kernel, by decide +kernel⟩
abbrev s__law_is_name : Stmt := topS 66
theorem sc__law_is_name : FnScope ["_law_thing", "_law_with_star", "_law_k", "_law_label_here", "_law_is_star", "_law_sign"] ["_law_thing", "_law_with_star"] (defScope s__law_is_name) := ⟨rfl, rfl, rfl, by decide +kernel, rfl, by decide +kernel, by decide +kernel⟩
abbrev s__law_is_kind : Stmt := topS 67
theorem sc__law_is_kind : FnScope ["_law_thing"] ["_law_thing"] (defScope s__law_is_kind) := ⟨rfl, rfl, rfl, by decide +kernel, rfl, by decide +kernel, by decide +kernel⟩
abbrev s__law_is_data : Stmt := topS 68
theorem sc__law_is_data : FnScope ["_law_kind", "_law_thing", "_law_good", "_law_one"] ["_law_kind", "_law_thing"] (defScope s__law_is_data) := ⟨rfl, rfl, rfl, by decide +kernel, rfl, by decide +kernel, by decide +kernel⟩
abbrev s__law_is_record : Stmt := topS 69
theorem sc__law_is_record : FnScope ["_law_thing"] ["_law_thing"] (defScope s__law_is_record) := ⟨rfl, rfl, rfl, by decide +kernel, rfl, by decide +kernel, by decide +kernel⟩
abbrev s__law_odd : Stmt := topS 70
theorem sc__law_odd : FnScope ["_law_number", "_law_thing", "_law_some_here"] ["_law_number", "_law_thing"] (defScope s__law_odd) := ⟨rfl, rfl, rfl, by decide +kernel, rfl, by decide +kernel, by decide +kernel⟩
abbrev s__law_spoilt : Stmt := topS 71
theorem sc__law_spoilt : FnScope ["_law_state", "_law_thing", "_law_number", "_law_at"] ["_law_state", "_law_thing"] (defScope s__law_spoilt) := ⟨rfl, rfl, rfl, by decide +kernel, rfl, by decide +kernel, by decide +kernel⟩
abbrev s__law_less : Stmt := topS 72
theorem sc__law_less : FnScope ["_law_kind", "_law_one", "_law_other"] ["_law_kind", "_law_one", "_law_other"] (defScope s__law_less) := ⟨rfl, rfl, rfl, by decide +kernel, rfl, by decide +kernel, by decide +kernel⟩
abbrev s__law_ahead : Stmt := topS 73
theorem sc__law_ahead : FnScope ["_law_one", "_law_other"] ["_law_one", "_law_other"] (defScope s__law_ahead) := ⟨rfl, rfl, rfl, by decide +kernel, rfl, by decide +kernel, by decide +kernel⟩
abbrev s__law_sorted : Stmt := topS 74
theorem sc__law_sorted : FnScope ["_law_records", "_law_found", "_law_record_here", "_law_at"] ["_law_records"] (defScope s__law_sorted) := ⟨rfl, rfl, rfl, by decide +kernel, rfl, by decide +kernel, by decide +kernel⟩
abbrev s__law_some : Stmt := topS 75
theorem sc__law_some : FnScope ["_law_state", "_law_labels_here", "_law_found", "_law_turn", "_law_record_here", "_law_number", "_law_old", "_law_others"] ["_law_state", "_law_labels_here"] (defScope s__law_some) := ⟨rfl, rfl, rfl, by decide +kernel, rfl, by decide +kernel, by decide +kernel⟩
abbrev s__law_word : Stmt := topS 76
theorem sc__law_word : FnScope ["_law_things", "_law_caught", "e", "_law_others"] ["_law_things"] (defScope s__law_word) := ⟨rfl, rfl, rfl, by decide +kernel, rfl, by decide +kernel, by decide +kernel⟩
abbrev s_law : Stmt := topS 77
theorem sc_law : FnScope ["_law_script", "_law_state", "_law_labels_here", "_law_records", "_law_due", "_law_handed", "_law_found", "_law_turn", "_law_record_here", "_law_thing", "_law_seen", "_law_number", "_law_at"] ["_law_script"] (defScope s_law) := ⟨rfl, rfl, rfl, by decide +kernel, rfl, by decide +kernel, by decide +kernel⟩
structure Txt (w : World) (K : PySem.W.Frag) (mg : Str → Option Value) where
  n_ValueError : mg "ValueError" = none
  n_all : mg "all" = none
  n_bool : mg "bool" = none
  n_enumerate : mg "enumerate" = none
  n_int : mg "int" = none
  n_isinstance : mg "isinstance" = none
  n_len : mg "len" = none
  n_list : mg "list" = none
  n_max : mg "max" = none
  n_range : mg "range" = none
  n_set : mg "set" = none
  n_sorted : mg "sorted" = none
  n_str : mg "str" = none
  n_tuple : mg "tuple" = none
  n_zip : mg "zip" = none
  t_HIGHEST_KEY : Tok
  c_HIGHEST_KEY : mg "HIGHEST_KEY" = some (.int 1000000000000 t_HIGHEST_KEY)
  t_HIGHEST_SUM : Tok
  c_HIGHEST_SUM : mg "HIGHEST_SUM" = some (.int 1000000006 t_HIGHEST_SUM)
  t_HIGHEST_VERSION : Tok
  c_HIGHEST_VERSION : mg "HIGHEST_VERSION" = some (.int 4294967295 t_HIGHEST_VERSION)
  A_KINDS : Addr
  c_KINDS : mg "KINDS" = some (.ref A_KINDS)
  d_KINDS : ConT K A_KINDS [.str "addr", .str "text", .str "keeper", .str "other", .str "top", .str "key", .str "trust", .str "seal", .str "gap"]
  t_LABEL_SIGNS : Tok
  c_LABEL_SIGNS : mg "LABEL_SIGNS" = some (.str "abcdefghijklmnopqrstuvwxyz0123456789-*" t_LABEL_SIGNS)
  t_LONGEST_LIFE : Tok
  c_LONGEST_LIFE : mg "LONGEST_LIFE" = some (.int 1000000 t_LONGEST_LIFE)
  t_MOST_LABELS : Tok
  c_MOST_LABELS : mg "MOST_LABELS" = some (.int 6 t_MOST_LABELS)
  t_MOST_SIGNS : Tok
  c_MOST_SIGNS : mg "MOST_SIGNS" = some (.int 8 t_MOST_SIGNS)
  t_MOST_TEXT : Tok
  c_MOST_TEXT : mg "MOST_TEXT" = some (.int 30 t_MOST_TEXT)
  t_STAR : Tok
  c_STAR : mg "STAR" = some (.str "*" t_STAR)
  A__DATA_TESTS : Addr
  c__DATA_TESTS : mg "_DATA_TESTS" = some (.ref A__DATA_TESTS)
  t__HIGH_SIGNS : Tok
  c__HIGH_SIGNS : mg "_HIGH_SIGNS" = some (.str "&'()*+,-./0123456789:;<=>?\x40ABCDEFGHIJKLMNOPQRSTUVWXYZ[\\]^_`abcdefghijklmnopqrstuvwxyz{|}~" t__HIGH_SIGNS)
  t__LOW_SIGNS : Tok
  c__LOW_SIGNS : mg "_LOW_SIGNS" = some (.str " !\"#$" t__LOW_SIGNS)
  C_HouseError : Addr
  C_BadName : Addr
  C_BadRecord : Addr
  C_BadLetter : Addr
  C_BadZone : Addr
  C_BadRow : Addr
  C_BadChange : Addr
  C_BadTurn : Addr
  C_BadLine : Addr
  g_HouseError : mg "HouseError" = some (.ref C_HouseError)
  g_BadName : mg "BadName" = some (.ref C_BadName)
  g_BadRecord : mg "BadRecord" = some (.ref C_BadRecord)
  g_BadLetter : mg "BadLetter" = some (.ref C_BadLetter)
  g_BadZone : mg "BadZone" = some (.ref C_BadZone)
  g_BadRow : mg "BadRow" = some (.ref C_BadRow)
  g_BadChange : mg "BadChange" = some (.ref C_BadChange)
  g_BadTurn : mg "BadTurn" = some (.ref C_BadTurn)
  g_BadLine : mg "BadLine" = some (.ref C_BadLine)
  x_BadRecord : PySem.W.excIn K C_BadRecord [.type "ValueError", .type "Exception", .type "BaseException", .type "object"] "ValueError.__new__" = true
  k_BadRecord : PySem.W.keepIn K (.ref C_BadRecord) = true
  s_BadRecord : PySem.W.subIn K (.ref C_BadRecord) (.type "BaseException") = some true
  t_BadRecord : PySem.W.typeIn K (.ref C_BadRecord) = some (.type "type")
  f_is_whole : Addr
  fd_is_whole : FuncData
  F_is_whole : Fun K "is_whole" "is_whole" s_is_whole f_is_whole fd_is_whole
  b_is_whole : Binds K fd_is_whole ["thing"] []
  g_is_whole : mg "is_whole" = some (.ref f_is_whole)
  f_within : Addr
  fd_within : FuncData
  F_within : Fun K "within" "within" s_within f_within fd_within
  b_within : Binds K fd_within ["thing", "low", "high"] []
  g_within : mg "within" = some (.ref f_within)
  f_is_label : Addr
  fd_is_label : FuncData
  F_is_label : Fun K "is_label" "is_label" s_is_label f_is_label fd_is_label
  b_is_label : Binds K fd_is_label ["thing"] []
  g_is_label : mg "is_label" = some (.ref f_is_label)
  f_is_name : Addr
  fd_is_name : FuncData
  F_is_name : Fun K "is_name" "is_name" s_is_name f_is_name fd_is_name
  b_is_name : Binds K fd_is_name ["thing"] []
  g_is_name : mg "is_name" = some (.ref f_is_name)
  f_is_starless : Addr
  fd_is_starless : FuncData
  F_is_starless : Fun K "is_starless" "is_starless" s_is_starless f_is_starless fd_is_starless
  b_is_starless : Binds K fd_is_starless ["thing"] []
  g_is_starless : mg "is_starless" = some (.ref f_is_starless)
  f_name_rank : Addr
  fd_name_rank : FuncData
  F_name_rank : Fun K "name_rank" "name_rank" s_name_rank f_name_rank fd_name_rank
  b_name_rank : Binds K fd_name_rank ["name"] []
  g_name_rank : mg "name_rank" = some (.ref f_name_rank)
  f_is_sign : Addr
  fd_is_sign : FuncData
  F_is_sign : Fun K "is_sign" "is_sign" s_is_sign f_is_sign fd_is_sign
  b_is_sign : Binds K fd_is_sign ["sign"] []
  g_is_sign : mg "is_sign" = some (.ref f_is_sign)
  f_is_kind : Addr
  fd_is_kind : FuncData
  F_is_kind : Fun K "is_kind" "is_kind" s_is_kind f_is_kind fd_is_kind
  b_is_kind : Binds K fd_is_kind ["thing"] []
  g_is_kind : mg "is_kind" = some (.ref f_is_kind)
  f_is_life : Addr
  fd_is_life : FuncData
  F_is_life : Fun K "is_life" "is_life" s_is_life f_is_life fd_is_life
  b_is_life : Binds K fd_is_life ["thing"] []
  g_is_life : mg "is_life" = some (.ref f_is_life)
  f_is_key : Addr
  fd_is_key : FuncData
  F_is_key : Fun K "is_key" "is_key" s_is_key f_is_key fd_is_key
  b_is_key : Binds K fd_is_key ["thing"] []
  g_is_key : mg "is_key" = some (.ref f_is_key)
  f_is_addr : Addr
  fd_is_addr : FuncData
  F_is_addr : Fun K "is_addr" "is_addr" s_is_addr f_is_addr fd_is_addr
  b_is_addr : Binds K fd_is_addr ["thing"] []
  g_is_addr : mg "is_addr" = some (.ref f_is_addr)
  f__is_text : Addr
  fd__is_text : FuncData
  F__is_text : Fun K "_is_text" "_is_text" s__is_text f__is_text fd__is_text
  b__is_text : Binds K fd__is_text ["thing"] []
  g__is_text : mg "_is_text" = some (.ref f__is_text)
  f__is_named : Addr
  fd__is_named : FuncData
  F__is_named : Fun K "_is_named" "_is_named" s__is_named f__is_named fd__is_named
  b__is_named : Binds K fd__is_named ["thing"] []
  g__is_named : mg "_is_named" = some (.ref f__is_named)
  f_is_version : Addr
  fd_is_version : FuncData
  F_is_version : Fun K "is_version" "is_version" s_is_version f_is_version fd_is_version
  b_is_version : Binds K fd_is_version ["thing"] []
  g_is_version : mg "is_version" = some (.ref f_is_version)
  f__is_top : Addr
  fd__is_top : FuncData
  F__is_top : Fun K "_is_top" "_is_top" s__is_top f__is_top fd__is_top
  b__is_top : Binds K fd__is_top ["thing"] []
  g__is_top : mg "_is_top" = some (.ref f__is_top)
  f__is_seal : Addr
  fd__is_seal : FuncData
  F__is_seal : Fun K "_is_seal" "_is_seal" s__is_seal f__is_seal fd__is_seal
  b__is_seal : Binds K fd__is_seal ["thing"] []
  g__is_seal : mg "_is_seal" = some (.ref f__is_seal)
  f__are_rising_kinds : Addr
  fd__are_rising_kinds : FuncData
  F__are_rising_kinds : Fun K "_are_rising_kinds" "_are_rising_kinds" s__are_rising_kinds f__are_rising_kinds fd__are_rising_kinds
  b__are_rising_kinds : Binds K fd__are_rising_kinds ["thing"] []
  g__are_rising_kinds : mg "_are_rising_kinds" = some (.ref f__are_rising_kinds)
  f__is_gap : Addr
  fd__is_gap : FuncData
  F__is_gap : Fun K "_is_gap" "_is_gap" s__is_gap f__is_gap fd__is_gap
  b__is_gap : Binds K fd__is_gap ["thing"] []
  g__is_gap : mg "_is_gap" = some (.ref f__is_gap)
  f_is_data : Addr
  fd_is_data : FuncData
  F_is_data : Fun K "is_data" "is_data" s_is_data f_is_data fd_is_data
  b_is_data : Binds K fd_is_data ["kind", "thing"] []
  g_is_data : mg "is_data" = some (.ref f_is_data)
  f_is_record : Addr
  fd_is_record : FuncData
  F_is_record : Fun K "is_record" "is_record" s_is_record f_is_record fd_is_record
  b_is_record : Binds K fd_is_record ["thing"] []
  g_is_record : mg "is_record" = some (.ref f_is_record)
  f_are_records : Addr
  fd_are_records : FuncData
  F_are_records : Fun K "are_records" "are_records" s_are_records f_are_records fd_are_records
  b_are_records : Binds K fd_are_records ["thing"] []
  g_are_records : mg "are_records" = some (.ref f_are_records)
  f_data_rank : Addr
  fd_data_rank : FuncData
  F_data_rank : Fun K "data_rank" "data_rank" s_data_rank f_data_rank fd_data_rank
  b_data_rank : Binds K fd_data_rank ["kind", "data"] []
  g_data_rank : mg "data_rank" = some (.ref f_data_rank)
  f_record_rank : Addr
  fd_record_rank : FuncData
  F_record_rank : Fun K "record_rank" "record_rank" s_record_rank f_record_rank fd_record_rank
  b_record_rank : Binds K fd_record_rank ["record"] []
  g_record_rank : mg "record_rank" = some (.ref f_record_rank)
  f_ordered : Addr
  fd_ordered : FuncData
  F_ordered : Fun K "ordered" "ordered" s_ordered f_ordered fd_ordered
  b_ordered : Binds K fd_ordered ["records"] []
  g_ordered : mg "ordered" = some (.ref f_ordered)
  f__law_cell_at : Addr
  fd__law_cell_at : FuncData
  F__law_cell_at : Fun K "_law_cell_at" "_law_cell_at" s__law_cell_at f__law_cell_at fd__law_cell_at
  b__law_cell_at : Binds K fd__law_cell_at ["_law_script", "_law_k"] []
  g__law_cell_at : mg "_law_cell_at" = some (.ref f__law_cell_at)
  f__law_next : Addr
  fd__law_next : FuncData
  F__law_next : Fun K "_law_next" "_law_next" s__law_next f__law_next fd__law_next
  b__law_next : Binds K fd__law_next ["_law_state"] []
  g__law_next : mg "_law_next" = some (.ref f__law_next)
  f__law_great : Addr
  fd__law_great : FuncData
  F__law_great : Fun K "_law_great" "_law_great" s__law_great f__law_great fd__law_great
  b__law_great : Binds K fd__law_great ["_law_state", "_law_most"] []
  g__law_great : mg "_law_great" = some (.ref f__law_great)
  f__law_signs : Addr
  fd__law_signs : FuncData
  F__law_signs : Fun K "_law_signs" "_law_signs" s__law_signs f__law_signs fd__law_signs
  b__law_signs : Binds K fd__law_signs [] []
  g__law_signs : mg "_law_signs" = some (.ref f__law_signs)
  f__law_label : Addr
  fd__law_label : FuncData
  F__law_label : Fun K "_law_label" "_law_label" s__law_label f__law_label fd__law_label
  b__law_label : Binds K fd__law_label ["_law_number", "_law_size"] []
  g__law_label : mg "_law_label" = some (.ref f__law_label)
  f__law_labels : Addr
  fd__law_labels : FuncData
  F__law_labels : Fun K "_law_labels" "_law_labels" s__law_labels f__law_labels fd__law_labels
  b__law_labels : Binds K fd__law_labels ["_law_state"] []
  g__law_labels : mg "_law_labels" = some (.ref f__law_labels)
  f__law_name : Addr
  fd__law_name : FuncData
  F__law_name : Fun K "_law_name" "_law_name" s__law_name f__law_name fd__law_name
  b__law_name : Binds K fd__law_name ["_law_state", "_law_labels_here"] []
  g__law_name : mg "_law_name" = some (.ref f__law_name)
  f__law_plain : Addr
  fd__law_plain : FuncData
  F__law_plain : Fun K "_law_plain" "_law_plain" s__law_plain f__law_plain fd__law_plain
  b__law_plain : Binds K fd__law_plain ["_law_state", "_law_labels_here"] []
  g__law_plain : mg "_law_plain" = some (.ref f__law_plain)
  f__law_text : Addr
  fd__law_text : FuncData
  F__law_text : Fun K "_law_text" "_law_text" s__law_text f__law_text fd__law_text
  b__law_text : Binds K fd__law_text ["_law_number", "_law_size"] []
  g__law_text : mg "_law_text" = some (.ref f__law_text)
  f__law_kinds : Addr
  fd__law_kinds : FuncData
  F__law_kinds : Fun K "_law_kinds" "_law_kinds" s__law_kinds f__law_kinds fd__law_kinds
  b__law_kinds : Binds K fd__law_kinds [] []
  g__law_kinds : mg "_law_kinds" = some (.ref f__law_kinds)
  f__law_data : Addr
  fd__law_data : FuncData
  F__law_data : Fun K "_law_data" "_law_data" s__law_data f__law_data fd__law_data
  b__law_data : Binds K fd__law_data ["_law_state", "_law_kind", "_law_labels_here"] []
  g__law_data : mg "_law_data" = some (.ref f__law_data)
  f__law_record : Addr
  fd__law_record : FuncData
  F__law_record : Fun K "_law_record" "_law_record" s__law_record f__law_record fd__law_record
  b__law_record : Binds K fd__law_record ["_law_state", "_law_labels_here"] []
  g__law_record : mg "_law_record" = some (.ref f__law_record)
  f__law_before : Addr
  fd__law_before : FuncData
  F__law_before : Fun K "_law_before" "_law_before" s__law_before f__law_before fd__law_before
  b__law_before : Binds K fd__law_before ["_law_one", "_law_other"] []
  g__law_before : mg "_law_before" = some (.ref f__law_before)
  f__law_among : Addr
  fd__law_among : FuncData
  F__law_among : Fun K "_law_among" "_law_among" s__law_among f__law_among fd__law_among
  b__law_among : Binds K fd__law_among ["_law_thing", "_law_least", "_law_most"] []
  g__law_among : mg "_law_among" = some (.ref f__law_among)
  f__law_is_name : Addr
  fd__law_is_name : FuncData
  F__law_is_name : Fun K "_law_is_name" "_law_is_name" s__law_is_name f__law_is_name fd__law_is_name
  b__law_is_name : Binds K fd__law_is_name ["_law_thing", "_law_with_star"] []
  g__law_is_name : mg "_law_is_name" = some (.ref f__law_is_name)
  f__law_is_kind : Addr
  fd__law_is_kind : FuncData
  F__law_is_kind : Fun K "_law_is_kind" "_law_is_kind" s__law_is_kind f__law_is_kind fd__law_is_kind
  b__law_is_kind : Binds K fd__law_is_kind ["_law_thing"] []
  g__law_is_kind : mg "_law_is_kind" = some (.ref f__law_is_kind)
  f__law_is_data : Addr
  fd__law_is_data : FuncData
  F__law_is_data : Fun K "_law_is_data" "_law_is_data" s__law_is_data f__law_is_data fd__law_is_data
  b__law_is_data : Binds K fd__law_is_data ["_law_kind", "_law_thing"] []
  g__law_is_data : mg "_law_is_data" = some (.ref f__law_is_data)
  f__law_is_record : Addr
  fd__law_is_record : FuncData
  F__law_is_record : Fun K "_law_is_record" "_law_is_record" s__law_is_record f__law_is_record fd__law_is_record
  b__law_is_record : Binds K fd__law_is_record ["_law_thing"] []
  g__law_is_record : mg "_law_is_record" = some (.ref f__law_is_record)
  f__law_odd : Addr
  fd__law_odd : FuncData
  F__law_odd : Fun K "_law_odd" "_law_odd" s__law_odd f__law_odd fd__law_odd
  b__law_odd : Binds K fd__law_odd ["_law_number", "_law_thing"] []
  g__law_odd : mg "_law_odd" = some (.ref f__law_odd)
  f__law_spoilt : Addr
  fd__law_spoilt : FuncData
  F__law_spoilt : Fun K "_law_spoilt" "_law_spoilt" s__law_spoilt f__law_spoilt fd__law_spoilt
  b__law_spoilt : Binds K fd__law_spoilt ["_law_state", "_law_thing"] []
  g__law_spoilt : mg "_law_spoilt" = some (.ref f__law_spoilt)
  f__law_less : Addr
  fd__law_less : FuncData
  F__law_less : Fun K "_law_less" "_law_less" s__law_less f__law_less fd__law_less
  b__law_less : Binds K fd__law_less ["_law_kind", "_law_one", "_law_other"] []
  g__law_less : mg "_law_less" = some (.ref f__law_less)
  f__law_ahead : Addr
  fd__law_ahead : FuncData
  F__law_ahead : Fun K "_law_ahead" "_law_ahead" s__law_ahead f__law_ahead fd__law_ahead
  b__law_ahead : Binds K fd__law_ahead ["_law_one", "_law_other"] []
  g__law_ahead : mg "_law_ahead" = some (.ref f__law_ahead)
  f__law_sorted : Addr
  fd__law_sorted : FuncData
  F__law_sorted : Fun K "_law_sorted" "_law_sorted" s__law_sorted f__law_sorted fd__law_sorted
  b__law_sorted : Binds K fd__law_sorted ["_law_records"] []
  g__law_sorted : mg "_law_sorted" = some (.ref f__law_sorted)
  f__law_some : Addr
  fd__law_some : FuncData
  F__law_some : Fun K "_law_some" "_law_some" s__law_some f__law_some fd__law_some
  b__law_some : Binds K fd__law_some ["_law_state", "_law_labels_here"] []
  g__law_some : mg "_law_some" = some (.ref f__law_some)
  f__law_word : Addr
  fd__law_word : FuncData
  F__law_word : Fun K "_law_word" "_law_word" s__law_word f__law_word fd__law_word
  b__law_word : Binds K fd__law_word ["_law_things"] []
  g__law_word : mg "_law_word" = some (.ref f__law_word)
  f_law : Addr
  fd_law : FuncData
  F_law : Fun K "law" "law" s_law f_law fd_law
  b_law : Binds K fd_law ["_law_script"] []
  g_law : mg "law" = some (.ref f_law)
  d__DATA_TESTS_addr : KDct K w A__DATA_TESTS "addr" (.ref f_is_addr)
  d__DATA_TESTS_text : KDct K w A__DATA_TESTS "text" (.ref f__is_text)
  d__DATA_TESTS_keeper : KDct K w A__DATA_TESTS "keeper" (.ref f__is_named)
  d__DATA_TESTS_other : KDct K w A__DATA_TESTS "other" (.ref f__is_named)
  d__DATA_TESTS_top : KDct K w A__DATA_TESTS "top" (.ref f__is_top)
  d__DATA_TESTS_key : KDct K w A__DATA_TESTS "key" (.ref f_is_key)
  d__DATA_TESTS_trust : KDct K w A__DATA_TESTS "trust" (.ref f_is_key)
  d__DATA_TESTS_seal : KDct K w A__DATA_TESTS "seal" (.ref f__is_seal)
  d__DATA_TESTS_gap : KDct K w A__DATA_TESTS "gap" (.ref f__is_gap)
  ki_BadRecord_BadChange : PySem.W.kitOne K (.ref C_BadRecord) (.ref C_BadChange) = some false
  ke_BadRecord_BadChange : PySem.W.exmOne K (.ref C_BadRecord) (.ref C_BadChange) = some false
  ki_BadRecord_BadLetter : PySem.W.kitOne K (.ref C_BadRecord) (.ref C_BadLetter) = some false
  ke_BadRecord_BadLetter : PySem.W.exmOne K (.ref C_BadRecord) (.ref C_BadLetter) = some false
  ki_BadRecord_BadLine : PySem.W.kitOne K (.ref C_BadRecord) (.ref C_BadLine) = some false
  ke_BadRecord_BadLine : PySem.W.exmOne K (.ref C_BadRecord) (.ref C_BadLine) = some false
  ki_BadRecord_BadName : PySem.W.kitOne K (.ref C_BadRecord) (.ref C_BadName) = some false
  ke_BadRecord_BadName : PySem.W.exmOne K (.ref C_BadRecord) (.ref C_BadName) = some false
  ki_BadRecord_BadRecord : PySem.W.kitOne K (.ref C_BadRecord) (.ref C_BadRecord) = some true
  ke_BadRecord_BadRecord : PySem.W.exmOne K (.ref C_BadRecord) (.ref C_BadRecord) = some true
  ki_BadRecord_BadRow : PySem.W.kitOne K (.ref C_BadRecord) (.ref C_BadRow) = some false
  ke_BadRecord_BadRow : PySem.W.exmOne K (.ref C_BadRecord) (.ref C_BadRow) = some false
  ki_BadRecord_BadTurn : PySem.W.kitOne K (.ref C_BadRecord) (.ref C_BadTurn) = some false
  ke_BadRecord_BadTurn : PySem.W.exmOne K (.ref C_BadRecord) (.ref C_BadTurn) = some false
  ki_BadRecord_BadZone : PySem.W.kitOne K (.ref C_BadRecord) (.ref C_BadZone) = some false
  ke_BadRecord_BadZone : PySem.W.exmOne K (.ref C_BadRecord) (.ref C_BadZone) = some false
  ki_BadRecord_HouseError : PySem.W.kitOne K (.ref C_BadRecord) (.ref C_HouseError) = some true
  ke_BadRecord_HouseError : PySem.W.exmOne K (.ref C_BadRecord) (.ref C_HouseError) = some true
  kv_BadRecord : PySem.W.kitOne K (.ref C_BadRecord) (.type "ValueError") = some true
  ec_BadRecord : ExcC K C_BadRecord
section
variable {w : World} {K : PySem.W.Frag} {mg : Str → Option Value}
def Txt.cfg (T : Txt w K mg) : Cfg := ⟨K, fun n => match n with
  | 0 => T.C_HouseError
  | 1 => T.C_BadName
  | 2 => T.C_BadRecord
  | 3 => T.C_BadLetter
  | 4 => T.C_BadZone
  | 5 => T.C_BadRow
  | 6 => T.C_BadChange
  | 7 => T.C_BadTurn
  | 8 => T.C_BadLine
  | 109 => T.f_is_key
  | 110 => T.f_is_addr
  | 111 => T.f__is_text
  | 112 => T.f__is_named
  | 114 => T.f__is_top
  | 115 => T.f__is_seal
  | 116 => T.f__is_gap
  | _ => T.C_HouseError⟩
theorem Txt.d__DATA_TESTS (T : Txt w K mg) : ∀ z d, k__DATA_TESTS.lookup z = some d → ∃ v, KDct T.cfg.K w T.A__DATA_TESTS z v ∧ ∀ as H, Rel T.cfg as H v d := by
  intro z d h
  unfold k__DATA_TESTS at h
  rw [List.lookup_cons] at h
  split at h
  · rename_i e
    cases h
    rw [beq_iff_eq.mp e]
    exact ⟨_, T.d__DATA_TESTS_addr, fun as H => .cls (c := T.cfg) 110⟩
  rw [List.lookup_cons] at h
  split at h
  · rename_i e
    cases h
    rw [beq_iff_eq.mp e]
    exact ⟨_, T.d__DATA_TESTS_text, fun as H => .cls (c := T.cfg) 111⟩
  rw [List.lookup_cons] at h
  split at h
  · rename_i e
    cases h
    rw [beq_iff_eq.mp e]
    exact ⟨_, T.d__DATA_TESTS_keeper, fun as H => .cls (c := T.cfg) 112⟩
  rw [List.lookup_cons] at h
  split at h
  · rename_i e
    cases h
    rw [beq_iff_eq.mp e]
    exact ⟨_, T.d__DATA_TESTS_other, fun as H => .cls (c := T.cfg) 112⟩
  rw [List.lookup_cons] at h
  split at h
  · rename_i e
    cases h
    rw [beq_iff_eq.mp e]
    exact ⟨_, T.d__DATA_TESTS_top, fun as H => .cls (c := T.cfg) 114⟩
  rw [List.lookup_cons] at h
  split at h
  · rename_i e
    cases h
    rw [beq_iff_eq.mp e]
    exact ⟨_, T.d__DATA_TESTS_key, fun as H => .cls (c := T.cfg) 109⟩
  rw [List.lookup_cons] at h
  split at h
  · rename_i e
    cases h
    rw [beq_iff_eq.mp e]
    exact ⟨_, T.d__DATA_TESTS_trust, fun as H => .cls (c := T.cfg) 109⟩
  rw [List.lookup_cons] at h
  split at h
  · rename_i e
    cases h
    rw [beq_iff_eq.mp e]
    exact ⟨_, T.d__DATA_TESTS_seal, fun as H => .cls (c := T.cfg) 115⟩
  rw [List.lookup_cons] at h
  split at h
  · rename_i e
    cases h
    rw [beq_iff_eq.mp e]
    exact ⟨_, T.d__DATA_TESTS_gap, fun as H => .cls (c := T.cfg) 116⟩
  cases h
theorem Txt.tabOk (T : Txt w K mg) : TabOk T.cfg tab := by
  refine ⟨fun n m b h => ?_, fun n m b h => ?_, (fun n m b h => nomatch h), fun n h => ?_⟩
  · unfold tab at h
    dsimp only at h
    split at h <;> first | (cases h; first | exact T.ki_BadRecord_BadChange | exact T.ki_BadRecord_BadLetter | exact T.ki_BadRecord_BadLine | exact T.ki_BadRecord_BadName | exact T.ki_BadRecord_BadRecord | exact T.ki_BadRecord_BadRow | exact T.ki_BadRecord_BadTurn | exact T.ki_BadRecord_BadZone | exact T.ki_BadRecord_HouseError) | cases h
  · unfold tab at h
    dsimp only at h
    split at h
    all_goals first | (split at h <;> first | (cases h; rename_i e; subst e; first | exact T.kv_BadRecord) | cases h) | cases h
  · by_cases h_BadRecord : n = 2
    · subst h_BadRecord
      exact T.ec_BadRecord
    exfalso
    unfold tab at h
    dsimp only at h
    split at h <;> simp_all
theorem Txt.exm_BadChange (T : Txt w K mg) : ∀ n k, tab.sub n 6 = some k → PySem.W.exmOne T.cfg.K (.ref (T.cfg.cl n)) (.ref (T.cfg.cl 6)) = some k := by
  intro n k h
  unfold tab at h
  dsimp only at h
  split at h <;> first | (cases h; first | exact T.ke_BadRecord_BadChange) | (rename_i e; cases e) | (rename_i e _; cases e) | (rename_i _ e; cases e) | cases h
theorem Txt.exm_BadLetter (T : Txt w K mg) : ∀ n k, tab.sub n 3 = some k → PySem.W.exmOne T.cfg.K (.ref (T.cfg.cl n)) (.ref (T.cfg.cl 3)) = some k := by
  intro n k h
  unfold tab at h
  dsimp only at h
  split at h <;> first | (cases h; first | exact T.ke_BadRecord_BadLetter) | (rename_i e; cases e) | (rename_i e _; cases e) | (rename_i _ e; cases e) | cases h
theorem Txt.exm_BadLine (T : Txt w K mg) : ∀ n k, tab.sub n 8 = some k → PySem.W.exmOne T.cfg.K (.ref (T.cfg.cl n)) (.ref (T.cfg.cl 8)) = some k := by
  intro n k h
  unfold tab at h
  dsimp only at h
  split at h <;> first | (cases h; first | exact T.ke_BadRecord_BadLine) | (rename_i e; cases e) | (rename_i e _; cases e) | (rename_i _ e; cases e) | cases h
theorem Txt.exm_BadName (T : Txt w K mg) : ∀ n k, tab.sub n 1 = some k → PySem.W.exmOne T.cfg.K (.ref (T.cfg.cl n)) (.ref (T.cfg.cl 1)) = some k := by
  intro n k h
  unfold tab at h
  dsimp only at h
  split at h <;> first | (cases h; first | exact T.ke_BadRecord_BadName) | (rename_i e; cases e) | (rename_i e _; cases e) | (rename_i _ e; cases e) | cases h
theorem Txt.exm_BadRecord (T : Txt w K mg) : ∀ n k, tab.sub n 2 = some k → PySem.W.exmOne T.cfg.K (.ref (T.cfg.cl n)) (.ref (T.cfg.cl 2)) = some k := by
  intro n k h
  unfold tab at h
  dsimp only at h
  split at h <;> first | (cases h; first | exact T.ke_BadRecord_BadRecord) | (rename_i e; cases e) | (rename_i e _; cases e) | (rename_i _ e; cases e) | cases h
theorem Txt.exm_BadRow (T : Txt w K mg) : ∀ n k, tab.sub n 5 = some k → PySem.W.exmOne T.cfg.K (.ref (T.cfg.cl n)) (.ref (T.cfg.cl 5)) = some k := by
  intro n k h
  unfold tab at h
  dsimp only at h
  split at h <;> first | (cases h; first | exact T.ke_BadRecord_BadRow) | (rename_i e; cases e) | (rename_i e _; cases e) | (rename_i _ e; cases e) | cases h
theorem Txt.exm_BadTurn (T : Txt w K mg) : ∀ n k, tab.sub n 7 = some k → PySem.W.exmOne T.cfg.K (.ref (T.cfg.cl n)) (.ref (T.cfg.cl 7)) = some k := by
  intro n k h
  unfold tab at h
  dsimp only at h
  split at h <;> first | (cases h; first | exact T.ke_BadRecord_BadTurn) | (rename_i e; cases e) | (rename_i e _; cases e) | (rename_i _ e; cases e) | cases h
theorem Txt.exm_BadZone (T : Txt w K mg) : ∀ n k, tab.sub n 4 = some k → PySem.W.exmOne T.cfg.K (.ref (T.cfg.cl n)) (.ref (T.cfg.cl 4)) = some k := by
  intro n k h
  unfold tab at h
  dsimp only at h
  split at h <;> first | (cases h; first | exact T.ke_BadRecord_BadZone) | (rename_i e; cases e) | (rename_i e _; cases e) | (rename_i _ e; cases e) | cases h
theorem Txt.exm_HouseError (T : Txt w K mg) : ∀ n k, tab.sub n 0 = some k → PySem.W.exmOne T.cfg.K (.ref (T.cfg.cl n)) (.ref (T.cfg.cl 0)) = some k := by
  intro n k h
  unfold tab at h
  dsimp only at h
  split at h <;> first | (cases h; first | exact T.ke_BadRecord_HouseError) | (rename_i e; cases e) | (rename_i e _; cases e) | (rename_i _ e; cases e) | cases h
end
section
variable {P : Program} {w : World} {K : PySem.W.Frag} {mg : Str → Option Value} {base : Heap}
theorem ok_is_whole (T : Txt w K mg) : FnOk P w K mg base CX0 1 T.f_is_whole T.fd_is_whole ["thing"] (spM T.cfg 1 f_is_whole) :=
  fn_sim0 T.F_is_whole sc_is_whole rfl (fun cdv A outer s H E hr => ⟨_, (pss_one (ps_ret (pe_and (pe_callB call_isA (by rfl) T.n_isinstance (by decide +kernel) (pa_cons (pv 0) (pa_cons (pe_bltn (v := .ty "int") rfl T.n_int (by decide +kernel) rfl (by decide)) pa_nil))) (pe_one (pe_not (pe_callB call_isA (by rfl) T.n_isinstance (by decide +kernel) (pa_cons (pv 0) (pa_cons (pe_bltn (v := .ty "bool") rfl T.n_bool (by decide +kernel) rfl (by decide)) pa_nil)))))))),
  (sims_ret (sim_and (sim_cb (simc_isA T.tabOk) (sim_cons (sim_var 0) (sim_cons (sim_ty _) sim_nil))) (sim_not (sim_cb (simc_isA T.tabOk) (sim_cons (sim_var 0) (sim_cons (sim_ty _) sim_nil))))))⟩)
theorem ok_within (T : Txt w K mg) : FnOk P w K mg base CX0 2 T.f_within T.fd_within ["thing", "low", "high"] (spM T.cfg 3 f_within) :=
  fn_sim0 T.F_within sc_within rfl (fun cdv A outer s H E hr => ⟨_, (pss_one (ps_ret (pe_and (pe_call (ok_is_whole T) (hr.mono (by decide)) (by rfl) T.g_is_whole T.F_is_whole.kp T.b_is_whole .nil pass0 (pa_cons (pv 0) pa_nil)) (pe_one (pe_chain op_le op_le (pv 1) (pv 0) (pv 2)))))),
  (sims_ret (sim_and (sim_call0 (sim_cons (sim_var 0) sim_nil)) (sim_chain simr_le simr_le (sim_var 1) (sim_var 0) (sim_var 2))))⟩)
theorem ok_is_label (T : Txt w K mg) : FnOk P w K mg base CX0 1 T.f_is_label T.fd_is_label ["thing"] (spM T.cfg 1 f_is_label) :=
  fn_sim0 T.F_is_label sc_is_label rfl (fun cdv A outer s H E hr => ⟨_, (pss_cons (ps_if (PW.pt (pw_or (pt_not (pt_val (pe_callB call_isA (by rfl) T.n_isinstance (by decide +kernel) (pa_cons (pv 0) (pa_cons (pe_bltn (v := .ty "str") rfl T.n_str (by decide +kernel) rfl (by decide)) pa_nil))))) (pw_or1 (pt_not (pt_chain op_le op_le pe_int (pe_callB call_len (by rfl) T.n_len (by decide +kernel) (pa_cons (pv 0) pa_nil)) (pe_glob (v := .int 8) rfl T.c_MOST_SIGNS ⟨_, rfl⟩)))))) (pss_one (ps_ret pe_bl)) pss_nil)
  (pss_cons (ps_if (pt_cmpR op_in_sign (pe_glob (v := .str "*") rfl T.c_STAR ⟨_, rfl⟩) (pv 0) (by rfl)) (pss_one (ps_ret (pe_cmpR op_eq (pv 0) (pe_glob (v := .str "*") rfl T.c_STAR ⟨_, rfl⟩) (nomark _)))) pss_nil)
  (pss_one (ps_ret (pe_callB (cr_all rfl) (by rfl) T.n_all (by decide +kernel) (pa_cons (pe_lc (own := [("sign", 1)]) (g := gName 1) rfl sc_is_label.nd (pi_str (pv 0)) (blkOk_by (N := ["thing", "sign"]) (sc := defScope s_is_label) (by decide +kernel)) (fun _ _ _ _ _ => pg_name (i := 1) sc_is_label.nd rfl (Or.inl rfl)) (fun _ _ _ _ _ => pts_nil) (fun _ _ _ _ _ => pe_cmpR op_in_sign (pv 1) (pe_glob (v := .str "abcdefghijklmnopqrstuvwxyz0123456789-*") rfl T.c_LABEL_SIGNS ⟨_, rfl⟩) (by rfl))) pa_nil)))))),
  (sims_seq (sims_if (sim_tOr (sim_tNot (sim_tB (sim_cb (simc_isA T.tabOk) (sim_cons (sim_var 0) (sim_cons (sim_ty _) sim_nil))))) (sim_tNot (sim_tTest (sim_chain simr_le simr_le (sim_int _) (sim_cb simc_len (sim_cons (sim_var 0) sim_nil)) (sim_int _))))) (sims_ret (sim_bl _)) sims_next)
  (sims_seq (sims_if (sim_tTest (sim_op simr_inSign (sim_str _) (sim_var 0))) (sims_ret (sim_op simr_eq (sim_var 0) (sim_str _))) sims_next)
  (sims_ret (sim_cb simc_all (sim_cons (sim_lc (simi_str (sim_var 0)) (simg_name 1) (gw_name (by simp)) sim_yes (sim_op simr_inSign (sim_var 1) (sim_str _))) sim_nil)))))⟩)
theorem ok_is_name (T : Txt w K mg) : FnOk P w K mg base CX0 2 T.f_is_name T.fd_is_name ["thing"] (spM T.cfg 1 f_is_name) :=
  fn_sim0 T.F_is_name sc_is_name rfl (fun cdv A outer s H E hr => ⟨_, (pss_cons (ps_if (PW.pt (pw_or (pt_not (pt_val (pe_callB call_isA (by rfl) T.n_isinstance (by decide +kernel) (pa_cons (pv 0) (pa_cons (pe_bltn (v := .ty "tuple") rfl T.n_tuple (by decide +kernel) rfl (by decide)) pa_nil))))) (pw_or1 (pt_cmpR op_gt (pe_callB call_len_seq (by rfl) T.n_len (by decide +kernel) (pa_cons (pv 0) pa_nil)) (pe_glob (v := .int 6) rfl T.c_MOST_LABELS ⟨_, rfl⟩) (nomark _))))) (pss_one (ps_ret pe_bl)) pss_nil)
  (pss_one (ps_ret (pe_and (pe_callB (cr_all rfl) (by rfl) T.n_all (by decide +kernel) (pa_cons (pe_lc (own := [("label", 1)]) (g := gName 1) rfl sc_is_name.nd (pi_tup (pv 0)) (blkOk_by (N := ["thing", "label"]) (sc := defScope s_is_name) (by decide +kernel)) (fun _ _ _ _ _ => pg_name (i := 1) sc_is_name.nd rfl (Or.inl rfl)) (fun _ _ _ _ _ => pts_nil) (fun _ _ _ _ _ => pe_call (ok_is_label T) (hr.mono (by decide)) (by rfl) T.g_is_label T.F_is_label.kp T.b_is_label .nil pass0 (pa_cons (pv 1) pa_nil))) pa_nil)) (pe_one (pe_cmpR op_notIn_seq (pe_glob (v := .str "*") rfl T.c_STAR ⟨_, rfl⟩) (pe_slice sl_tupA (pv 0) (po_some pe_int) po_none) (by rfl))))))),
  (sims_seq (sims_if (sim_tOr (sim_tNot (sim_tB (sim_cb (simc_isA T.tabOk) (sim_cons (sim_var 0) (sim_cons (sim_ty _) sim_nil))))) (sim_tTest (sim_op simr_gt (sim_cb simc_lenQ (sim_cons (sim_var 0) sim_nil)) (sim_int _)))) (sims_ret (sim_bl _)) sims_next)
  (sims_ret (sim_and (sim_cb simc_all (sim_cons (sim_lc (simi_tup (sim_var 0)) (simg_name 1) (gw_name (by simp)) sim_yes (sim_call0 (sim_cons (sim_var 1) sim_nil))) sim_nil)) (sim_op (simr_in true) (sim_str _) (sim_sl sims_tup (sim_var 0) (sim_part (sim_int _)) sim_noPart)))))⟩)
theorem ok_is_starless (T : Txt w K mg) : FnOk P w K mg base CX0 3 T.f_is_starless T.fd_is_starless ["thing"] (spM T.cfg 1 f_is_starless) :=
  fn_sim0 T.F_is_starless sc_is_starless rfl (fun cdv A outer s H E hr => ⟨_, (pss_one (ps_ret (pe_and (pe_call (ok_is_name T) (hr.mono (by decide)) (by rfl) T.g_is_name T.F_is_name.kp T.b_is_name .nil pass0 (pa_cons (pv 0) pa_nil)) (pe_one (pe_cmpR op_notIn_seq (pe_glob (v := .str "*") rfl T.c_STAR ⟨_, rfl⟩) (pv 0) (by rfl)))))),
  (sims_ret (sim_and (sim_call0 (sim_cons (sim_var 0) sim_nil)) (sim_op (simr_in true) (sim_str _) (sim_var 0))))⟩)
theorem ok_name_rank (T : Txt w K mg) : FnOk P w K mg base CX0 1 T.f_name_rank T.fd_name_rank ["name"] (spM T.cfg 1 f_name_rank) :=
  fn_sim0 T.F_name_rank sc_name_rank rfl (fun cdv A outer s H E hr => ⟨_, (pss_one (ps_ret (pe_back back_tup (pv 0) (po_some (pe_un un_neg pe_int))))),
  (sims_ret (sim_back simb_backT (sim_var 0) (sim_part (sim_neg (sim_int _)))))⟩)
theorem ok_is_sign (T : Txt w K mg) : FnOk P w K mg base CX0 1 T.f_is_sign T.fd_is_sign ["sign"] (spM T.cfg 1 f_is_sign) :=
  fn_sim0 T.F_is_sign sc_is_sign rfl (fun cdv A outer s H E hr => ⟨_, (pss_one (ps_ret (pe_or (pe_cmpR op_in_sign (pv 0) (pe_glob (v := .str " !\"#$") rfl T.c__LOW_SIGNS ⟨_, rfl⟩) (by rfl)) (pe_one (pe_cmpR op_in_sign (pv 0) (pe_glob (v := .str "&'()*+,-./0123456789:;<=>?\x40ABCDEFGHIJKLMNOPQRSTUVWXYZ[\\]^_`abcdefghijklmnopqrstuvwxyz{|}~") rfl T.c__HIGH_SIGNS ⟨_, rfl⟩) (by rfl)))))),
  (sims_ret (sim_or (sim_op simr_inSign (sim_var 0) (sim_str _)) (sim_op simr_inSign (sim_var 0) (sim_str _))))⟩)
theorem ok_is_kind (T : Txt w K mg) : FnOk P w K mg base CX0 1 T.f_is_kind T.fd_is_kind ["thing"] (spM T.cfg 1 f_is_kind) :=
  fn_sim0 T.F_is_kind sc_is_kind rfl (fun cdv A outer s H E hr => ⟨_, (pss_one (ps_ret (pe_and (pe_callB call_isA (by rfl) T.n_isinstance (by decide +kernel) (pa_cons (pv 0) (pa_cons (pe_bltn (v := .ty "str") rfl T.n_str (by decide +kernel) rfl (by decide)) pa_nil))) (pe_one (pe_cmpR op_in_seq (pv 0) (pe_glob (v := .ref T.A_KINDS) rfl T.c_KINDS rfl) (by rfl)))))),
  (sims_ret (sim_and (sim_cb (simc_isA T.tabOk) (sim_cons (sim_var 0) (sim_cons (sim_ty _) sim_nil))) (sim_op (simr_in false) (sim_var 0) (sim_con T.d_KINDS (fun _ _ => rel_k_KINDS)))))⟩)
theorem ok_is_life (T : Txt w K mg) : FnOk P w K mg base CX0 3 T.f_is_life T.fd_is_life ["thing"] (spM T.cfg 1 f_is_life) :=
  fn_sim0 T.F_is_life sc_is_life rfl (fun cdv A outer s H E hr => ⟨_, (pss_one (ps_ret (pe_call (ok_within T) (hr.mono (by decide)) (by rfl) T.g_within T.F_within.kp T.b_within .nil pass0 (pa_cons (pv 0) (pa_cons pe_int (pa_cons (pe_glob (v := .int 1000000) rfl T.c_LONGEST_LIFE ⟨_, rfl⟩) pa_nil)))))),
  (sims_ret (sim_call0 (sim_cons (sim_var 0) (sim_cons (sim_int _) (sim_cons (sim_int _) sim_nil)))))⟩)
theorem ok_is_key (T : Txt w K mg) : FnOk P w K mg base CX0 3 T.f_is_key T.fd_is_key ["thing"] (spM T.cfg 1 f_is_key) :=
  fn_sim0 T.F_is_key sc_is_key rfl (fun cdv A outer s H E hr => ⟨_, (pss_one (ps_ret (pe_call (ok_within T) (hr.mono (by decide)) (by rfl) T.g_within T.F_within.kp T.b_within .nil pass0 (pa_cons (pv 0) (pa_cons pe_int (pa_cons (pe_glob (v := .int 1000000000000) rfl T.c_HIGHEST_KEY ⟨_, rfl⟩) pa_nil)))))),
  (sims_ret (sim_call0 (sim_cons (sim_var 0) (sim_cons (sim_int _) (sim_cons (sim_int _) sim_nil)))))⟩)
theorem ok_is_addr (T : Txt w K mg) : FnOk P w K mg base CX0 3 T.f_is_addr T.fd_is_addr ["thing"] (spM T.cfg 1 f_is_addr) :=
  fn_sim0 T.F_is_addr sc_is_addr rfl (fun cdv A outer s H E hr => ⟨_, (pss_one (ps_ret (pe_call (ok_within T) (hr.mono (by decide)) (by rfl) T.g_within T.F_within.kp T.b_within .nil pass0 (pa_cons (pv 0) (pa_cons pe_int (pa_cons (pe_op op_sub (pe_op op_pow pe_int pe_int) pe_int) pa_nil)))))),
  (sims_ret (sim_call0 (sim_cons (sim_var 0) (sim_cons (sim_int _) (sim_cons (sim_op simr_sub (sim_op simr_pow (sim_int _) (sim_int _)) (sim_int _)) sim_nil)))))⟩)
theorem ok__is_text (T : Txt w K mg) : FnOk P w K mg base CX0 2 T.f__is_text T.fd__is_text ["thing"] (spM T.cfg 1 f__is_text) :=
  fn_sim0 T.F__is_text sc__is_text rfl (fun cdv A outer s H E hr => ⟨_, (pss_one (ps_ret (pe_and (pe_callB call_isA (by rfl) T.n_isinstance (by decide +kernel) (pa_cons (pv 0) (pa_cons (pe_bltn (v := .ty "str") rfl T.n_str (by decide +kernel) rfl (by decide)) pa_nil))) (pe_and (pe_cmpR op_le (pe_callB call_len (by rfl) T.n_len (by decide +kernel) (pa_cons (pv 0) pa_nil)) (pe_glob (v := .int 30) rfl T.c_MOST_TEXT ⟨_, rfl⟩) (nomark _)) (pe_one (pe_callB (cr_all rfl) (by rfl) T.n_all (by decide +kernel) (pa_cons (pe_lc (own := [("sign", 1)]) (g := gName 1) rfl sc__is_text.nd (pi_str (pv 0)) (blkOk_by (N := ["thing", "sign"]) (sc := defScope s__is_text) (by decide +kernel)) (fun _ _ _ _ _ => pg_name (i := 1) sc__is_text.nd rfl (Or.inl rfl)) (fun _ _ _ _ _ => pts_nil) (fun _ _ _ _ _ => pe_call (ok_is_sign T) (hr.mono (by decide)) (by rfl) T.g_is_sign T.F_is_sign.kp T.b_is_sign .nil pass0 (pa_cons (pv 1) pa_nil))) pa_nil))))))),
  (sims_ret (sim_and (sim_cb (simc_isA T.tabOk) (sim_cons (sim_var 0) (sim_cons (sim_ty _) sim_nil))) (sim_and (sim_op simr_le (sim_cb simc_len (sim_cons (sim_var 0) sim_nil)) (sim_int _)) (sim_cb simc_all (sim_cons (sim_lc (simi_str (sim_var 0)) (simg_name 1) (gw_name (by simp)) sim_yes (sim_call0 (sim_cons (sim_var 1) sim_nil))) sim_nil)))))⟩)
theorem ok__is_named (T : Txt w K mg) : FnOk P w K mg base CX0 4 T.f__is_named T.fd__is_named ["thing"] (spM T.cfg 1 f__is_named) :=
  fn_sim0 T.F__is_named sc__is_named rfl (fun cdv A outer s H E hr => ⟨_, (pss_one (ps_ret (pe_call (ok_is_starless T) (hr.mono (by decide)) (by rfl) T.g_is_starless T.F_is_starless.kp T.b_is_starless .nil pass0 (pa_cons (pv 0) pa_nil)))),
  (sims_ret (sim_call0 (sim_cons (sim_var 0) sim_nil)))⟩)
theorem ok_is_version (T : Txt w K mg) : FnOk P w K mg base CX0 3 T.f_is_version T.fd_is_version ["thing"] (spM T.cfg 1 f_is_version) :=
  fn_sim0 T.F_is_version sc_is_version rfl (fun cdv A outer s H E hr => ⟨_, (pss_one (ps_ret (pe_call (ok_within T) (hr.mono (by decide)) (by rfl) T.g_within T.F_within.kp T.b_within .nil pass0 (pa_cons (pv 0) (pa_cons pe_int (pa_cons (pe_glob (v := .int 4294967295) rfl T.c_HIGHEST_VERSION ⟨_, rfl⟩) pa_nil)))))),
  (sims_ret (sim_call0 (sim_cons (sim_var 0) (sim_cons (sim_int _) (sim_cons (sim_int _) sim_nil)))))⟩)
theorem ok__is_top (T : Txt w K mg) : FnOk P w K mg base CX0 4 T.f__is_top T.fd__is_top ["thing"] (spM T.cfg 1 f__is_top) :=
  fn_sim0 T.F__is_top sc__is_top rfl (fun cdv A outer s H E hr => ⟨_, (pss_cons (ps_if (PW.pt (pw_or (pt_not (pt_val (pe_callB call_isA (by rfl) T.n_isinstance (by decide +kernel) (pa_cons (pv 0) (pa_cons (pe_bltn (v := .ty "tuple") rfl T.n_tuple (by decide +kernel) rfl (by decide)) pa_nil))))) (pw_or1 (pt_cmpR op_ne (pe_callB call_len_seq (by rfl) T.n_len (by decide +kernel) (pa_cons (pv 0) pa_nil)) pe_int (nomark _))))) (pss_one (ps_ret pe_bl)) pss_nil)
  (pss_cons (ps_asg (pv 0) (pg_tup (by rfl) (pgs_cons (pg_name (i := 1) sc__is_top.nd rfl (Or.inl rfl)) (pgs_cons (pg_name (i := 2) sc__is_top.nd rfl (Or.inl rfl)) pgs_nil))))
  (pss_one (ps_ret (pe_and (pe_call (ok_is_version T) (hr.mono (by decide)) (by rfl) T.g_is_version T.F_is_version.kp T.b_is_version .nil pass0 (pa_cons (pv 1) pa_nil)) (pe_one (pe_call (ok_is_life T) (hr.mono (by decide)) (by rfl) T.g_is_life T.F_is_life.kp T.b_is_life .nil pass0 (pa_cons (pv 2) pa_nil)))))))),
  (sims_seq (sims_if (sim_tOr (sim_tNot (sim_tB (sim_cb (simc_isA T.tabOk) (sim_cons (sim_var 0) (sim_cons (sim_ty _) sim_nil))))) (sim_tTest (sim_op simr_ne (sim_cb simc_lenQ (sim_cons (sim_var 0) sim_nil)) (sim_int _)))) (sims_ret (sim_bl _)) sims_next)
  (sims_seq (sims_asg (sim_var 0) (simg_tup [1, 2]))
  (sims_ret (sim_and (sim_call0 (sim_cons (sim_var 1) sim_nil)) (sim_call0 (sim_cons (sim_var 2) sim_nil))))))⟩)
theorem ok__is_seal (T : Txt w K mg) : FnOk P w K mg base CX0 4 T.f__is_seal T.fd__is_seal ["thing"] (spM T.cfg 1 f__is_seal) :=
  fn_sim0 T.F__is_seal sc__is_seal rfl (fun cdv A outer s H E hr => ⟨_, (pss_cons (ps_if (PW.pt (pw_or (pt_not (pt_val (pe_callB call_isA (by rfl) T.n_isinstance (by decide +kernel) (pa_cons (pv 0) (pa_cons (pe_bltn (v := .ty "tuple") rfl T.n_tuple (by decide +kernel) rfl (by decide)) pa_nil))))) (pw_or1 (pt_cmpR op_ne (pe_callB call_len_seq (by rfl) T.n_len (by decide +kernel) (pa_cons (pv 0) pa_nil)) pe_int (nomark _))))) (pss_one (ps_ret pe_bl)) pss_nil)
  (pss_cons (ps_asg (pv 0) (pg_tup (by rfl) (pgs_cons (pg_name (i := 1) sc__is_seal.nd rfl (Or.inl rfl)) (pgs_cons (pg_name (i := 2) sc__is_seal.nd rfl (Or.inl rfl)) (pgs_cons (pg_name (i := 3) sc__is_seal.nd rfl (Or.inl rfl)) pgs_nil)))))
  (pss_one (ps_ret (pe_and (pe_call (ok_is_kind T) (hr.mono (by decide)) (by rfl) T.g_is_kind T.F_is_kind.kp T.b_is_kind .nil pass0 (pa_cons (pv 1) pa_nil)) (pe_and (pe_cmpR op_ne (pv 1) pe_str (nomark _)) (pe_and (pe_call (ok_is_key T) (hr.mono (by decide)) (by rfl) T.g_is_key T.F_is_key.kp T.b_is_key .nil pass0 (pa_cons (pv 2) pa_nil)) (pe_one (pe_call (ok_within T) (hr.mono (by decide)) (by rfl) T.g_within T.F_within.kp T.b_within .nil pass0 (pa_cons (pv 3) (pa_cons pe_int (pa_cons (pe_glob (v := .int 1000000006) rfl T.c_HIGHEST_SUM ⟨_, rfl⟩) pa_nil)))))))))))),
  (sims_seq (sims_if (sim_tOr (sim_tNot (sim_tB (sim_cb (simc_isA T.tabOk) (sim_cons (sim_var 0) (sim_cons (sim_ty _) sim_nil))))) (sim_tTest (sim_op simr_ne (sim_cb simc_lenQ (sim_cons (sim_var 0) sim_nil)) (sim_int _)))) (sims_ret (sim_bl _)) sims_next)
  (sims_seq (sims_asg (sim_var 0) (simg_tup [1, 2, 3]))
  (sims_ret (sim_and (sim_call0 (sim_cons (sim_var 1) sim_nil)) (sim_and (sim_op simr_ne (sim_var 1) (sim_str _)) (sim_and (sim_call0 (sim_cons (sim_var 2) sim_nil)) (sim_call0 (sim_cons (sim_var 3) (sim_cons (sim_int _) (sim_cons (sim_int _) sim_nil))))))))))⟩)
theorem ok__are_rising_kinds (T : Txt w K mg) : FnOk P w K mg base CX0 2 T.f__are_rising_kinds T.fd__are_rising_kinds ["thing"] (spM T.cfg 1 f__are_rising_kinds) :=
  fn_sim0 T.F__are_rising_kinds sc__are_rising_kinds rfl (fun cdv A outer s H E hr => ⟨_, (pss_cons (ps_if (PW.pt (pw_or (pt_not (pt_val (pe_callB call_isA (by rfl) T.n_isinstance (by decide +kernel) (pa_cons (pv 0) (pa_cons (pe_bltn (v := .ty "tuple") rfl T.n_tuple (by decide +kernel) rfl (by decide)) pa_nil))))) (pw_or1 (pt_not (pt_val (pe_callB (cr_all rfl) (by rfl) T.n_all (by decide +kernel) (pa_cons (pe_lc (own := [("kind", 3)]) (g := gName 3) rfl sc__are_rising_kinds.nd (pi_tup (pv 0)) (blkOk_by (N := ["thing", "first", "second", "kind"]) (sc := defScope s__are_rising_kinds) (by decide +kernel)) (fun _ _ _ _ _ => pg_name (i := 3) sc__are_rising_kinds.nd rfl (Or.inl rfl)) (fun _ _ _ _ _ => pts_nil) (fun _ _ _ _ _ => pe_call (ok_is_kind T) (hr.mono (by decide)) (by rfl) T.g_is_kind T.F_is_kind.kp T.b_is_kind .nil pass0 (pa_cons (pv 3) pa_nil))) pa_nil))))))) (pss_one (ps_ret pe_bl)) pss_nil)
  (pss_one (ps_ret (pe_callB (cr_all rfl) (by rfl) T.n_all (by decide +kernel) (pa_cons (pe_lc (own := [("first", 1), ("second", 2)]) (g := gTup T.cfg.K 2 (gNames [1, 2])) rfl sc__are_rising_kinds.nd (RZ.pi_zipA rfl T.n_zip (pa_cons (pv 0) (pa_cons (pe_slice sl_tupA (pv 0) (po_some pe_int) po_none) pa_nil))) (blkOk_by (N := ["thing", "first", "second", "kind"]) (sc := defScope s__are_rising_kinds) (by decide +kernel)) (fun _ _ _ _ _ => pg_tup rfl (pgs_cons (pg_name (i := 1) sc__are_rising_kinds.nd rfl (Or.inl rfl)) (pgs_cons (pg_name (i := 2) sc__are_rising_kinds.nd rfl (Or.inl rfl)) pgs_nil))) (fun _ _ _ _ _ => pts_nil) (fun _ _ _ _ _ => pe_cmpR op_lt_str (pv 1) (pv 2) (nomark _))) pa_nil))))),
  (sims_seq (sims_if (sim_tOr (sim_tNot (sim_tB (sim_cb (simc_isA T.tabOk) (sim_cons (sim_var 0) (sim_cons (sim_ty _) sim_nil))))) (sim_tNot (sim_tB (sim_cb simc_all (sim_cons (sim_lc (simi_tup (sim_var 0)) (simg_name 3) (gw_name (by simp)) sim_yes (sim_call0 (sim_cons (sim_var 3) sim_nil))) sim_nil))))) (sims_ret (sim_bl _)) sims_next)
  (sims_ret (sim_cb simc_all (sim_cons (sim_lc (simi_zipT (sim_cons (sim_var 0) (sim_cons (sim_sl sims_tup (sim_var 0) (sim_part (sim_int _)) sim_noPart) sim_nil))) (simg_tup [1, 2]) (gw_tup [1, 2] (by simp)) sim_yes (sim_op simr_ltS (sim_var 1) (sim_var 2))) sim_nil))))⟩)
theorem ok__is_gap (T : Txt w K mg) : FnOk P w K mg base CX0 3 T.f__is_gap T.fd__is_gap ["thing"] (spM T.cfg 1 f__is_gap) :=
  fn_sim0 T.F__is_gap sc__is_gap rfl (fun cdv A outer s H E hr => ⟨_, (pss_cons (ps_if (PW.pt (pw_or (pt_not (pt_val (pe_callB call_isA (by rfl) T.n_isinstance (by decide +kernel) (pa_cons (pv 0) (pa_cons (pe_bltn (v := .ty "tuple") rfl T.n_tuple (by decide +kernel) rfl (by decide)) pa_nil))))) (pw_or1 (pt_cmpR op_ne (pe_callB call_len_seq (by rfl) T.n_len (by decide +kernel) (pa_cons (pv 0) pa_nil)) pe_int (nomark _))))) (pss_one (ps_ret pe_bl)) pss_nil)
  (pss_cons (ps_asg (pv 0) (pg_tup (by rfl) (pgs_cons (pg_name (i := 1) sc__is_gap.nd rfl (Or.inl rfl)) (pgs_cons (pg_name (i := 2) sc__is_gap.nd rfl (Or.inl rfl)) pgs_nil))))
  (pss_one (ps_ret (pe_and (pe_call (ok_is_name T) (hr.mono (by decide)) (by rfl) T.g_is_name T.F_is_name.kp T.b_is_name .nil pass0 (pa_cons (pv 1) pa_nil)) (pe_one (pe_call (ok__are_rising_kinds T) (hr.mono (by decide)) (by rfl) T.g__are_rising_kinds T.F__are_rising_kinds.kp T.b__are_rising_kinds .nil pass0 (pa_cons (pv 2) pa_nil)))))))),
  (sims_seq (sims_if (sim_tOr (sim_tNot (sim_tB (sim_cb (simc_isA T.tabOk) (sim_cons (sim_var 0) (sim_cons (sim_ty _) sim_nil))))) (sim_tTest (sim_op simr_ne (sim_cb simc_lenQ (sim_cons (sim_var 0) sim_nil)) (sim_int _)))) (sims_ret (sim_bl _)) sims_next)
  (sims_seq (sims_asg (sim_var 0) (simg_tup [1, 2]))
  (sims_ret (sim_and (sim_call0 (sim_cons (sim_var 1) sim_nil)) (sim_call0 (sim_cons (sim_var 2) sim_nil))))))⟩)
theorem ok_is_data (T : Txt w K mg) : FnOk P w K mg base CX0 5 T.f_is_data T.fd_is_data ["kind", "thing"] (spM T.cfg 2 f_is_data) :=
  fn_sim0 T.F_is_data sc_is_data rfl (fun cdv A outer s H E hr => ⟨_, (pss_cons (ps_set (i := 2) sc_is_data.nd rfl (Or.inl rfl) (pe_ix ix_kdict (pe_glob (v := .ref T.A__DATA_TESTS) rfl T.c__DATA_TESTS rfl) (pv 0) (fun _ _ => rfl)))
  (pss_one (ps_ret (pe_callB2 (k := 4) (i := 2) (S := heldS T.cfg 1 lc_is_data_fits) (by intro f sp h; rcases h with ⟨rfl, rfl⟩ | ⟨rfl, rfl⟩ | ⟨rfl, rfl⟩ | ⟨rfl, rfl⟩ | ⟨rfl, rfl⟩ | ⟨rfl, rfl⟩ | ⟨rfl, rfl⟩ | h <;> first | exact ⟨⟨_, _, (ok_is_addr T).mono (by decide), T.F_is_addr.kp, T.b_is_addr⟩⟩ | exact ⟨⟨_, _, (ok__is_text T).mono (by decide), T.F__is_text.kp, T.b__is_text⟩⟩ | exact ⟨⟨_, _, (ok__is_named T).mono (by decide), T.F__is_named.kp, T.b__is_named⟩⟩ | exact ⟨⟨_, _, (ok__is_top T).mono (by decide), T.F__is_top.kp, T.b__is_top⟩⟩ | exact ⟨⟨_, _, (ok_is_key T).mono (by decide), T.F_is_key.kp, T.b_is_key⟩⟩ | exact ⟨⟨_, _, (ok__is_seal T).mono (by decide), T.F__is_seal.kp, T.b__is_seal⟩⟩ | exact ⟨⟨_, _, (ok__is_gap T).mono (by decide), T.F__is_gap.kp, T.b__is_gap⟩⟩ | exact h.elim) (hr.mono (by decide)) rfl (Or.inl rfl) (pa_cons (pv 1) pa_nil))))),
  (sims_seq (sims_asg (sim_tab T.d__DATA_TESTS (sim_var 0)) (simg_name 2))
  (sims_ret (sim_callL (sim_cons (sim_var 1) sim_nil))))⟩)
theorem ok_is_record (T : Txt w K mg) : FnOk P w K mg base CX0 6 T.f_is_record T.fd_is_record ["thing"] (spM T.cfg 1 f_is_record) :=
  fn_sim0 T.F_is_record sc_is_record rfl (fun cdv A outer s H E hr => ⟨_, (pss_cons (ps_if (PW.pt (pw_or (pt_not (pt_val (pe_callB call_isA (by rfl) T.n_isinstance (by decide +kernel) (pa_cons (pv 0) (pa_cons (pe_bltn (v := .ty "tuple") rfl T.n_tuple (by decide +kernel) rfl (by decide)) pa_nil))))) (pw_or1 (pt_cmpR op_ne (pe_callB call_len_seq (by rfl) T.n_len (by decide +kernel) (pa_cons (pv 0) pa_nil)) pe_int (nomark _))))) (pss_one (ps_ret pe_bl)) pss_nil)
  (pss_cons (ps_asg (pv 0) (pg_tup (by rfl) (pgs_cons (pg_name (i := 1) sc_is_record.nd rfl (Or.inl rfl)) (pgs_cons (pg_name (i := 2) sc_is_record.nd rfl (Or.inl rfl)) (pgs_cons (pg_name (i := 3) sc_is_record.nd rfl (Or.inl rfl)) (pgs_cons (pg_name (i := 4) sc_is_record.nd rfl (Or.inl rfl)) pgs_nil))))))
  (pss_one (ps_ret (pe_and (pe_call (ok_is_name T) (hr.mono (by decide)) (by rfl) T.g_is_name T.F_is_name.kp T.b_is_name .nil pass0 (pa_cons (pv 1) pa_nil)) (pe_and (pe_call (ok_is_kind T) (hr.mono (by decide)) (by rfl) T.g_is_kind T.F_is_kind.kp T.b_is_kind .nil pass0 (pa_cons (pv 2) pa_nil)) (pe_and (pe_call (ok_is_life T) (hr.mono (by decide)) (by rfl) T.g_is_life T.F_is_life.kp T.b_is_life .nil pass0 (pa_cons (pv 3) pa_nil)) (pe_one (pe_call (ok_is_data T) (hr.mono (by decide)) (by rfl) T.g_is_data T.F_is_data.kp T.b_is_data .nil pass0 (pa_cons (pv 2) (pa_cons (pv 4) pa_nil))))))))))),
  (sims_seq (sims_if (sim_tOr (sim_tNot (sim_tB (sim_cb (simc_isA T.tabOk) (sim_cons (sim_var 0) (sim_cons (sim_ty _) sim_nil))))) (sim_tTest (sim_op simr_ne (sim_cb simc_lenQ (sim_cons (sim_var 0) sim_nil)) (sim_int _)))) (sims_ret (sim_bl _)) sims_next)
  (sims_seq (sims_asg (sim_var 0) (simg_tup [1, 2, 3, 4]))
  (sims_ret (sim_and (sim_call0 (sim_cons (sim_var 1) sim_nil)) (sim_and (sim_call0 (sim_cons (sim_var 2) sim_nil)) (sim_and (sim_call0 (sim_cons (sim_var 3) sim_nil)) (sim_call0 (sim_cons (sim_var 2) (sim_cons (sim_var 4) sim_nil)))))))))⟩)
theorem ok_are_records (T : Txt w K mg) : FnOk P w K mg base CX0 7 T.f_are_records T.fd_are_records ["thing"] (spM T.cfg 1 f_are_records) :=
  fn_sim0 T.F_are_records sc_are_records rfl (fun cdv A outer s H E hr => ⟨_, (pss_one (ps_ret (pe_and (pe_callB call_isA (by rfl) T.n_isinstance (by decide +kernel) (pa_cons (pv 0) (pa_cons (pe_bltn (v := .ty "list") rfl T.n_list (by decide +kernel) rfl (by decide)) pa_nil))) (pe_one (pe_callB (cr_all rfl) (by rfl) T.n_all (by decide +kernel) (pa_cons (pe_lc (own := [("record", 1)]) (g := gName 1) rfl sc_are_records.nd (pi_list (pv 0)) (blkOk_by (N := ["thing", "record"]) (sc := defScope s_are_records) (by decide +kernel)) (fun _ _ _ _ _ => pg_name (i := 1) sc_are_records.nd rfl (Or.inl rfl)) (fun _ _ _ _ _ => pts_nil) (fun _ _ _ _ _ => pe_call (ok_is_record T) (hr.mono (by decide)) (by rfl) T.g_is_record T.F_is_record.kp T.b_is_record .nil pass0 (pa_cons (pv 1) pa_nil))) pa_nil)))))),
  (sims_ret (sim_and (sim_cb (simc_isA T.tabOk) (sim_cons (sim_var 0) (sim_cons (sim_ty _) sim_nil))) (sim_cb simc_all (sim_cons (sim_lc (simi_list (sim_var 0)) (simg_name 1) (gw_name (by simp)) sim_yes (sim_call0 (sim_cons (sim_var 1) sim_nil))) sim_nil))))⟩)
theorem ok_data_rank (T : Txt w K mg) : FnOk P w K mg base CX0 2 T.f_data_rank T.fd_data_rank ["kind", "data"] (spM T.cfg 2 f_data_rank) :=
  fn_sim0 T.F_data_rank sc_data_rank rfl (fun cdv A outer s H E hr => ⟨_, (pss_cons (ps_if (pt_cmpR op_in_seq (pv 0) (pe_tup (pa_cons pe_str (pa_cons pe_str pa_nil))) (by rfl)) (pss_one (ps_ret (pe_call (ok_name_rank T) (hr.mono (by decide)) (by rfl) T.g_name_rank T.F_name_rank.kp T.b_name_rank .nil pass0 (pa_cons (pv 1) pa_nil)))) pss_nil)
  (pss_cons (ps_if (pt_cmpR op_eq (pv 0) pe_str (nomark _)) (pss_cons (ps_asg (pv 1) (pg_tup (by rfl) (pgs_cons (pg_name (i := 2) sc_data_rank.nd rfl (Or.inl rfl)) (pgs_cons (pg_name (i := 3) sc_data_rank.nd rfl (Or.inl rfl)) pgs_nil))))
  (pss_one (ps_ret (pe_tup (pa_cons (pe_call (ok_name_rank T) (hr.mono (by decide)) (by rfl) T.g_name_rank T.F_name_rank.kp T.b_name_rank .nil pass0 (pa_cons (pv 2) pa_nil)) (pa_cons (pv 3) pa_nil)))))) pss_nil)
  (pss_one (ps_ret (pv 1))))),
  (sims_seq (sims_if (sim_tTest (sim_op (simr_in false) (sim_var 0) (sim_tup (sim_cons (sim_str _) (sim_cons (sim_str _) sim_nil))))) (sims_ret (sim_call0 (sim_cons (sim_var 1) sim_nil))) sims_next)
  (sims_seq (sims_if (sim_tTest (sim_op simr_eq (sim_var 0) (sim_str _))) (sims_seq (sims_asg (sim_var 1) (simg_tup [2, 3]))
  (sims_ret (sim_tup (sim_cons (sim_call0 (sim_cons (sim_var 2) sim_nil)) (sim_cons (sim_var 3) sim_nil))))) sims_next)
  (sims_ret (sim_var 1))))⟩)
theorem ok_record_rank (T : Txt w K mg) : FnOk P w K mg base CX0 3 T.f_record_rank T.fd_record_rank ["record"] (spM T.cfg 1 f_record_rank) :=
  fn_sim0 T.F_record_rank sc_record_rank rfl (fun cdv A outer s H E hr => ⟨_, (pss_cons (ps_asg (pv 0) (pg_tup (by rfl) (pgs_cons (pg_name (i := 1) sc_record_rank.nd rfl (Or.inl rfl)) (pgs_cons (pg_name (i := 2) sc_record_rank.nd rfl (Or.inl rfl)) (pgs_cons (pg_name (i := 3) sc_record_rank.nd rfl (Or.inl rfl)) (pgs_cons (pg_name (i := 4) sc_record_rank.nd rfl (Or.inl rfl)) pgs_nil))))))
  (pss_one (ps_ret (pe_tup (pa_cons (pe_call (ok_name_rank T) (hr.mono (by decide)) (by rfl) T.g_name_rank T.F_name_rank.kp T.b_name_rank .nil pass0 (pa_cons (pv 1) pa_nil)) (pa_cons (pv 2) (pa_cons (pe_call (ok_data_rank T) (hr.mono (by decide)) (by rfl) T.g_data_rank T.F_data_rank.kp T.b_data_rank .nil pass0 (pa_cons (pv 2) (pa_cons (pv 4) pa_nil))) (pa_cons (pv 3) pa_nil)))))))),
  (sims_seq (sims_asg (sim_var 0) (simg_tup [1, 2, 3, 4]))
  (sims_ret (sim_tup (sim_cons (sim_call0 (sim_cons (sim_var 1) sim_nil)) (sim_cons (sim_var 2) (sim_cons (sim_call0 (sim_cons (sim_var 2) (sim_cons (sim_var 4) sim_nil))) (sim_cons (sim_var 3) sim_nil)))))))⟩)
theorem ok_ordered (T : Txt w K mg) : FnOk P w K mg base (L2.CX P w) 8 T.f_ordered T.fd_ordered ["records"] (spM T.cfg 1 f_ordered) :=
  fn_simX T.F_ordered sc_ordered rfl (fun cdv A outer s H E hr => ⟨_, (pss_cons (ps_if (pt_not (pt_val (pe_call (ok_are_records T) (hr.mono (by decide)) (by rfl) T.g_are_records T.F_are_records.kp T.b_are_records .nil pass0 (pa_cons (pv 0) pa_nil)))) (pss_one (ps_raise rfl (takes_of rfl rfl rfl rfl) (pmk_own PySem.F.excBase_ValueError T.x_BadRecord T.g_BadRecord T.k_BadRecord (raises_own T.s_BadRecord T.t_BadRecord) rfl))) pss_nil)
  (pss_one (ps_ret (pe_callBK (cr_sortKey (ok_record_rank T) (room_in (hr.mono (by decide))) T.b_record_rank) (by rfl) T.n_sorted (by decide +kernel) (pa_cons (pv 0) pa_nil) (pk_cons (pe_glob (v := .ref T.f_record_rank) rfl T.g_record_rank rfl) pk_nil))))),
  (sims_seq (sims_if (sim_tNot (sim_tB (sim_call0 (sim_cons (sim_var 0) sim_nil)))) (sims_raise 2) sims_next)
  (sims_ret (sim_sortKey (fm := runB 5 b_record_rank) (sim_cons (sim_var 0) sim_nil))))⟩)
theorem ok__law_cell_at (T : Txt w K mg) : FnOk P w K mg base CX0 1 T.f__law_cell_at T.fd__law_cell_at ["_law_script", "_law_k"] (spM T.cfg 2 f__law_cell_at) :=
  fn_sim0 T.F__law_cell_at sc__law_cell_at rfl (fun cdv A outer s H E hr => ⟨_, (pss_cons (ps_if (pt_cmpR op_lt (pv 1) (pe_callB call_len_seq (by rfl) T.n_len (by decide +kernel) (pa_cons (pv 0) pa_nil)) (nomark _)) (pss_one (ps_ret (pe_ix ix_list (pv 0) (pv 1) (fun _ _ => rfl)))) pss_nil)
  (pss_one (ps_ret pe_int))),
  (sims_seq (sims_if (sim_tTest (sim_op simr_lt (sim_var 1) (sim_cb simc_lenQ (sim_cons (sim_var 0) sim_nil)))) (sims_ret (sim_op simr_ixL (sim_var 0) (sim_var 1))) sims_next)
  (sims_ret (sim_int _)))⟩)
theorem ok__law_next (T : Txt w K mg) : FnOk P w K mg base CX0 2 T.f__law_next T.fd__law_next ["_law_state"] (spM T.cfg 1 f__law_next) :=
  fn_sim0 T.F__law_next sc__law_next rfl (fun cdv A outer s H E hr => ⟨_, (pss_cons (ps_dput (hu_of hr) (pv 0) pe_str (pe_op op_add (pe_dget (hu_of hr) (pv 0) pe_str (fun _ _ => rfl)) pe_int) rfl)
  (pss_cons (ps_set (i := 1) sc__law_next.nd rfl (Or.inl rfl) (pe_dget (hu_of hr) (pv 0) pe_str (fun _ _ => rfl)))
  (pss_cons (ps_set (i := 2) sc__law_next.nd rfl (Or.inl rfl) (pe_call (ok__law_cell_at T) (hr.mono (by decide)) (by rfl) T.g__law_cell_at T.F__law_cell_at.kp T.b__law_cell_at .nil pass0 (pa_cons (pe_dget (hu_of hr) (pv 0) pe_str (fun _ _ => rfl)) (pa_cons (pe_op op_mod (pv 1) (pe_callB (call_max2 rfl) (by rfl) T.n_max (by decide +kernel) (pa_cons pe_int (pa_cons (pe_callB call_len_seq (by rfl) T.n_len (by decide +kernel) (pa_cons (pe_dget (hu_of hr) (pv 0) pe_str (fun _ _ => rfl)) pa_nil)) pa_nil)))) pa_nil))))
  (pss_one (ps_ret (pe_op op_fdiv (pe_op op_mod (pe_op op_add (pe_op op_mul (pv 2) pe_int) (pe_op op_mul (pe_op op_mul (pv 1) (pv 1)) pe_int)) pe_int) pe_int)))))),
  (sims_seq (sims_dput (sim_var 0) (sim_str _) (sim_op simr_add (sim_dget (sim_var 0) (sim_str _)) (sim_int _)))
  (sims_seq (sims_asg (sim_dget (sim_var 0) (sim_str _)) (simg_name 1))
  (sims_seq (sims_asg (sim_call0 (sim_cons (sim_dget (sim_var 0) (sim_str _)) (sim_cons (sim_op simr_mod (sim_var 1) (sim_cb simc_max2 (sim_cons (sim_int _) (sim_cons (sim_cb simc_lenQ (sim_cons (sim_dget (sim_var 0) (sim_str _)) sim_nil)) sim_nil)))) sim_nil))) (simg_name 2))
  (sims_ret (sim_op simr_fdiv (sim_op simr_mod (sim_op simr_add (sim_op simr_mul (sim_var 2) (sim_int _)) (sim_op simr_mul (sim_op simr_mul (sim_var 1) (sim_var 1)) (sim_int _))) (sim_int _)) (sim_int _))))))⟩)
theorem ok__law_great (T : Txt w K mg) : FnOk P w K mg base CX0 3 T.f__law_great T.fd__law_great ["_law_state", "_law_most"] (spM T.cfg 2 f__law_great) :=
  fn_sim0 T.F__law_great sc__law_great rfl (fun cdv A outer s H E hr => ⟨_, (pss_cons (ps_set (i := 2) sc__law_great.nd rfl (Or.inl rfl) (pe_call (ok__law_next T) (hr.mono (by decide)) (by rfl) T.g__law_next T.F__law_next.kp T.b__law_next .nil pass0 (pa_cons (pv 0) pa_nil)))
  (pss_cons (ps_set (i := 3) sc__law_great.nd rfl (Or.inl rfl) (pe_op op_add (pe_op op_mul (pe_op op_add (pe_op op_mul (pv 2) pe_int) (pe_call (ok__law_next T) (hr.mono (by decide)) (by rfl) T.g__law_next T.F__law_next.kp T.b__law_next .nil pass0 (pa_cons (pv 0) pa_nil))) pe_int) (pe_call (ok__law_next T) (hr.mono (by decide)) (by rfl) T.g__law_next T.F__law_next.kp T.b__law_next .nil pass0 (pa_cons (pv 0) pa_nil))))
  (pss_one (ps_ret (pe_ix ix_list (pe_lst (pa_cons pe_int (pa_cons pe_int (pa_cons (pv 1) (pa_cons (pe_op op_sub (pv 1) pe_int) (pa_cons (pe_op op_mod (pv 3) (pe_op op_add (pv 1) pe_int)) (pa_cons (pe_op op_mod (pv 3) (pe_op op_add (pv 1) pe_int)) (pa_cons (pe_op op_mod (pe_op op_mod (pv 2) pe_int) (pe_op op_add (pv 1) pe_int)) pa_nil)))))))) (pe_op op_mod (pv 2) pe_int) (fun _ _ => rfl)))))),
  (sims_seq (sims_asg (sim_call0 (sim_cons (sim_var 0) sim_nil)) (simg_name 2))
  (sims_seq (sims_asg (sim_op simr_add (sim_op simr_mul (sim_op simr_add (sim_op simr_mul (sim_var 2) (sim_int _)) (sim_call0 (sim_cons (sim_var 0) sim_nil))) (sim_int _)) (sim_call0 (sim_cons (sim_var 0) sim_nil))) (simg_name 3))
  (sims_ret (sim_op simr_ixL (sim_lst (sim_cons (sim_int _) (sim_cons (sim_int _) (sim_cons (sim_var 1) (sim_cons (sim_op simr_sub (sim_var 1) (sim_int _)) (sim_cons (sim_op simr_mod (sim_var 3) (sim_op simr_add (sim_var 1) (sim_int _))) (sim_cons (sim_op simr_mod (sim_var 3) (sim_op simr_add (sim_var 1) (sim_int _))) (sim_cons (sim_op simr_mod (sim_op simr_mod (sim_var 2) (sim_int _)) (sim_op simr_add (sim_var 1) (sim_int _))) sim_nil)))))))) (sim_op simr_mod (sim_var 2) (sim_int _))))))⟩)
theorem ok__law_signs (T : Txt w K mg) : FnOk P w K mg base CX0 1 T.f__law_signs T.fd__law_signs [] (spM T.cfg 0 f__law_signs) :=
  fn_sim0 T.F__law_signs sc__law_signs rfl (fun cdv A outer s H E hr => ⟨_, (pss_one (ps_ret pe_str)),
  (sims_ret (sim_str _))⟩)
theorem ok__law_label (T : Txt w K mg) : FnOk P w K mg base CX0 2 T.f__law_label T.fd__law_label ["_law_number", "_law_size"] (spM T.cfg 2 f__law_label) :=
  fn_sim0 T.F__law_label sc__law_label rfl (fun cdv A outer s H E hr => ⟨_, (pss_cons (ps_set (i := 2) sc__law_label.nd rfl (Or.inr rfl) (pe_call0 (ok__law_signs T) (hr.mono (by decide)) (by rfl) T.g__law_signs T.F__law_signs.kp T.b__law_signs .nil pass0))
  (pss_one (ps_ret (pe_join pe_str (pe_lc (own := [("_law_k", 3)]) (g := gName 3) rfl sc__law_label.nd (pi_range1 rfl T.n_range (pa_cons (pv 1) pa_nil)) (blkOk_by (N := ["_law_number", "_law_size", "_law_signs_here", "_law_k"]) (sc := defScope s__law_label) (by decide +kernel)) (fun _ _ _ _ _ => pg_name (i := 3) sc__law_label.nd rfl (Or.inl rfl)) (fun _ _ _ _ _ => pts_nil) (fun _ _ _ _ _ => pe_ix ix_str (pv 2) (pe_op op_mod (pe_op op_add (pe_op op_add (pe_op op_fdiv (pv 0) pe_int) (pe_op op_mul (pe_op op_mul pe_int (pv 3)) (pv 3))) (pe_op op_mul pe_int (pv 3))) pe_int) (fun _ _ => rfl))))))),
  (sims_seq (sims_asg (sim_call0 sim_nil) (simg_name 2))
  (sims_ret (sim_m1 simm_join (sim_str _) (sim_lc (simi_range1 (sim_cons (sim_var 1) sim_nil)) (simg_name 3) (gw_name (by simp)) sim_yes (sim_op simr_ixS (sim_var 2) (sim_op simr_mod (sim_op simr_add (sim_op simr_add (sim_op simr_fdiv (sim_var 0) (sim_int _)) (sim_op simr_mul (sim_op simr_mul (sim_int _) (sim_var 3)) (sim_var 3))) (sim_op simr_mul (sim_int _) (sim_var 3))) (sim_int _)))))))⟩)
theorem ok__law_labels (T : Txt w K mg) : FnOk P w K mg base CX0 3 T.f__law_labels T.fd__law_labels ["_law_state"] (spM T.cfg 1 f__law_labels) :=
  fn_sim0 T.F__law_labels sc__law_labels rfl (fun cdv A outer s H E hr => ⟨_, (pss_cons (ps_set (i := 1) sc__law_labels.nd rfl (Or.inl rfl) (pe_call (ok__law_label T) (hr.mono (by decide)) (by rfl) T.g__law_label T.F__law_label.kp T.b__law_label .nil pass0 (pa_cons (pe_call (ok__law_next T) (hr.mono (by decide)) (by rfl) T.g__law_next T.F__law_next.kp T.b__law_next .nil pass0 (pa_cons (pv 0) pa_nil)) (pa_cons pe_int pa_nil))))
  (pss_cons (ps_set (i := 2) sc__law_labels.nd rfl (Or.inl rfl) (pe_lst pa_nil))
  (pss_cons (ps_for PassesOwn.never rfl (pi_range1 rfl T.n_range (pa_cons pe_int pa_nil)) (pg_name (i := 3) sc__law_labels.nd rfl (Or.inl rfl)) (pss_cons (ps_set (i := 4) sc__law_labels.nd rfl (Or.inl rfl) (pe_call (ok__law_next T) (hr.mono (by decide)) (by rfl) T.g__law_next T.F__law_next.kp T.b__law_next .nil pass0 (pa_cons (pv 0) pa_nil)))
  (pss_cons (ps_set (i := 5) sc__law_labels.nd rfl (Or.inl rfl) (pe_ix ix_list (pe_lst (pa_cons pe_int (pa_cons pe_int (pa_cons (pe_op op_add pe_int (pe_op op_mod (pe_op op_fdiv (pv 4) pe_int) pe_int)) (pa_cons pe_int (pa_cons pe_int pa_nil)))))) (pe_op op_mod (pv 4) pe_int) (fun _ _ => rfl)))
  (pss_cons (ps_set (i := 6) sc__law_labels.nd rfl (Or.inl rfl) (pe_op op_mod (pe_op op_fdiv (pv 4) pe_int) (pv 5)))
  (pss_cons (ps_set (i := 7) sc__law_labels.nd rfl (Or.inl rfl) (pe_ix ix_str (pe_call0 (ok__law_signs T) (hr.mono (by decide)) (by rfl) T.g__law_signs T.F__law_signs.kp T.b__law_signs .nil pass0) (pe_op op_mod (pe_op op_fdiv (pv 4) pe_int) pe_int) (fun _ _ => rfl)))
  (pss_one (ps_expr (pe_bm PySem.F.plainAttrs_list PySem.F.slot_list_append PySem.F.type_list_append mt_append (pv 2) (pa_cons (pe_op op_add_str (pe_op op_add_str (pe_slice sl_str (pv 1) po_none (po_some (pv 6))) (pv 7)) (pe_slice sl_str (pv 1) (po_some (pe_op op_add (pv 6) pe_int)) (po_some (pv 5)))) pa_nil)))))))))
  (pss_cons (ps_set (i := 4) sc__law_labels.nd rfl (Or.inl rfl) (pe_call (ok__law_next T) (hr.mono (by decide)) (by rfl) T.g__law_next T.F__law_next.kp T.b__law_next .nil pass0 (pa_cons (pv 0) pa_nil)))
  (pss_cons (ps_set (i := 7) sc__law_labels.nd rfl (Or.inl rfl) (pe_ix ix_str (pe_call0 (ok__law_signs T) (hr.mono (by decide)) (by rfl) T.g__law_signs T.F__law_signs.kp T.b__law_signs .nil pass0) (pe_op op_mod (pe_op op_fdiv (pv 4) pe_int) pe_int) (fun _ _ => rfl)))
  (pss_cons (ps_expr (pe_bm PySem.F.plainAttrs_list PySem.F.slot_list_append PySem.F.type_list_append mt_append (pv 2) (pa_cons (pe_ifExp (pt_cmpR op_lt (pe_callB call_len (by rfl) T.n_len (by decide +kernel) (pa_cons (pe_ix ix_list (pv 2) pe_int (fun _ _ => rfl)) pa_nil)) pe_int (nomark _)) (pe_slice sl_str (pe_op op_add_str (pv 7) (pe_ix ix_list (pv 2) pe_int (fun _ _ => rfl))) po_none (po_some pe_int)) (pe_slice sl_str (pe_ix ix_list (pv 2) pe_int (fun _ _ => rfl)) (po_some pe_int) po_none)) pa_nil)))
  (pss_one (ps_ret (pe_op op_cat (pv 2) (pe_lst (pa_cons (pe_op op_add_str (pe_op op_add_str (pe_slice sl_str (pe_ix ix_list (pv 2) (pe_op op_mod (pv 4) pe_int) (fun _ _ => rfl)) po_none (po_some pe_int)) pe_str) (pe_op op_mulS (pv 7) (pe_op op_mod (pe_op op_fdiv (pv 4) pe_int) pe_int))) pa_nil))))))))))),
  (sims_seq (sims_asg (sim_call0 (sim_cons (sim_call0 (sim_cons (sim_var 0) sim_nil)) (sim_cons (sim_int _) sim_nil))) (simg_name 1))
  (sims_seq (sims_asg (sim_lst sim_nil) (simg_name 2))
  (sims_seq (sims_for (simi_range1 (sim_cons (sim_int _) sim_nil)) (simg_name 3) (sims_seq (sims_asg (sim_call0 (sim_cons (sim_var 0) sim_nil)) (simg_name 4))
  (sims_seq (sims_asg (sim_op simr_ixL (sim_lst (sim_cons (sim_int _) (sim_cons (sim_int _) (sim_cons (sim_op simr_add (sim_int _) (sim_op simr_mod (sim_op simr_fdiv (sim_var 4) (sim_int _)) (sim_int _))) (sim_cons (sim_int _) (sim_cons (sim_int _) sim_nil)))))) (sim_op simr_mod (sim_var 4) (sim_int _))) (simg_name 5))
  (sims_seq (sims_asg (sim_op simr_mod (sim_op simr_fdiv (sim_var 4) (sim_int _)) (sim_var 5)) (simg_name 6))
  (sims_seq (sims_asg (sim_op simr_ixS (sim_call0 sim_nil) (sim_op simr_mod (sim_op simr_fdiv (sim_var 4) (sim_int _)) (sim_int _))) (simg_name 7))
  (sims_drop (sim_bm simb_append (sim_var 2) (sim_cons (sim_op simr_addS (sim_op simr_addS (sim_sl sims_str (sim_var 1) sim_noPart (sim_part (sim_var 6))) (sim_var 7)) (sim_sl sims_str (sim_var 1) (sim_part (sim_op simr_add (sim_var 6) (sim_int _))) (sim_part (sim_var 5)))) sim_nil))))))))
  (sims_seq (sims_asg (sim_call0 (sim_cons (sim_var 0) sim_nil)) (simg_name 4))
  (sims_seq (sims_asg (sim_op simr_ixS (sim_call0 sim_nil) (sim_op simr_mod (sim_op simr_fdiv (sim_var 4) (sim_int _)) (sim_int _))) (simg_name 7))
  (sims_seq (sims_drop (sim_bm simb_append (sim_var 2) (sim_cons (sim_if (sim_tTest (sim_op simr_lt (sim_cb simc_len (sim_cons (sim_op simr_ixL (sim_var 2) (sim_int _)) sim_nil)) (sim_int _))) (sim_sl sims_str (sim_op simr_addS (sim_var 7) (sim_op simr_ixL (sim_var 2) (sim_int _))) sim_noPart (sim_part (sim_int _))) (sim_sl sims_str (sim_op simr_ixL (sim_var 2) (sim_int _)) (sim_part (sim_int _)) sim_noPart)) sim_nil)))
  (sims_ret (sim_op simr_cat (sim_var 2) (sim_lst (sim_cons (sim_op simr_addS (sim_op simr_addS (sim_sl sims_str (sim_op simr_ixL (sim_var 2) (sim_op simr_mod (sim_var 4) (sim_int _))) sim_noPart (sim_part (sim_int _))) (sim_str _)) (sim_op simr_mulS (sim_var 7) (sim_op simr_mod (sim_op simr_fdiv (sim_var 4) (sim_int _)) (sim_int _)))) sim_nil))))))))))⟩)
theorem ok__law_name (T : Txt w K mg) : FnOk P w K mg base CX0 3 T.f__law_name T.fd__law_name ["_law_state", "_law_labels_here"] (spM T.cfg 2 f__law_name) :=
  fn_sim0 T.F__law_name sc__law_name rfl (fun cdv A outer s H E hr => ⟨_, (pss_cons (ps_set (i := 2) sc__law_name.nd rfl (Or.inl rfl) (pe_call (ok__law_next T) (hr.mono (by decide)) (by rfl) T.g__law_next T.F__law_next.kp T.b__law_next .nil pass0 (pa_cons (pv 0) pa_nil)))
  (pss_cons (ps_set (i := 3) sc__law_name.nd rfl (Or.inl rfl) (pe_ix ix_list (pe_lst (pa_cons pe_int (pa_cons pe_int (pa_cons pe_int (pa_cons pe_int (pa_cons pe_int (pa_cons pe_int (pa_cons pe_int pa_nil)))))))) (pe_op op_mod (pv 2) pe_int) (fun _ _ => rfl)))
  (pss_cons (ps_setLc (i := 4) (own := [("_law_turn", 5)]) (g := gName 5) rfl sc__law_name.nd rfl rfl (sw_true rfl rfl rfl (by decide +kernel)) (pi_range1 rfl T.n_range (pa_cons (pv 3) pa_nil)) (blkOk_by (N := ["_law_state", "_law_labels_here", "_law_number", "_law_many", "_law_found", "_law_turn"]) (sc := defScope s__law_name) (by decide +kernel)) (fun _ _ _ _ _ => pg_name (i := 5) sc__law_name.nd rfl (Or.inl rfl)) (fun _ _ _ _ _ => pts_nil) (fun _ _ _ _ _ => pe_ix ix_list (pv 1) (pe_op op_mod (pe_call (ok__law_next T) (hr.mono (by decide)) (by rfl) T.g__law_next T.F__law_next.kp T.b__law_next .nil pass0 (pa_cons (pv 0) pa_nil)) pe_int) (fun _ _ => rfl)))
  (pss_cons (ps_if (PW.pt (pw_and (pt_cmpR (op_neD hr.units) (pv 4) (pe_lst pa_nil) (nomark _)) (pw_and1 (pt_cmpR op_eq (pe_op op_mod (pe_op op_fdiv (pv 2) pe_int) pe_int) pe_int (nomark _))))) (pss_one (ps_asg pe_str (pg_sub (pv 4) pe_int set_list (fun _ => rfl)))) pss_nil)
  (pss_one (ps_ret (pe_callTy call_tuple_of (by rfl) T.n_tuple (by decide +kernel) (pa_cons (pv 4) pa_nil)))))))),
  (sims_seq (sims_asg (sim_call0 (sim_cons (sim_var 0) sim_nil)) (simg_name 2))
  (sims_seq (sims_asg (sim_op simr_ixL (sim_lst (sim_cons (sim_int _) (sim_cons (sim_int _) (sim_cons (sim_int _) (sim_cons (sim_int _) (sim_cons (sim_int _) (sim_cons (sim_int _) (sim_cons (sim_int _) sim_nil)))))))) (sim_op simr_mod (sim_var 2) (sim_int _))) (simg_name 3))
  (sims_seq (sims_asg (sim_lc (simi_range1 (sim_cons (sim_var 3) sim_nil)) (simg_name 5) (gw_name (by simp)) sim_yes (sim_op simr_ixL (sim_var 1) (sim_op simr_mod (sim_call0 (sim_cons (sim_var 0) sim_nil)) (sim_int _)))) (simg_name 4))
  (sims_seq (sims_if (sim_tAnd (sim_tTest (sim_op simr_neD (sim_var 4) (sim_lst sim_nil))) (sim_tTest (sim_op simr_eq (sim_op simr_mod (sim_op simr_fdiv (sim_var 2) (sim_int _)) (sim_int _)) (sim_int _)))) (sims_sub (sim_var 4) (sim_int _) (sim_str _)) sims_next)
  (sims_ret (sim_cb simc_tupleOf (sim_cons (sim_var 4) sim_nil)))))))⟩)
theorem ok__law_plain (T : Txt w K mg) : FnOk P w K mg base CX0 4 T.f__law_plain T.fd__law_plain ["_law_state", "_law_labels_here"] (spM T.cfg 2 f__law_plain) :=
  fn_sim0 T.F__law_plain sc__law_plain rfl (fun cdv A outer s H E hr => ⟨_, (pss_cons (ps_set (i := 2) sc__law_plain.nd rfl (Or.inl rfl) (pe_call (ok__law_name T) (hr.mono (by decide)) (by rfl) T.g__law_name T.F__law_name.kp T.b__law_name .nil pass0 (pa_cons (pv 0) (pa_cons (pv 1) pa_nil))))
  (pss_one (ps_ret (pe_ifExp (pt_cmpR (op_eqD hr.units) (pe_slice sl_tupA (pv 2) po_none (po_some pe_int)) (pe_tup (pa_cons pe_str pa_nil)) (nomark _)) (pe_slice sl_tupA (pv 2) (po_some pe_int) po_none) (pv 2))))),
  (sims_seq (sims_asg (sim_call0 (sim_cons (sim_var 0) (sim_cons (sim_var 1) sim_nil))) (simg_name 2))
  (sims_ret (sim_if (sim_tTest (sim_op simr_eqD (sim_sl sims_tup (sim_var 2) sim_noPart (sim_part (sim_int _))) (sim_tup (sim_cons (sim_str _) sim_nil)))) (sim_sl sims_tup (sim_var 2) (sim_part (sim_int _)) sim_noPart) (sim_var 2))))⟩)
theorem ok__law_text (T : Txt w K mg) : FnOk P w K mg base CX0 1 T.f__law_text T.fd__law_text ["_law_number", "_law_size"] (spM T.cfg 2 f__law_text) :=
  fn_sim0 T.F__law_text sc__law_text rfl (fun cdv A outer s H E hr => ⟨_, (pss_cons (ps_set (i := 2) sc__law_text.nd rfl (Or.inr rfl) pe_str)
  (pss_cons (ps_set (i := 3) sc__law_text.nd rfl (Or.inr rfl) (pe_callB call_len (by rfl) T.n_len (by decide +kernel) (pa_cons (pv 2) pa_nil)))
  (pss_one (ps_ret (pe_join pe_str (pe_lc (own := [("_law_k", 4)]) (g := gName 4) rfl sc__law_text.nd (pi_range1 rfl T.n_range (pa_cons (pv 1) pa_nil)) (blkOk_by (N := ["_law_number", "_law_size", "_law_signs_here", "_law_many", "_law_k"]) (sc := defScope s__law_text) (by decide +kernel)) (fun _ _ _ _ _ => pg_name (i := 4) sc__law_text.nd rfl (Or.inl rfl)) (fun _ _ _ _ _ => pts_nil) (fun _ _ _ _ _ => pe_ix ix_str (pv 2) (pe_op op_mod (pe_op op_add (pe_op op_add (pe_op op_fdiv (pv 0) pe_int) (pe_op op_mul (pe_op op_mul pe_int (pv 4)) (pv 4))) (pe_op op_mul pe_int (pv 4))) (pv 3)) (fun _ _ => rfl)))))))),
  (sims_seq (sims_asg (sim_str _) (simg_name 2))
  (sims_seq (sims_asg (sim_cb simc_len (sim_cons (sim_var 2) sim_nil)) (simg_name 3))
  (sims_ret (sim_m1 simm_join (sim_str _) (sim_lc (simi_range1 (sim_cons (sim_var 1) sim_nil)) (simg_name 4) (gw_name (by simp)) sim_yes (sim_op simr_ixS (sim_var 2) (sim_op simr_mod (sim_op simr_add (sim_op simr_add (sim_op simr_fdiv (sim_var 0) (sim_int _)) (sim_op simr_mul (sim_op simr_mul (sim_int _) (sim_var 4)) (sim_var 4))) (sim_op simr_mul (sim_int _) (sim_var 4))) (sim_var 3))))))))⟩)
theorem ok__law_kinds (T : Txt w K mg) : FnOk P w K mg base CX0 1 T.f__law_kinds T.fd__law_kinds [] (spM T.cfg 0 f__law_kinds) :=
  fn_sim0 T.F__law_kinds sc__law_kinds rfl (fun cdv A outer s H E hr => ⟨_, (pss_one (ps_ret (pe_tup (pa_cons pe_str (pa_cons pe_str (pa_cons pe_str (pa_cons pe_str (pa_cons pe_str (pa_cons pe_str (pa_cons pe_str (pa_cons pe_str (pa_cons pe_str pa_nil)))))))))))),
  (sims_ret (sim_tup (sim_cons (sim_str _) (sim_cons (sim_str _) (sim_cons (sim_str _) (sim_cons (sim_str _) (sim_cons (sim_str _) (sim_cons (sim_str _) (sim_cons (sim_str _) (sim_cons (sim_str _) (sim_cons (sim_str _) sim_nil)))))))))))⟩)
theorem ok__law_data (T : Txt w K mg) : FnOk P w K mg base CX0 5 T.f__law_data T.fd__law_data ["_law_state", "_law_kind", "_law_labels_here"] (spM T.cfg 3 f__law_data) :=
  fn_sim0 T.F__law_data sc__law_data rfl (fun cdv A outer s H E hr => ⟨_, (pss_cons (ps_set (i := 3) sc__law_data.nd rfl (Or.inl rfl) (pe_call (ok__law_next T) (hr.mono (by decide)) (by rfl) T.g__law_next T.F__law_next.kp T.b__law_next .nil pass0 (pa_cons (pv 0) pa_nil)))
  (pss_cons (ps_if (pt_cmpR op_eq (pv 1) pe_str (nomark _)) (pss_one (ps_ret (pe_call (ok__law_great T) (hr.mono (by decide)) (by rfl) T.g__law_great T.F__law_great.kp T.b__law_great .nil pass0 (pa_cons (pv 0) (pa_cons (pe_op op_sub (pe_op op_pow pe_int pe_int) pe_int) pa_nil))))) pss_nil)
  (pss_cons (ps_if (pt_cmpR op_eq (pv 1) pe_str (nomark _)) (pss_one (ps_ret (pe_call (ok__law_text T) (hr.mono (by decide)) (by rfl) T.g__law_text T.F__law_text.kp T.b__law_text .nil pass0 (pa_cons (pv 3) (pa_cons (pe_ix ix_list (pe_lst (pa_cons pe_int (pa_cons pe_int (pa_cons (pe_op op_mod (pe_op op_fdiv (pv 3) pe_int) pe_int) pa_nil)))) (pe_op op_mod (pv 3) pe_int) (fun _ _ => rfl)) pa_nil))))) pss_nil)
  (pss_cons (ps_if (PW.pt (pw_or (pt_cmpR op_eq (pv 1) pe_str (nomark _)) (pw_or1 (pt_cmpR op_eq (pv 1) pe_str (nomark _))))) (pss_one (ps_ret (pe_call (ok__law_plain T) (hr.mono (by decide)) (by rfl) T.g__law_plain T.F__law_plain.kp T.b__law_plain .nil pass0 (pa_cons (pv 0) (pa_cons (pv 2) pa_nil))))) pss_nil)
  (pss_cons (ps_if (pt_cmpR op_eq (pv 1) pe_str (nomark _)) (pss_one (ps_ret (pe_tup (pa_cons (pe_call (ok__law_great T) (hr.mono (by decide)) (by rfl) T.g__law_great T.F__law_great.kp T.b__law_great .nil pass0 (pa_cons (pv 0) (pa_cons (pe_op op_sub (pe_op op_pow pe_int pe_int) pe_int) pa_nil))) (pa_cons (pe_call (ok__law_great T) (hr.mono (by decide)) (by rfl) T.g__law_great T.F__law_great.kp T.b__law_great .nil pass0 (pa_cons (pv 0) (pa_cons (pe_op op_pow pe_int pe_int) pa_nil))) pa_nil))))) pss_nil)
  (pss_cons (ps_if (pt_cmpR op_eq (pv 1) pe_str (nomark _)) (pss_cons (ps_set (i := 4) sc__law_data.nd rfl (Or.inl rfl) (pe_ix ix_list (pe_lc (own := [("_law_one", 6)]) (g := gName 6) rfl sc__law_data.nd (pi_tup (pe_call0 (ok__law_kinds T) (hr.mono (by decide)) (by rfl) T.g__law_kinds T.F__law_kinds.kp T.b__law_kinds .nil pass0)) (blkOk_by (N := ["_law_state", "_law_kind", "_law_labels_here", "_law_number", "_law_over", "_law_drawn", "_law_one"]) (sc := defScope s__law_data) (by decide +kernel)) (fun _ _ _ _ _ => pg_name (i := 6) sc__law_data.nd rfl (Or.inl rfl)) (fun _ _ _ _ _ => pts_one (pt_cmpR op_ne (pv 6) pe_str (nomark _))) (fun _ _ _ _ _ => pv 6)) (pe_op op_mod (pv 3) pe_int) (fun _ _ => rfl)))
  (pss_one (ps_ret (pe_tup (pa_cons (pv 4) (pa_cons (pe_op op_add pe_int (pe_call (ok__law_great T) (hr.mono (by decide)) (by rfl) T.g__law_great T.F__law_great.kp T.b__law_great .nil pass0 (pa_cons (pv 0) (pa_cons (pe_op op_sub (pe_op op_pow pe_int pe_int) pe_int) pa_nil)))) (pa_cons (pe_call (ok__law_great T) (hr.mono (by decide)) (by rfl) T.g__law_great T.F__law_great.kp T.b__law_great .nil pass0 (pa_cons (pv 0) (pa_cons pe_int pa_nil))) pa_nil))))))) pss_nil)
  (pss_cons (ps_if (pt_cmpR op_eq (pv 1) pe_str (nomark _)) (pss_cons (ps_setLc (i := 5) (own := [("_law_one", 6)]) (g := gName 6) rfl sc__law_data.nd rfl rfl (sw_true rfl rfl rfl (by decide +kernel)) (pi_tup (pe_call0 (ok__law_kinds T) (hr.mono (by decide)) (by rfl) T.g__law_kinds T.F__law_kinds.kp T.b__law_kinds .nil pass0)) (blkOk_by (N := ["_law_state", "_law_kind", "_law_labels_here", "_law_number", "_law_over", "_law_drawn", "_law_one"]) (sc := defScope s__law_data) (by decide +kernel)) (fun _ _ _ _ _ => pg_name (i := 6) sc__law_data.nd rfl (Or.inl rfl)) (fun _ _ _ _ _ => pts_one (pt_cmpR op_eq (pe_op op_mod (pe_call (ok__law_next T) (hr.mono (by decide)) (by rfl) T.g__law_next T.F__law_next.kp T.b__law_next .nil pass0 (pa_cons (pv 0) pa_nil)) pe_int) pe_int (nomark _))) (fun _ _ _ _ _ => pv 6))
  (pss_one (ps_ret (pe_tup (pa_cons (pe_call (ok__law_name T) (hr.mono (by decide)) (by rfl) T.g__law_name T.F__law_name.kp T.b__law_name .nil pass0 (pa_cons (pv 0) (pa_cons (pv 2) pa_nil))) (pa_cons (pe_callTy call_tuple_of (by rfl) T.n_tuple (by decide +kernel) (pa_cons (pe_callB cr_sortedS (by rfl) T.n_sorted (by decide +kernel) (pa_cons (pv 5) pa_nil)) pa_nil)) pa_nil)))))) pss_nil)
  (pss_one (ps_ret (pe_op op_add pe_int (pe_call (ok__law_great T) (hr.mono (by decide)) (by rfl) T.g__law_great T.F__law_great.kp T.b__law_great .nil pass0 (pa_cons (pv 0) (pa_cons (pe_op op_sub (pe_op op_pow pe_int pe_int) pe_int) pa_nil))))))))))))),
  (sims_seq (sims_asg (sim_call0 (sim_cons (sim_var 0) sim_nil)) (simg_name 3))
  (sims_seq (sims_if (sim_tTest (sim_op simr_eq (sim_var 1) (sim_str _))) (sims_ret (sim_call0 (sim_cons (sim_var 0) (sim_cons (sim_op simr_sub (sim_op simr_pow (sim_int _) (sim_int _)) (sim_int _)) sim_nil)))) sims_next)
  (sims_seq (sims_if (sim_tTest (sim_op simr_eq (sim_var 1) (sim_str _))) (sims_ret (sim_call0 (sim_cons (sim_var 3) (sim_cons (sim_op simr_ixL (sim_lst (sim_cons (sim_int _) (sim_cons (sim_int _) (sim_cons (sim_op simr_mod (sim_op simr_fdiv (sim_var 3) (sim_int _)) (sim_int _)) sim_nil)))) (sim_op simr_mod (sim_var 3) (sim_int _))) sim_nil)))) sims_next)
  (sims_seq (sims_if (sim_tOr (sim_tTest (sim_op simr_eq (sim_var 1) (sim_str _))) (sim_tTest (sim_op simr_eq (sim_var 1) (sim_str _)))) (sims_ret (sim_call0 (sim_cons (sim_var 0) (sim_cons (sim_var 2) sim_nil)))) sims_next)
  (sims_seq (sims_if (sim_tTest (sim_op simr_eq (sim_var 1) (sim_str _))) (sims_ret (sim_tup (sim_cons (sim_call0 (sim_cons (sim_var 0) (sim_cons (sim_op simr_sub (sim_op simr_pow (sim_int _) (sim_int _)) (sim_int _)) sim_nil))) (sim_cons (sim_call0 (sim_cons (sim_var 0) (sim_cons (sim_op simr_pow (sim_int _) (sim_int _)) sim_nil))) sim_nil)))) sims_next)
  (sims_seq (sims_if (sim_tTest (sim_op simr_eq (sim_var 1) (sim_str _))) (sims_seq (sims_asg (sim_op simr_ixL (sim_lc (simi_tup (sim_call0 sim_nil)) (simg_name 6) (gw_name (by simp)) (sim_tTest (sim_op simr_ne (sim_var 6) (sim_str _))) (sim_var 6)) (sim_op simr_mod (sim_var 3) (sim_int _))) (simg_name 4))
  (sims_ret (sim_tup (sim_cons (sim_var 4) (sim_cons (sim_op simr_add (sim_int _) (sim_call0 (sim_cons (sim_var 0) (sim_cons (sim_op simr_sub (sim_op simr_pow (sim_int _) (sim_int _)) (sim_int _)) sim_nil)))) (sim_cons (sim_call0 (sim_cons (sim_var 0) (sim_cons (sim_int _) sim_nil))) sim_nil)))))) sims_next)
  (sims_seq (sims_if (sim_tTest (sim_op simr_eq (sim_var 1) (sim_str _))) (sims_seq (sims_asg (sim_lc (simi_tup (sim_call0 sim_nil)) (simg_name 6) (gw_name (by simp)) (sim_tTest (sim_op simr_eq (sim_op simr_mod (sim_call0 (sim_cons (sim_var 0) sim_nil)) (sim_int _)) (sim_int _))) (sim_var 6)) (simg_name 5))
  (sims_ret (sim_tup (sim_cons (sim_call0 (sim_cons (sim_var 0) (sim_cons (sim_var 2) sim_nil))) (sim_cons (sim_cb simc_tupleOf (sim_cons (sim_cb simc_sortedS (sim_cons (sim_var 5) sim_nil)) sim_nil)) sim_nil))))) sims_next)
  (sims_ret (sim_op simr_add (sim_int _) (sim_call0 (sim_cons (sim_var 0) (sim_cons (sim_op simr_sub (sim_op simr_pow (sim_int _) (sim_int _)) (sim_int _)) sim_nil))))))))))))⟩)
theorem ok__law_record (T : Txt w K mg) : FnOk P w K mg base CX0 6 T.f__law_record T.fd__law_record ["_law_state", "_law_labels_here"] (spM T.cfg 2 f__law_record) :=
  fn_sim0 T.F__law_record sc__law_record rfl (fun cdv A outer s H E hr => ⟨_, (pss_cons (ps_set (i := 2) sc__law_record.nd rfl (Or.inl rfl) (pe_ix ix_tup (pe_call0 (ok__law_kinds T) (hr.mono (by decide)) (by rfl) T.g__law_kinds T.F__law_kinds.kp T.b__law_kinds .nil pass0) (pe_op op_mod (pe_call (ok__law_next T) (hr.mono (by decide)) (by rfl) T.g__law_next T.F__law_next.kp T.b__law_next .nil pass0 (pa_cons (pv 0) pa_nil)) pe_int) (fun _ _ => rfl)))
  (pss_one (ps_ret (pe_tup (pa_cons (pe_call (ok__law_name T) (hr.mono (by decide)) (by rfl) T.g__law_name T.F__law_name.kp T.b__law_name .nil pass0 (pa_cons (pv 0) (pa_cons (pv 1) pa_nil))) (pa_cons (pv 2) (pa_cons (pe_call (ok__law_great T) (hr.mono (by decide)) (by rfl) T.g__law_great T.F__law_great.kp T.b__law_great .nil pass0 (pa_cons (pv 0) (pa_cons (pe_op op_pow pe_int pe_int) pa_nil))) (pa_cons (pe_call (ok__law_data T) (hr.mono (by decide)) (by rfl) T.g__law_data T.F__law_data.kp T.b__law_data .nil pass0 (pa_cons (pv 0) (pa_cons (pv 2) (pa_cons (pv 1) pa_nil)))) pa_nil)))))))),
  (sims_seq (sims_asg (sim_op simr_ixT (sim_call0 sim_nil) (sim_op simr_mod (sim_call0 (sim_cons (sim_var 0) sim_nil)) (sim_int _))) (simg_name 2))
  (sims_ret (sim_tup (sim_cons (sim_call0 (sim_cons (sim_var 0) (sim_cons (sim_var 1) sim_nil))) (sim_cons (sim_var 2) (sim_cons (sim_call0 (sim_cons (sim_var 0) (sim_cons (sim_op simr_pow (sim_int _) (sim_int _)) sim_nil))) (sim_cons (sim_call0 (sim_cons (sim_var 0) (sim_cons (sim_var 2) (sim_cons (sim_var 1) sim_nil)))) sim_nil)))))))⟩)
theorem ok__law_before (T : Txt w K mg) : FnOk P w K mg base CX0 1 T.f__law_before T.fd__law_before ["_law_one", "_law_other"] (spM T.cfg 2 f__law_before) :=
  fn_sim0 T.F__law_before sc__law_before rfl (fun cdv A outer s H E hr => ⟨_, (pss_cons (ps_set (i := 2) sc__law_before.nd rfl (Or.inl rfl) pe_int)
  (pss_cons (ps_while PassesOwn.never (PW.pt (pw_and (pt_cmpR op_le (pv 2) (pe_callB call_len_seq (by rfl) T.n_len (by decide +kernel) (pa_cons (pv 0) pa_nil)) (nomark _)) (pw_and1 (pt_cmpR op_le (pv 2) (pe_callB call_len_seq (by rfl) T.n_len (by decide +kernel) (pa_cons (pv 1) pa_nil)) (nomark _))))) (pss_cons (ps_if (pt_cmpR op_ne (pe_ix ix_tup (pv 0) (pe_un un_neg (pv 2)) (fun _ _ => rfl)) (pe_ix ix_tup (pv 1) (pe_un un_neg (pv 2)) (fun _ _ => rfl)) (nomark _)) (pss_one (ps_ret (pe_cmpR op_lt_str (pe_ix ix_tup (pv 0) (pe_un un_neg (pv 2)) (fun _ _ => rfl)) (pe_ix ix_tup (pv 1) (pe_un un_neg (pv 2)) (fun _ _ => rfl)) (nomark _)))) pss_nil)
  (pss_one (ps_set (i := 2) sc__law_before.nd rfl (Or.inl rfl) (pe_op op_add (pv 2) pe_int)))))
  (pss_one (ps_ret (pe_cmpR op_lt (pe_callB call_len_seq (by rfl) T.n_len (by decide +kernel) (pa_cons (pv 0) pa_nil)) (pe_callB call_len_seq (by rfl) T.n_len (by decide +kernel) (pa_cons (pv 1) pa_nil)) (nomark _)))))),
  (sims_seq (sims_asg (sim_int _) (simg_name 2))
  (sims_seq (sims_while 7 (sim_tAnd (sim_tTest (sim_op simr_le (sim_var 2) (sim_cb simc_lenQ (sim_cons (sim_var 0) sim_nil)))) (sim_tTest (sim_op simr_le (sim_var 2) (sim_cb simc_lenQ (sim_cons (sim_var 1) sim_nil))))) (sims_seq (sims_if (sim_tTest (sim_op simr_ne (sim_op simr_ixT (sim_var 0) (sim_neg (sim_var 2))) (sim_op simr_ixT (sim_var 1) (sim_neg (sim_var 2))))) (sims_ret (sim_op simr_ltS (sim_op simr_ixT (sim_var 0) (sim_neg (sim_var 2))) (sim_op simr_ixT (sim_var 1) (sim_neg (sim_var 2))))) sims_next)
  (sims_asg (sim_op simr_add (sim_var 2) (sim_int _)) (simg_name 2))))
  (sims_ret (sim_op simr_lt (sim_cb simc_lenQ (sim_cons (sim_var 0) sim_nil)) (sim_cb simc_lenQ (sim_cons (sim_var 1) sim_nil))))))⟩)
theorem ok__law_among (T : Txt w K mg) : FnOk P w K mg base CX0 1 T.f__law_among T.fd__law_among ["_law_thing", "_law_least", "_law_most"] (spM T.cfg 3 f__law_among) :=
  fn_sim0 T.F__law_among sc__law_among rfl (fun cdv A outer s H E hr => ⟨_, (pss_one (ps_ret (pe_and (pe_callB call_isA (by rfl) T.n_isinstance (by decide +kernel) (pa_cons (pv 0) (pa_cons (pe_bltn (v := .ty "int") rfl T.n_int (by decide +kernel) rfl (by decide)) pa_nil))) (pe_and (pe_not (pe_callB call_isA (by rfl) T.n_isinstance (by decide +kernel) (pa_cons (pv 0) (pa_cons (pe_bltn (v := .ty "bool") rfl T.n_bool (by decide +kernel) rfl (by decide)) pa_nil)))) (pe_one (pe_chain op_le op_le (pv 1) (pv 0) (pv 2))))))),
  (sims_ret (sim_and (sim_cb (simc_isA T.tabOk) (sim_cons (sim_var 0) (sim_cons (sim_ty _) sim_nil))) (sim_and (sim_not (sim_cb (simc_isA T.tabOk) (sim_cons (sim_var 0) (sim_cons (sim_ty _) sim_nil)))) (sim_chain simr_le simr_le (sim_var 1) (sim_var 0) (sim_var 2)))))⟩)
theorem ok__law_is_name (T : Txt w K mg) : FnOk P w K mg base CX0 2 T.f__law_is_name T.fd__law_is_name ["_law_thing", "_law_with_star"] (spM T.cfg 2 f__law_is_name) :=
  fn_sim0 T.F__law_is_name sc__law_is_name rfl (fun cdv A outer s H E hr => ⟨_, (pss_cons (ps_if (PW.pt (pw_or (pt_not (pt_val (pe_callB call_isA (by rfl) T.n_isinstance (by decide +kernel) (pa_cons (pv 0) (pa_cons (pe_bltn (v := .ty "tuple") rfl T.n_tuple (by decide +kernel) rfl (by decide)) pa_nil))))) (pw_or1 (pt_cmpR op_gt (pe_callB call_len_seq (by rfl) T.n_len (by decide +kernel) (pa_cons (pv 0) pa_nil)) pe_int (nomark _))))) (pss_one (ps_ret pe_bl)) pss_nil)
  (pss_cons (ps_for PassesOwn.never rfl (pi_enT rfl T.n_enumerate (pa_cons (pv 0) pa_nil)) (pg_tup rfl (pgs_cons (pg_name (i := 2) sc__law_is_name.nd rfl (Or.inl rfl)) (pgs_cons (pg_name (i := 3) sc__law_is_name.nd rfl (Or.inl rfl)) pgs_nil))) (pss_cons (ps_if (PW.pt (pw_or (pt_not (pt_val (pe_callB call_isA (by rfl) T.n_isinstance (by decide +kernel) (pa_cons (pv 3) (pa_cons (pe_bltn (v := .ty "str") rfl T.n_str (by decide +kernel) rfl (by decide)) pa_nil))))) (pw_or1 (pt_not (pt_chain op_le op_le pe_int (pe_callB call_len (by rfl) T.n_len (by decide +kernel) (pa_cons (pv 3) pa_nil)) pe_int))))) (pss_one (ps_ret pe_bl)) pss_nil)
  (pss_cons (ps_set (i := 4) sc__law_is_name.nd rfl (Or.inl rfl) (pe_and (pv 1) (pe_and (pe_cmpR op_eq (pv 2) pe_int (nomark _)) (pe_one (pe_cmpR op_eq (pv 3) pe_str (nomark _))))))
  (pss_one (ps_if (PW.pt (pw_and (pt_cmpR (op_neD hr.units) (pe_lc (own := [("_law_sign", 5)]) (g := gName 5) rfl sc__law_is_name.nd (pi_str (pv 3)) (blkOk_by (N := ["_law_thing", "_law_with_star", "_law_k", "_law_label_here", "_law_is_star", "_law_sign"]) (sc := defScope s__law_is_name) (by decide +kernel)) (fun _ _ _ _ _ => pg_name (i := 5) sc__law_is_name.nd rfl (Or.inl rfl)) (fun _ _ _ _ _ => pts_one (pt_cmpR op_notIn_sign (pv 5) (pe_call0 (ok__law_signs T) (hr.mono (by decide)) (by rfl) T.g__law_signs T.F__law_signs.kp T.b__law_signs .nil pass0) (by rfl))) (fun _ _ _ _ _ => pv 5)) (pe_lst pa_nil) (nomark _)) (pw_and1 (pt_not (pt_val (pv 4)))))) (pss_one (ps_ret pe_bl)) pss_nil)))))
  (pss_one (ps_ret pe_bl)))),
  (sims_seq (sims_if (sim_tOr (sim_tNot (sim_tB (sim_cb (simc_isA T.tabOk) (sim_cons (sim_var 0) (sim_cons (sim_ty _) sim_nil))))) (sim_tTest (sim_op simr_gt (sim_cb simc_lenQ (sim_cons (sim_var 0) sim_nil)) (sim_int _)))) (sims_ret (sim_bl _)) sims_next)
  (sims_seq (sims_for (simi_enT (sim_cons (sim_var 0) sim_nil)) (simg_tup [2, 3]) (sims_seq (sims_if (sim_tOr (sim_tNot (sim_tB (sim_cb (simc_isA T.tabOk) (sim_cons (sim_var 3) (sim_cons (sim_ty _) sim_nil))))) (sim_tNot (sim_tTest (sim_chain simr_le simr_le (sim_int _) (sim_cb simc_len (sim_cons (sim_var 3) sim_nil)) (sim_int _))))) (sims_ret (sim_bl _)) sims_next)
  (sims_seq (sims_asg (sim_and (sim_var 1) (sim_and (sim_op simr_eq (sim_var 2) (sim_int _)) (sim_op simr_eq (sim_var 3) (sim_str _)))) (simg_name 4))
  (sims_if (sim_tAnd (sim_tTest (sim_op simr_neD (sim_lc (simi_str (sim_var 3)) (simg_name 5) (gw_name (by simp)) (sim_tTest (sim_op simr_notInSign (sim_var 5) (sim_call0 sim_nil))) (sim_var 5)) (sim_lst sim_nil))) (sim_tNot (sim_tB (sim_var 4)))) (sims_ret (sim_bl _)) sims_next))))
  (sims_ret (sim_bl _))))⟩)
theorem ok__law_is_kind (T : Txt w K mg) : FnOk P w K mg base CX0 2 T.f__law_is_kind T.fd__law_is_kind ["_law_thing"] (spM T.cfg 1 f__law_is_kind) :=
  fn_sim0 T.F__law_is_kind sc__law_is_kind rfl (fun cdv A outer s H E hr => ⟨_, (pss_one (ps_ret (pe_and (pe_callB call_isA (by rfl) T.n_isinstance (by decide +kernel) (pa_cons (pv 0) (pa_cons (pe_bltn (v := .ty "str") rfl T.n_str (by decide +kernel) rfl (by decide)) pa_nil))) (pe_one (pe_cmpR op_in_seq (pv 0) (pe_call0 (ok__law_kinds T) (hr.mono (by decide)) (by rfl) T.g__law_kinds T.F__law_kinds.kp T.b__law_kinds .nil pass0) (by rfl)))))),
  (sims_ret (sim_and (sim_cb (simc_isA T.tabOk) (sim_cons (sim_var 0) (sim_cons (sim_ty _) sim_nil))) (sim_op (simr_in false) (sim_var 0) (sim_call0 sim_nil))))⟩)
theorem ok__law_is_data (T : Txt w K mg) : FnOk P w K mg base CX0 3 T.f__law_is_data T.fd__law_is_data ["_law_kind", "_law_thing"] (spM T.cfg 2 f__law_is_data) :=
  fn_sim0 T.F__law_is_data sc__law_is_data rfl (fun cdv A outer s H E hr => ⟨_, (pss_cons (ps_if (pt_cmpR op_eq (pv 0) pe_str (nomark _)) (pss_one (ps_ret (pe_call (ok__law_among T) (hr.mono (by decide)) (by rfl) T.g__law_among T.F__law_among.kp T.b__law_among .nil pass0 (pa_cons (pv 1) (pa_cons pe_int (pa_cons (pe_op op_sub (pe_op op_pow pe_int pe_int) pe_int) pa_nil)))))) pss_nil)
  (pss_cons (ps_if (pt_cmpR op_eq (pv 0) pe_str (nomark _)) (pss_one (ps_ret (pe_and (pe_callB call_isA (by rfl) T.n_isinstance (by decide +kernel) (pa_cons (pv 1) (pa_cons (pe_bltn (v := .ty "str") rfl T.n_str (by decide +kernel) rfl (by decide)) pa_nil))) (pe_one (pe_cmpR op_le (pe_callB call_len (by rfl) T.n_len (by decide +kernel) (pa_cons (pv 1) pa_nil)) pe_int (nomark _)))))) pss_nil)
  (pss_cons (ps_if (PW.pt (pw_or (pt_cmpR op_eq (pv 0) pe_str (nomark _)) (pw_or1 (pt_cmpR op_eq (pv 0) pe_str (nomark _))))) (pss_one (ps_ret (pe_call (ok__law_is_name T) (hr.mono (by decide)) (by rfl) T.g__law_is_name T.F__law_is_name.kp T.b__law_is_name .nil pass0 (pa_cons (pv 1) (pa_cons pe_bl pa_nil))))) pss_nil)
  (pss_cons (ps_if (PW.pt (pw_or (pt_cmpR op_eq (pv 0) pe_str (nomark _)) (pw_or1 (pt_cmpR op_eq (pv 0) pe_str (nomark _))))) (pss_one (ps_ret (pe_call (ok__law_among T) (hr.mono (by decide)) (by rfl) T.g__law_among T.F__law_among.kp T.b__law_among .nil pass0 (pa_cons (pv 1) (pa_cons pe_int (pa_cons (pe_op op_pow pe_int pe_int) pa_nil)))))) pss_nil)
  (pss_cons (ps_if (PW.pt (pw_or (pt_not (pt_val (pe_callB call_isA (by rfl) T.n_isinstance (by decide +kernel) (pa_cons (pv 1) (pa_cons (pe_bltn (v := .ty "tuple") rfl T.n_tuple (by decide +kernel) rfl (by decide)) pa_nil))))) (pw_or1 (pt_cmpR (op_neD hr.units) (pe_callB call_len (by rfl) T.n_len (by decide +kernel) (pa_cons (pv 1) pa_nil)) (pe_dget (hu_of hr) (pe_disp (pps_cons pe_str pe_int (pps_cons pe_str pe_int (pps_cons pe_str pe_int pps_nil))) (by rfl) (by rfl) (fun z => by cases z) (by decide)) (pv 0) (fun _ _ => rfl)) (nomark _))))) (pss_one (ps_ret pe_bl)) pss_nil)
  (pss_cons (ps_if (pt_cmpR op_eq (pv 0) pe_str (nomark _)) (pss_one (ps_ret (pe_and (pe_call (ok__law_among T) (hr.mono (by decide)) (by rfl) T.g__law_among T.F__law_among.kp T.b__law_among .nil pass0 (pa_cons (pe_ix ix_U (pv 1) pe_int (fun _ _ => rfl)) (pa_cons pe_int (pa_cons (pe_op op_sub (pe_op op_pow pe_int pe_int) pe_int) pa_nil)))) (pe_one (pe_call (ok__law_among T) (hr.mono (by decide)) (by rfl) T.g__law_among T.F__law_among.kp T.b__law_among .nil pass0 (pa_cons (pe_ix ix_U (pv 1) pe_int (fun _ _ => rfl)) (pa_cons pe_int (pa_cons (pe_op op_pow pe_int pe_int) pa_nil)))))))) pss_nil)
  (pss_cons (ps_if (pt_cmpR op_eq (pv 0) pe_str (nomark _)) (pss_cons (ps_set (i := 2) sc__law_is_data.nd rfl (Or.inl rfl) (pe_and (pe_call (ok__law_is_kind T) (hr.mono (by decide)) (by rfl) T.g__law_is_kind T.F__law_is_kind.kp T.b__law_is_kind .nil pass0 (pa_cons (pe_ix ix_U (pv 1) pe_int (fun _ _ => rfl)) pa_nil)) (pe_and (pe_cmpR (op_neD hr.units) (pe_ix ix_U (pv 1) pe_int (fun _ _ => rfl)) pe_str (nomark _)) (pe_one (pe_call (ok__law_among T) (hr.mono (by decide)) (by rfl) T.g__law_among T.F__law_among.kp T.b__law_among .nil pass0 (pa_cons (pe_ix ix_U (pv 1) pe_int (fun _ _ => rfl)) (pa_cons pe_int (pa_cons (pe_op op_pow pe_int pe_int) pa_nil))))))))
  (pss_one (ps_ret (pe_and (pv 2) (pe_one (pe_call (ok__law_among T) (hr.mono (by decide)) (by rfl) T.g__law_among T.F__law_among.kp T.b__law_among .nil pass0 (pa_cons (pe_ix ix_U (pv 1) pe_int (fun _ _ => rfl)) (pa_cons pe_int (pa_cons pe_int pa_nil))))))))) pss_nil)
  (pss_cons (ps_if (PW.pt (pw_or (pt_not (pt_val (pe_call (ok__law_is_name T) (hr.mono (by decide)) (by rfl) T.g__law_is_name T.F__law_is_name.kp T.b__law_is_name .nil pass0 (pa_cons (pe_ix ix_U (pv 1) pe_int (fun _ _ => rfl)) (pa_cons pe_bl pa_nil))))) (pw_or1 (pt_not (pt_val (pe_callB call_isA (by rfl) T.n_isinstance (by decide +kernel) (pa_cons (pe_ix ix_U (pv 1) pe_int (fun _ _ => rfl)) (pa_cons (pe_bltn (v := .ty "tuple") rfl T.n_tuple (by decide +kernel) rfl (by decide)) pa_nil)))))))) (pss_one (ps_ret pe_bl)) pss_nil)
  (pss_one (ps_ret (pe_and (pe_callB (cr_all rfl) (by rfl) T.n_all (by decide +kernel) (pa_cons (pe_lc (own := [("_law_one", 3)]) (g := gName 3) rfl sc__law_is_data.nd (pi_or2 (pi_list (pe_ix ix_U (pv 1) pe_int (fun _ _ => rfl))) (pi_or2 (pi_tup (pe_ix ix_U (pv 1) pe_int (fun _ _ => rfl))) (pi_str (pe_ix ix_U (pv 1) pe_int (fun _ _ => rfl))))) (blkOk_by (N := ["_law_kind", "_law_thing", "_law_good", "_law_one"]) (sc := defScope s__law_is_data) (by decide +kernel)) (fun _ _ _ _ _ => pg_name (i := 3) sc__law_is_data.nd rfl (Or.inl rfl)) (fun _ _ _ _ _ => pts_nil) (fun _ _ _ _ _ => pe_call (ok__law_is_kind T) (hr.mono (by decide)) (by rfl) T.g__law_is_kind T.F__law_is_kind.kp T.b__law_is_kind .nil pass0 (pa_cons (pv 3) pa_nil))) pa_nil)) (pe_one (pe_cmpR (op_eqD hr.units) (pe_callTy call_list_of (by rfl) T.n_list (by decide +kernel) (pa_cons (pe_ix ix_U (pv 1) pe_int (fun _ _ => rfl)) pa_nil)) (pe_callB (cr_sortedSS (by rfl)) (by rfl) T.n_sorted (by decide +kernel) (pa_cons (pe_callTy (cr_setT (by rfl)) (by rfl) T.n_set (by decide +kernel) (pa_cons (pe_ix ix_U (pv 1) pe_int (fun _ _ => rfl)) pa_nil)) pa_nil)) (nomark _)))))))))))))),
  (sims_seq (sims_if (sim_tTest (sim_op simr_eq (sim_var 0) (sim_str _))) (sims_ret (sim_call0 (sim_cons (sim_var 1) (sim_cons (sim_int _) (sim_cons (sim_op simr_sub (sim_op simr_pow (sim_int _) (sim_int _)) (sim_int _)) sim_nil))))) sims_next)
  (sims_seq (sims_if (sim_tTest (sim_op simr_eq (sim_var 0) (sim_str _))) (sims_ret (sim_and (sim_cb (simc_isA T.tabOk) (sim_cons (sim_var 1) (sim_cons (sim_ty _) sim_nil))) (sim_op simr_le (sim_cb simc_len (sim_cons (sim_var 1) sim_nil)) (sim_int _)))) sims_next)
  (sims_seq (sims_if (sim_tOr (sim_tTest (sim_op simr_eq (sim_var 0) (sim_str _))) (sim_tTest (sim_op simr_eq (sim_var 0) (sim_str _)))) (sims_ret (sim_call0 (sim_cons (sim_var 1) (sim_cons (sim_bl _) sim_nil)))) sims_next)
  (sims_seq (sims_if (sim_tOr (sim_tTest (sim_op simr_eq (sim_var 0) (sim_str _))) (sim_tTest (sim_op simr_eq (sim_var 0) (sim_str _)))) (sims_ret (sim_call0 (sim_cons (sim_var 1) (sim_cons (sim_int _) (sim_cons (sim_op simr_pow (sim_int _) (sim_int _)) sim_nil))))) sims_next)
  (sims_seq (sims_if (sim_tOr (sim_tNot (sim_tB (sim_cb (simc_isA T.tabOk) (sim_cons (sim_var 1) (sim_cons (sim_ty _) sim_nil))))) (sim_tTest (sim_op simr_neD (sim_cb simc_len (sim_cons (sim_var 1) sim_nil)) (sim_dget (sim_disp (simp_cons (sim_str _) (sim_int _) (simp_cons (sim_str _) (sim_int _) (simp_cons (sim_str _) (sim_int _) simp_nil)))) (sim_var 0))))) (sims_ret (sim_bl _)) sims_next)
  (sims_seq (sims_if (sim_tTest (sim_op simr_eq (sim_var 0) (sim_str _))) (sims_ret (sim_and (sim_call0 (sim_cons (sim_op simr_ixU (sim_var 1) (sim_int _)) (sim_cons (sim_int _) (sim_cons (sim_op simr_sub (sim_op simr_pow (sim_int _) (sim_int _)) (sim_int _)) sim_nil)))) (sim_call0 (sim_cons (sim_op simr_ixU (sim_var 1) (sim_int _)) (sim_cons (sim_int _) (sim_cons (sim_op simr_pow (sim_int _) (sim_int _)) sim_nil)))))) sims_next)
  (sims_seq (sims_if (sim_tTest (sim_op simr_eq (sim_var 0) (sim_str _))) (sims_seq (sims_asg (sim_and (sim_call0 (sim_cons (sim_op simr_ixU (sim_var 1) (sim_int _)) sim_nil)) (sim_and (sim_op simr_neD (sim_op simr_ixU (sim_var 1) (sim_int _)) (sim_str _)) (sim_call0 (sim_cons (sim_op simr_ixU (sim_var 1) (sim_int _)) (sim_cons (sim_int _) (sim_cons (sim_op simr_pow (sim_int _) (sim_int _)) sim_nil)))))) (simg_name 2))
  (sims_ret (sim_and (sim_var 2) (sim_call0 (sim_cons (sim_op simr_ixU (sim_var 1) (sim_int _)) (sim_cons (sim_int _) (sim_cons (sim_int _) sim_nil))))))) sims_next)
  (sims_seq (sims_if (sim_tOr (sim_tNot (sim_tB (sim_call0 (sim_cons (sim_op simr_ixU (sim_var 1) (sim_int _)) (sim_cons (sim_bl _) sim_nil))))) (sim_tNot (sim_tB (sim_cb (simc_isA T.tabOk) (sim_cons (sim_op simr_ixU (sim_var 1) (sim_int _)) (sim_cons (sim_ty _) sim_nil)))))) (sims_ret (sim_bl _)) sims_next)
  (sims_ret (sim_and (sim_cb simc_all (sim_cons (sim_lc (sim_alt (simi_list (sim_op simr_ixU (sim_var 1) (sim_int _))) (sim_alt (simi_tup (sim_op simr_ixU (sim_var 1) (sim_int _))) (simi_str (sim_op simr_ixU (sim_var 1) (sim_int _))))) (simg_name 3) (gw_name (by simp)) sim_yes (sim_call0 (sim_cons (sim_var 3) sim_nil))) sim_nil)) (sim_op simr_eqD (sim_cb simc_listOf (sim_cons (sim_op simr_ixU (sim_var 1) (sim_int _)) sim_nil)) (sim_sortedSet (sim_op simr_ixU (sim_var 1) (sim_int _))))))))))))))⟩)
theorem ok__law_is_record (T : Txt w K mg) : FnOk P w K mg base CX0 4 T.f__law_is_record T.fd__law_is_record ["_law_thing"] (spM T.cfg 1 f__law_is_record) :=
  fn_sim0 T.F__law_is_record sc__law_is_record rfl (fun cdv A outer s H E hr => ⟨_, (pss_cons (ps_if (PW.pt (pw_or (pt_not (pt_val (pe_callB call_isA (by rfl) T.n_isinstance (by decide +kernel) (pa_cons (pv 0) (pa_cons (pe_bltn (v := .ty "tuple") rfl T.n_tuple (by decide +kernel) rfl (by decide)) pa_nil))))) (pw_or (pt_cmpR op_ne (pe_callB call_len_seq (by rfl) T.n_len (by decide +kernel) (pa_cons (pv 0) pa_nil)) pe_int (nomark _)) (pw_or1 (pt_not (pt_val (pe_call (ok__law_is_name T) (hr.mono (by decide)) (by rfl) T.g__law_is_name T.F__law_is_name.kp T.b__law_is_name .nil pass0 (pa_cons (pe_ix ix_tup (pv 0) pe_int (fun _ _ => rfl)) (pa_cons pe_bl pa_nil))))))))) (pss_one (ps_ret pe_bl)) pss_nil)
  (pss_one (ps_ret (pe_and (pe_call (ok__law_is_kind T) (hr.mono (by decide)) (by rfl) T.g__law_is_kind T.F__law_is_kind.kp T.b__law_is_kind .nil pass0 (pa_cons (pe_ix ix_tup (pv 0) pe_int (fun _ _ => rfl)) pa_nil)) (pe_and (pe_call (ok__law_among T) (hr.mono (by decide)) (by rfl) T.g__law_among T.F__law_among.kp T.b__law_among .nil pass0 (pa_cons (pe_ix ix_tup (pv 0) pe_int (fun _ _ => rfl)) (pa_cons pe_int (pa_cons (pe_op op_pow pe_int pe_int) pa_nil)))) (pe_one (pe_call (ok__law_is_data T) (hr.mono (by decide)) (by rfl) T.g__law_is_data T.F__law_is_data.kp T.b__law_is_data .nil pass0 (pa_cons (pe_ix ix_tup (pv 0) pe_int (fun _ _ => rfl)) (pa_cons (pe_ix ix_tup (pv 0) pe_int (fun _ _ => rfl)) pa_nil))))))))),
  (sims_seq (sims_if (sim_tOr (sim_tNot (sim_tB (sim_cb (simc_isA T.tabOk) (sim_cons (sim_var 0) (sim_cons (sim_ty _) sim_nil))))) (sim_tOr (sim_tTest (sim_op simr_ne (sim_cb simc_lenQ (sim_cons (sim_var 0) sim_nil)) (sim_int _))) (sim_tNot (sim_tB (sim_call0 (sim_cons (sim_op simr_ixT (sim_var 0) (sim_int _)) (sim_cons (sim_bl _) sim_nil))))))) (sims_ret (sim_bl _)) sims_next)
  (sims_ret (sim_and (sim_call0 (sim_cons (sim_op simr_ixT (sim_var 0) (sim_int _)) sim_nil)) (sim_and (sim_call0 (sim_cons (sim_op simr_ixT (sim_var 0) (sim_int _)) (sim_cons (sim_int _) (sim_cons (sim_op simr_pow (sim_int _) (sim_int _)) sim_nil)))) (sim_call0 (sim_cons (sim_op simr_ixT (sim_var 0) (sim_int _)) (sim_cons (sim_op simr_ixT (sim_var 0) (sim_int _)) sim_nil)))))))⟩)
theorem ok__law_odd (T : Txt w K mg) : FnOk P w K mg base CX0 2 T.f__law_odd T.fd__law_odd ["_law_number", "_law_thing"] (spM T.cfg 2 f__law_odd) :=
  fn_sim0 T.F__law_odd sc__law_odd rfl (fun cdv A outer s H E hr => ⟨_, (pss_cons (ps_set (i := 2) sc__law_odd.nd rfl (Or.inl rfl) (pe_lst (pa_cons pe_non (pa_cons pe_bl (pa_cons (pe_un un_neg pe_int) (pa_cons pe_str (pa_cons (pe_op op_add (pe_op op_pow pe_int pe_int) pe_int) (pa_cons (pe_op op_pow pe_int pe_int) (pa_cons (pe_op op_add (pe_op op_pow pe_int pe_int) pe_int) (pa_cons pe_int (pa_cons (pe_op op_mulS pe_str pe_int) pa_nil)))))))))))
  (pss_cons (ps_set (i := 2) sc__law_odd.nd rfl (Or.inl rfl) (pe_op op_cat (pv 2) (pe_lst (pa_cons (pe_tup (pa_cons pe_str pa_nil)) (pa_cons (pe_tup (pa_cons pe_str pa_nil)) (pa_cons (pe_tup pa_nil) (pa_cons (pe_lst pa_nil) (pa_cons pe_dnewK (pa_cons pe_str pa_nil)))))))))
  (pss_cons (ps_set (i := 2) sc__law_odd.nd rfl (Or.inl rfl) (pe_op op_cat (pv 2) (pe_lst (pa_cons (pe_op op_pow pe_int pe_int) (pa_cons pe_int (pa_cons (pe_tup (pa_cons pe_str (pa_cons pe_str pa_nil))) (pa_cons (pe_tup (pa_cons pe_str (pa_cons pe_str pa_nil))) (pa_cons (pe_tup (pa_cons pe_str (pa_cons pe_str pa_nil))) pa_nil))))))))
  (pss_cons (ps_if (pt_val (pe_callB call_isA (by rfl) T.n_isinstance (by decide +kernel) (pa_cons (pv 1) (pa_cons (pe_bltn (v := .ty "tuple") rfl T.n_tuple (by decide +kernel) rfl (by decide)) pa_nil)))) (pss_one (ps_set (i := 2) sc__law_odd.nd rfl (Or.inl rfl) (pe_op op_cat (pv 2) (pe_op op_rep (pe_lst (pa_cons (pe_callTy call_list_of (by rfl) T.n_list (by decide +kernel) (pa_cons (pv 1) pa_nil)) (pa_cons (pe_op op_addU (pv 1) (pe_slice sl_U (pv 1) (po_some (pe_un un_neg pe_int)) po_none)) (pa_cons (pe_slice sl_U (pv 1) po_none (po_some (pe_un un_neg pe_int))) pa_nil)))) pe_int)))) pss_nil)
  (pss_cons (ps_if (pt_val (pe_call (ok__law_among T) (hr.mono (by decide)) (by rfl) T.g__law_among T.F__law_among.kp T.b__law_among .nil pass0 (pa_cons (pv 1) (pa_cons pe_int (pa_cons (pe_op op_pow pe_int pe_int) pa_nil))))) (pss_one (ps_set (i := 2) sc__law_odd.nd rfl (Or.inl rfl) (pe_op op_cat (pv 2) (pe_lst (pa_cons (pe_op op_add (pv 1) pe_int) (pa_cons (pe_op op_sub (pv 1) pe_int) (pa_cons (pe_un un_neg (pv 1)) (pa_cons (pe_callTy call_str_int (by rfl) T.n_str (by decide +kernel) (pa_cons (pe_op op_mod (pv 0) pe_int) pa_nil)) pa_nil)))))))) pss_nil)
  (pss_one (ps_ret (pe_ix ix_list (pv 2) (pe_op op_mod (pv 0) (pe_callB call_len_seq (by rfl) T.n_len (by decide +kernel) (pa_cons (pv 2) pa_nil))) (fun _ _ => rfl))))))))),
  (sims_seq (sims_asg (sim_lst (sim_cons sim_non (sim_cons (sim_bl _) (sim_cons (sim_neg (sim_int _)) (sim_cons (sim_str _) (sim_cons (sim_op simr_add (sim_op simr_pow (sim_int _) (sim_int _)) (sim_int _)) (sim_cons (sim_op simr_pow (sim_int _) (sim_int _)) (sim_cons (sim_op simr_add (sim_op simr_pow (sim_int _) (sim_int _)) (sim_int _)) (sim_cons (sim_int _) (sim_cons (sim_op simr_mulS (sim_str _) (sim_int _)) sim_nil)))))))))) (simg_name 2))
  (sims_seq (sims_asg (sim_op simr_cat (sim_var 2) (sim_lst (sim_cons (sim_tup (sim_cons (sim_str _) sim_nil)) (sim_cons (sim_tup (sim_cons (sim_str _) sim_nil)) (sim_cons (sim_tup sim_nil) (sim_cons (sim_lst sim_nil) (sim_cons sim_dnew (sim_cons (sim_str _) sim_nil)))))))) (simg_name 2))
  (sims_seq (sims_asg (sim_op simr_cat (sim_var 2) (sim_lst (sim_cons (sim_op simr_pow (sim_int _) (sim_int _)) (sim_cons (sim_int _) (sim_cons (sim_tup (sim_cons (sim_str _) (sim_cons (sim_str _) sim_nil))) (sim_cons (sim_tup (sim_cons (sim_str _) (sim_cons (sim_str _) sim_nil))) (sim_cons (sim_tup (sim_cons (sim_str _) (sim_cons (sim_str _) sim_nil))) sim_nil))))))) (simg_name 2))
  (sims_seq (sims_if (sim_tB (sim_cb (simc_isA T.tabOk) (sim_cons (sim_var 1) (sim_cons (sim_ty _) sim_nil)))) (sims_asg (sim_op simr_cat (sim_var 2) (sim_op simr_repL (sim_lst (sim_cons (sim_cb simc_listOf (sim_cons (sim_var 1) sim_nil)) (sim_cons (sim_op simr_addU (sim_var 1) (sim_sl sims_U (sim_var 1) (sim_part (sim_neg (sim_int _))) sim_noPart)) (sim_cons (sim_sl sims_U (sim_var 1) sim_noPart (sim_part (sim_neg (sim_int _)))) sim_nil)))) (sim_int _))) (simg_name 2)) sims_next)
  (sims_seq (sims_if (sim_tB (sim_call0 (sim_cons (sim_var 1) (sim_cons (sim_int _) (sim_cons (sim_op simr_pow (sim_int _) (sim_int _)) sim_nil))))) (sims_asg (sim_op simr_cat (sim_var 2) (sim_lst (sim_cons (sim_op simr_add (sim_var 1) (sim_int _)) (sim_cons (sim_op simr_sub (sim_var 1) (sim_int _)) (sim_cons (sim_neg (sim_var 1)) (sim_cons (sim_cb simc_strI (sim_cons (sim_op simr_mod (sim_var 0) (sim_int _)) sim_nil)) sim_nil)))))) (simg_name 2)) sims_next)
  (sims_ret (sim_op simr_ixL (sim_var 2) (sim_op simr_mod (sim_var 0) (sim_cb simc_lenQ (sim_cons (sim_var 2) sim_nil))))))))))⟩)
theorem fr__law_spoilt_ne : ∀ (n_ : Nat) (ds : List Dat) (μ : Store) (k : Nat) (μ' : Store), fr__law_spoilt n_ ds μ ≠ .raise k μ'
  | 0 => fun _ _ _ _ h => nomatch h
  | _ + 1 => nr_ne _
theorem okr__law_spoilt (T : Txt w K mg) : ∀ n_ : Nat, FnOk P w K mg base CX0 (3 + n_) T.f__law_spoilt T.fd__law_spoilt ["_law_state", "_law_thing"] (spM T.cfg 2 (fr__law_spoilt n_))
  | 0 => ⟨fun vs H Q E h => h.1, fun A outer s H args us vs Q E hr he hb hv h => by
      obtain ⟨_, _, _, _, _, _, z⟩ := h
      exact z.elim⟩
  | n_ + 1 => by
    have ih : FnOk P w K mg base CX0 (3 + n_) T.f__law_spoilt T.fd__law_spoilt ["_law_state", "_law_thing"] (spM T.cfg 2 (fr__law_spoilt n_)) := okr__law_spoilt T n_
    exact fn_sim0 T.F__law_spoilt sc__law_spoilt rfl (fun cdv A outer s H E hr => ⟨_, (pss_cons (ps_set (i := 2) sc__law_spoilt.nd rfl (Or.inl rfl) (pe_call (ok__law_next T) (hr.mono (Nat.le_trans (by decide) (Nat.le_add_right _ _))) (by rfl) T.g__law_next T.F__law_next.kp T.b__law_next .nil pass0 (pa_cons (pv 0) pa_nil)))
  (pss_cons (ps_if (PW.pt (pw_or (pt_not (pt_val (pe_callB call_isA (by rfl) T.n_isinstance (by decide +kernel) (pa_cons (pv 1) (pa_cons (pe_bltn (v := .ty "tuple") rfl T.n_tuple (by decide +kernel) rfl (by decide)) pa_nil))))) (pw_or (pt_cmpR (op_eqD hr.units) (pv 1) (pe_tup pa_nil) (nomark _)) (pw_or1 (pt_cmpR op_eq (pe_op op_mod (pv 2) pe_int) pe_int (nomark _)))))) (pss_one (ps_ret (pe_call (ok__law_odd T) (hr.mono (Nat.le_trans (by decide) (Nat.le_add_right _ _))) (by rfl) T.g__law_odd T.F__law_odd.kp T.b__law_odd .nil pass0 (pa_cons (pe_op op_fdiv (pv 2) pe_int) (pa_cons (pv 1) pa_nil))))) pss_nil)
  (pss_cons (ps_set (i := 3) sc__law_spoilt.nd rfl (Or.inl rfl) (pe_op op_mod (pe_op op_fdiv (pv 2) pe_int) (pe_callB call_len_seq (by rfl) T.n_len (by decide +kernel) (pa_cons (pv 1) pa_nil))))
  (pss_one (ps_ret (pe_op op_catA (pe_op op_catA (pe_slice sl_tupA (pv 1) po_none (po_some (pv 3))) (pe_tup (pa_cons (pe_call ih hr (by rfl) T.g__law_spoilt T.F__law_spoilt.kp T.b__law_spoilt .nil pass0 (pa_cons (pv 0) (pa_cons (pe_ix ix_tup (pv 1) (pv 3) (fun _ _ => rfl)) pa_nil))) pa_nil))) (pe_slice sl_tupA (pv 1) (po_some (pe_op op_add (pv 3) pe_int)) po_none))))))),
  (sims_seq (sims_asg (sim_call0 (sim_cons (sim_var 0) sim_nil)) (simg_name 2))
  (sims_seq (sims_if (sim_tOr (sim_tNot (sim_tB (sim_cb (simc_isA T.tabOk) (sim_cons (sim_var 1) (sim_cons (sim_ty _) sim_nil))))) (sim_tOr (sim_tTest (sim_op simr_eqD (sim_var 1) (sim_tup sim_nil))) (sim_tTest (sim_op simr_eq (sim_op simr_mod (sim_var 2) (sim_int _)) (sim_int _))))) (sims_ret (sim_call0 (sim_cons (sim_op simr_fdiv (sim_var 2) (sim_int _)) (sim_cons (sim_var 1) sim_nil)))) sims_next)
  (sims_seq (sims_asg (sim_op simr_mod (sim_op simr_fdiv (sim_var 2) (sim_int _)) (sim_cb simc_lenQ (sim_cons (sim_var 1) sim_nil))) (simg_name 3))
  (sims_ret (sim_op simr_catT (sim_op simr_catT (sim_sl sims_tup (sim_var 1) sim_noPart (sim_part (sim_var 3))) (sim_tup (sim_cons (sim_callN (fr__law_spoilt_ne n_) (sim_cons (sim_var 0) (sim_cons (sim_op simr_ixT (sim_var 1) (sim_var 3)) sim_nil))) sim_nil))) (sim_sl sims_tup (sim_var 1) (sim_part (sim_op simr_add (sim_var 3) (sim_int _))) sim_noPart))))))⟩)
theorem ok__law_spoilt (T : Txt w K mg) : FnOk P w K mg base CX0 8 T.f__law_spoilt T.fd__law_spoilt ["_law_state", "_law_thing"] (spM T.cfg 2 f__law_spoilt) := okr__law_spoilt T 5
theorem ok__law_less (T : Txt w K mg) : FnOk P w K mg base CX0 2 T.f__law_less T.fd__law_less ["_law_kind", "_law_one", "_law_other"] (spM T.cfg 3 f__law_less) :=
  fn_sim0 T.F__law_less sc__law_less rfl (fun cdv A outer s H E hr => ⟨_, (pss_cons (ps_if (PW.pt (pw_or (pt_cmpR op_eq (pv 0) pe_str (nomark _)) (pw_or1 (pt_cmpR op_eq (pv 0) pe_str (nomark _))))) (pss_one (ps_ret (pe_call (ok__law_before T) (hr.mono (by decide)) (by rfl) T.g__law_before T.F__law_before.kp T.b__law_before .nil pass0 (pa_cons (pv 1) (pa_cons (pv 2) pa_nil))))) pss_nil)
  (pss_cons (ps_if (PW.pt (pw_and (pt_cmpR op_eq (pv 0) pe_str (nomark _)) (pw_and1 (pt_cmpR (op_neD hr.units) (pe_ix ix_U (pv 1) pe_int (fun _ _ => rfl)) (pe_ix ix_U (pv 2) pe_int (fun _ _ => rfl)) (nomark _))))) (pss_one (ps_ret (pe_call (ok__law_before T) (hr.mono (by decide)) (by rfl) T.g__law_before T.F__law_before.kp T.b__law_before .nil pass0 (pa_cons (pe_ix ix_U (pv 1) pe_int (fun _ _ => rfl)) (pa_cons (pe_ix ix_U (pv 2) pe_int (fun _ _ => rfl)) pa_nil))))) pss_nil)
  (pss_cons (ps_if (pt_cmpR op_eq (pv 0) pe_str (nomark _)) (pss_one (ps_ret (pe_cmpR (op_ltD hr.units) (pe_ix ix_U (pv 1) pe_int (fun _ _ => rfl)) (pe_ix ix_U (pv 2) pe_int (fun _ _ => rfl)) (nomark _)))) pss_nil)
  (pss_one (ps_ret (pe_cmpR (op_ltD hr.units) (pv 1) (pv 2) (nomark _))))))),
  (sims_seq (sims_if (sim_tOr (sim_tTest (sim_op simr_eq (sim_var 0) (sim_str _))) (sim_tTest (sim_op simr_eq (sim_var 0) (sim_str _)))) (sims_ret (sim_call0 (sim_cons (sim_var 1) (sim_cons (sim_var 2) sim_nil)))) sims_next)
  (sims_seq (sims_if (sim_tAnd (sim_tTest (sim_op simr_eq (sim_var 0) (sim_str _))) (sim_tTest (sim_op simr_neD (sim_op simr_ixU (sim_var 1) (sim_int _)) (sim_op simr_ixU (sim_var 2) (sim_int _))))) (sims_ret (sim_call0 (sim_cons (sim_op simr_ixU (sim_var 1) (sim_int _)) (sim_cons (sim_op simr_ixU (sim_var 2) (sim_int _)) sim_nil)))) sims_next)
  (sims_seq (sims_if (sim_tTest (sim_op simr_eq (sim_var 0) (sim_str _))) (sims_ret (sim_op simr_ltD (sim_op simr_ixU (sim_var 1) (sim_int _)) (sim_op simr_ixU (sim_var 2) (sim_int _)))) sims_next)
  (sims_ret (sim_op simr_ltD (sim_var 1) (sim_var 2))))))⟩)
theorem ok__law_ahead (T : Txt w K mg) : FnOk P w K mg base CX0 3 T.f__law_ahead T.fd__law_ahead ["_law_one", "_law_other"] (spM T.cfg 2 f__law_ahead) :=
  fn_sim0 T.F__law_ahead sc__law_ahead rfl (fun cdv A outer s H E hr => ⟨_, (pss_cons (ps_if (pt_cmpR (op_neD hr.units) (pe_ix ix_tup (pv 0) pe_int (fun _ _ => rfl)) (pe_ix ix_tup (pv 1) pe_int (fun _ _ => rfl)) (nomark _)) (pss_one (ps_ret (pe_call (ok__law_before T) (hr.mono (by decide)) (by rfl) T.g__law_before T.F__law_before.kp T.b__law_before .nil pass0 (pa_cons (pe_ix ix_tup (pv 0) pe_int (fun _ _ => rfl)) (pa_cons (pe_ix ix_tup (pv 1) pe_int (fun _ _ => rfl)) pa_nil))))) pss_nil)
  (pss_cons (ps_if (pt_cmpR op_ne (pe_ix ix_tup (pv 0) pe_int (fun _ _ => rfl)) (pe_ix ix_tup (pv 1) pe_int (fun _ _ => rfl)) (nomark _)) (pss_one (ps_ret (pe_cmpR op_lt_str (pe_ix ix_tup (pv 0) pe_int (fun _ _ => rfl)) (pe_ix ix_tup (pv 1) pe_int (fun _ _ => rfl)) (nomark _)))) pss_nil)
  (pss_cons (ps_if (pt_cmpR (op_neD hr.units) (pe_ix ix_tup (pv 0) pe_int (fun _ _ => rfl)) (pe_ix ix_tup (pv 1) pe_int (fun _ _ => rfl)) (nomark _)) (pss_one (ps_ret (pe_call (ok__law_less T) (hr.mono (by decide)) (by rfl) T.g__law_less T.F__law_less.kp T.b__law_less .nil pass0 (pa_cons (pe_ix ix_tup (pv 0) pe_int (fun _ _ => rfl)) (pa_cons (pe_ix ix_tup (pv 0) pe_int (fun _ _ => rfl)) (pa_cons (pe_ix ix_tup (pv 1) pe_int (fun _ _ => rfl)) pa_nil)))))) pss_nil)
  (pss_one (ps_ret (pe_cmpR op_lt (pe_ix ix_tup (pv 0) pe_int (fun _ _ => rfl)) (pe_ix ix_tup (pv 1) pe_int (fun _ _ => rfl)) (nomark _))))))),
  (sims_seq (sims_if (sim_tTest (sim_op simr_neD (sim_op simr_ixT (sim_var 0) (sim_int _)) (sim_op simr_ixT (sim_var 1) (sim_int _)))) (sims_ret (sim_call0 (sim_cons (sim_op simr_ixT (sim_var 0) (sim_int _)) (sim_cons (sim_op simr_ixT (sim_var 1) (sim_int _)) sim_nil)))) sims_next)
  (sims_seq (sims_if (sim_tTest (sim_op simr_ne (sim_op simr_ixT (sim_var 0) (sim_int _)) (sim_op simr_ixT (sim_var 1) (sim_int _)))) (sims_ret (sim_op simr_ltS (sim_op simr_ixT (sim_var 0) (sim_int _)) (sim_op simr_ixT (sim_var 1) (sim_int _)))) sims_next)
  (sims_seq (sims_if (sim_tTest (sim_op simr_neD (sim_op simr_ixT (sim_var 0) (sim_int _)) (sim_op simr_ixT (sim_var 1) (sim_int _)))) (sims_ret (sim_call0 (sim_cons (sim_op simr_ixT (sim_var 0) (sim_int _)) (sim_cons (sim_op simr_ixT (sim_var 0) (sim_int _)) (sim_cons (sim_op simr_ixT (sim_var 1) (sim_int _)) sim_nil))))) sims_next)
  (sims_ret (sim_op simr_lt (sim_op simr_ixT (sim_var 0) (sim_int _)) (sim_op simr_ixT (sim_var 1) (sim_int _)))))))⟩)
theorem ok__law_sorted (T : Txt w K mg) : FnOk P w K mg base CX0 4 T.f__law_sorted T.fd__law_sorted ["_law_records"] (spM T.cfg 1 f__law_sorted) :=
  fn_sim0 T.F__law_sorted sc__law_sorted rfl (fun cdv A outer s H E hr => ⟨_, (pss_cons (ps_set (i := 1) sc__law_sorted.nd rfl (Or.inl rfl) (pe_lst pa_nil))
  (pss_cons (ps_for PassesOwn.never rfl (pi_list (pv 0)) (pg_name (i := 2) sc__law_sorted.nd rfl (Or.inl rfl)) (pss_cons (ps_set (i := 3) sc__law_sorted.nd rfl (Or.inl rfl) (pe_callB call_len_seq (by rfl) T.n_len (by decide +kernel) (pa_cons (pv 1) pa_nil)))
  (pss_cons (ps_while PassesOwn.never (PW.pt (pw_and (pt_cmpR op_gt (pv 3) pe_int (nomark _)) (pw_and1 (pt_val (pe_call (ok__law_ahead T) (hr.mono (by decide)) (by rfl) T.g__law_ahead T.F__law_ahead.kp T.b__law_ahead .nil pass0 (pa_cons (pv 2) (pa_cons (pe_ix ix_list (pv 1) (pe_op op_sub (pv 3) pe_int) (fun _ _ => rfl)) pa_nil))))))) (pss_one (ps_set (i := 3) sc__law_sorted.nd rfl (Or.inl rfl) (pe_op op_sub (pv 3) pe_int))))
  (pss_one (ps_expr (pe_bm PySem.F.plainAttrs_list PySem.F.slot_list_insert PySem.F.type_list_insert mt_insert (pv 1) (pa_cons (pv 3) (pa_cons (pv 2) pa_nil))))))))
  (pss_one (ps_ret (pv 1))))),
  (sims_seq (sims_asg (sim_lst sim_nil) (simg_name 1))
  (sims_seq (sims_for (simi_list (sim_var 0)) (simg_name 2) (sims_seq (sims_asg (sim_cb simc_lenQ (sim_cons (sim_var 1) sim_nil)) (simg_name 3))
  (sims_seq (sims_while 10 (sim_tAnd (sim_tTest (sim_op simr_gt (sim_var 3) (sim_int _))) (sim_tB (sim_call0 (sim_cons (sim_var 2) (sim_cons (sim_op simr_ixL (sim_var 1) (sim_op simr_sub (sim_var 3) (sim_int _))) sim_nil))))) (sims_asg (sim_op simr_sub (sim_var 3) (sim_int _)) (simg_name 3)))
  (sims_drop (sim_bm simb_insert (sim_var 1) (sim_cons (sim_var 3) (sim_cons (sim_var 2) sim_nil)))))))
  (sims_ret (sim_var 1))))⟩)
theorem ok__law_some (T : Txt w K mg) : FnOk P w K mg base CX0 7 T.f__law_some T.fd__law_some ["_law_state", "_law_labels_here"] (spM T.cfg 2 f__law_some) :=
  fn_sim0 T.F__law_some sc__law_some rfl (fun cdv A outer s H E hr => ⟨_, (pss_cons (ps_set (i := 2) sc__law_some.nd rfl (Or.inl rfl) (pe_lst pa_nil))
  (pss_cons (ps_for PassesOwn.never rfl (pi_range1 rfl T.n_range (pa_cons (pe_op op_mod (pe_call (ok__law_next T) (hr.mono (by decide)) (by rfl) T.g__law_next T.F__law_next.kp T.b__law_next .nil pass0 (pa_cons (pv 0) pa_nil)) pe_int) pa_nil)) (pg_name (i := 3) sc__law_some.nd rfl (Or.inl rfl)) (pss_cons (ps_set (i := 4) sc__law_some.nd rfl (Or.inl rfl) (pe_call (ok__law_record T) (hr.mono (by decide)) (by rfl) T.g__law_record T.F__law_record.kp T.b__law_record .nil pass0 (pa_cons (pv 0) (pa_cons (pv 1) pa_nil))))
  (pss_cons (ps_set (i := 5) sc__law_some.nd rfl (Or.inl rfl) (pe_call (ok__law_next T) (hr.mono (by decide)) (by rfl) T.g__law_next T.F__law_next.kp T.b__law_next .nil pass0 (pa_cons (pv 0) pa_nil)))
  (pss_cons (ps_if (PW.pt (pw_and (pt_cmpR (op_neD hr.units) (pv 2) (pe_lst pa_nil) (nomark _)) (pw_and1 (pt_cmpR op_eq (pe_op op_mod (pv 5) pe_int) pe_int (nomark _))))) (pss_cons (ps_set (i := 6) sc__law_some.nd rfl (Or.inl rfl) (pe_ix ix_list (pv 2) (pe_op op_mod (pe_op op_fdiv (pv 5) pe_int) (pe_callB call_len_seq (by rfl) T.n_len (by decide +kernel) (pa_cons (pv 2) pa_nil))) (fun _ _ => rfl)))
  (pss_cons (ps_set (i := 7) sc__law_some.nd rfl (Or.inl rfl) (pe_lst (pa_cons (pv 6) (pa_cons (pe_tup (pa_cons (pe_ix ix_tup (pv 6) pe_int (fun _ _ => rfl)) (pa_cons (pe_ix ix_tup (pv 6) pe_int (fun _ _ => rfl)) (pa_cons (pe_ix ix_tup (pv 4) pe_int (fun _ _ => rfl)) (pa_cons (pe_ix ix_tup (pv 6) pe_int (fun _ _ => rfl)) pa_nil))))) (pa_cons (pe_op op_catA (pe_tup (pa_cons (pe_ix ix_tup (pv 4) pe_int (fun _ _ => rfl)) pa_nil)) (pe_slice sl_tupA (pv 6) (po_some pe_int) po_none)) pa_nil)))))
  (pss_cons (ps_expr (pe_bm PySem.F.plainAttrs_list PySem.F.slot_list_append PySem.F.type_list_append mt_append (pv 7) (pa_cons (pe_tup (pa_cons (pe_ix ix_tup (pv 6) pe_int (fun _ _ => rfl)) (pa_cons (pe_ix ix_tup (pv 6) pe_int (fun _ _ => rfl)) (pa_cons (pe_ix ix_tup (pv 6) pe_int (fun _ _ => rfl)) (pa_cons (pe_call (ok__law_data T) (hr.mono (by decide)) (by rfl) T.g__law_data T.F__law_data.kp T.b__law_data .nil pass0 (pa_cons (pv 0) (pa_cons (pe_ix ix_tup (pv 6) pe_int (fun _ _ => rfl)) (pa_cons (pv 1) pa_nil)))) pa_nil))))) pa_nil)))
  (pss_one (ps_set (i := 4) sc__law_some.nd rfl (Or.inl rfl) (pe_ix ix_list (pv 7) (pe_op op_mod (pe_op op_fdiv (pv 5) pe_int) pe_int) (fun _ _ => rfl))))))) pss_nil)
  (pss_one (ps_expr (pe_bm PySem.F.plainAttrs_list PySem.F.slot_list_append PySem.F.type_list_append mt_append (pv 2) (pa_cons (pv 4) pa_nil))))))))
  (pss_one (ps_ret (pv 2))))),
  (sims_seq (sims_asg (sim_lst sim_nil) (simg_name 2))
  (sims_seq (sims_for (simi_range1 (sim_cons (sim_op simr_mod (sim_call0 (sim_cons (sim_var 0) sim_nil)) (sim_int _)) sim_nil)) (simg_name 3) (sims_seq (sims_asg (sim_call0 (sim_cons (sim_var 0) (sim_cons (sim_var 1) sim_nil))) (simg_name 4))
  (sims_seq (sims_asg (sim_call0 (sim_cons (sim_var 0) sim_nil)) (simg_name 5))
  (sims_seq (sims_if (sim_tAnd (sim_tTest (sim_op simr_neD (sim_var 2) (sim_lst sim_nil))) (sim_tTest (sim_op simr_eq (sim_op simr_mod (sim_var 5) (sim_int _)) (sim_int _)))) (sims_seq (sims_asg (sim_op simr_ixL (sim_var 2) (sim_op simr_mod (sim_op simr_fdiv (sim_var 5) (sim_int _)) (sim_cb simc_lenQ (sim_cons (sim_var 2) sim_nil)))) (simg_name 6))
  (sims_seq (sims_asg (sim_lst (sim_cons (sim_var 6) (sim_cons (sim_tup (sim_cons (sim_op simr_ixT (sim_var 6) (sim_int _)) (sim_cons (sim_op simr_ixT (sim_var 6) (sim_int _)) (sim_cons (sim_op simr_ixT (sim_var 4) (sim_int _)) (sim_cons (sim_op simr_ixT (sim_var 6) (sim_int _)) sim_nil))))) (sim_cons (sim_op simr_catT (sim_tup (sim_cons (sim_op simr_ixT (sim_var 4) (sim_int _)) sim_nil)) (sim_sl sims_tup (sim_var 6) (sim_part (sim_int _)) sim_noPart)) sim_nil)))) (simg_name 7))
  (sims_seq (sims_drop (sim_bm simb_append (sim_var 7) (sim_cons (sim_tup (sim_cons (sim_op simr_ixT (sim_var 6) (sim_int _)) (sim_cons (sim_op simr_ixT (sim_var 6) (sim_int _)) (sim_cons (sim_op simr_ixT (sim_var 6) (sim_int _)) (sim_cons (sim_call0 (sim_cons (sim_var 0) (sim_cons (sim_op simr_ixT (sim_var 6) (sim_int _)) (sim_cons (sim_var 1) sim_nil)))) sim_nil))))) sim_nil)))
  (sims_asg (sim_op simr_ixL (sim_var 7) (sim_op simr_mod (sim_op simr_fdiv (sim_var 5) (sim_int _)) (sim_int _))) (simg_name 4))))) sims_next)
  (sims_drop (sim_bm simb_append (sim_var 2) (sim_cons (sim_var 4) sim_nil)))))))
  (sims_ret (sim_var 2))))⟩)
theorem ok__law_word (T : Txt w K mg) : FnOk P w K mg base CX0 9 T.f__law_word T.fd__law_word ["_law_things"] (spM T.cfg 1 f__law_word) :=
  fn_sim0 T.F__law_word sc__law_word rfl (fun cdv A outer s H E hr => ⟨_, (pss_cons (ps_set (i := 1) sc__law_word.nd rfl (Or.inl rfl) pe_non)
  (pss_cons (ps_try_keep (i := 2) (Wout := fun _ _ _ _ => False) rfl rfl rfl sc__law_word.nd rfl rfl ⟨rfl, by decide, Or.inl T.g_HouseError⟩ takes0 (fun W pn xe tk _ => pss_one (ps_expr (by exact (pe_callS (ok_ordered T) (hr.mono (by decide)) rfl T.g_ordered T.F_ordered.kp T.b_ordered (fun σ => passAt tk σ) (pa_cons (pv 0) pa_nil))))) (fun a oe cls d pn hz hf => pss_one (ps_set (i := 1) sc__law_word.nd rfl (Or.inl rfl) (pv 2))))
  (pss_cons (ps_set (i := 3) sc__law_word.nd rfl (Or.inl rfl) (pe_callB call_isA (by rfl) T.n_isinstance (by decide +kernel) (pa_cons (pv 1) (pa_cons (pe_tup (pa_cons (pe_glob (v := .ref (T.cfg.cl 6)) rfl T.g_BadChange rfl) (pa_cons (pe_glob (v := .ref (T.cfg.cl 3)) rfl T.g_BadLetter rfl) (pa_cons (pe_glob (v := .ref (T.cfg.cl 8)) rfl T.g_BadLine rfl) (pa_cons (pe_glob (v := .ref (T.cfg.cl 1)) rfl T.g_BadName rfl) pa_nil))))) pa_nil))))
  (pss_cons (ps_set (i := 3) sc__law_word.nd rfl (Or.inl rfl) (pe_or (pv 3) (pe_one (pe_callB call_isA (by rfl) T.n_isinstance (by decide +kernel) (pa_cons (pv 1) (pa_cons (pe_tup (pa_cons (pe_glob (v := .ref (T.cfg.cl 5)) rfl T.g_BadRow rfl) (pa_cons (pe_glob (v := .ref (T.cfg.cl 7)) rfl T.g_BadTurn rfl) (pa_cons (pe_glob (v := .ref (T.cfg.cl 4)) rfl T.g_BadZone rfl) pa_nil)))) pa_nil))))))
  (pss_one (ps_ret (pe_and (pe_callB call_isA (by rfl) T.n_isinstance (by decide +kernel) (pa_cons (pv 1) (pa_cons (pe_glob (v := .ref (T.cfg.cl 2)) rfl T.g_BadRecord rfl) pa_nil))) (pe_and (pe_callB call_isA (by rfl) T.n_isinstance (by decide +kernel) (pa_cons (pv 1) (pa_cons (pe_bltn (v := .ty "ValueError") rfl T.n_ValueError (by decide +kernel) rfl (by decide)) pa_nil))) (pe_one (pe_not (pv 3))))))))))),
  (sims_seq (sims_asg sim_non (simg_name 1))
  (sims_seq (sims_try (m := 0) (i := 2) (j := 1) T.exm_HouseError (fun W => (sims_drop (sim_callS (sim_cons (sim_var 0) sim_nil)))))
  (sims_seq (sims_asg (sim_cb (simc_isA T.tabOk) (sim_cons (sim_var 1) (sim_cons (sim_tup (sim_cons (sim_cls 6) (sim_cons (sim_cls 3) (sim_cons (sim_cls 8) (sim_cons (sim_cls 1) sim_nil))))) sim_nil))) (simg_name 3))
  (sims_seq (sims_asg (sim_or (sim_var 3) (sim_cb (simc_isA T.tabOk) (sim_cons (sim_var 1) (sim_cons (sim_tup (sim_cons (sim_cls 5) (sim_cons (sim_cls 7) (sim_cons (sim_cls 4) sim_nil)))) sim_nil)))) (simg_name 3))
  (sims_ret (sim_and (sim_cb (simc_isA T.tabOk) (sim_cons (sim_var 1) (sim_cons (sim_cls 2) sim_nil))) (sim_and (sim_cb (simc_isA T.tabOk) (sim_cons (sim_var 1) (sim_cons (sim_ty _) sim_nil))) (sim_not (sim_var 3)))))))))⟩)
theorem ok_law (T : Txt w K mg) : FnOk P w K mg base (L2.CX P w) 10 T.f_law T.fd_law ["_law_script"] (spM T.cfg 1 f_law) :=
  fn_simX T.F_law sc_law rfl (fun cdv A outer s H E hr => ⟨_, (pss_cons (ps_set (i := 1) sc_law.nd rfl (Or.inl rfl) (pe_disp (pps_cons pe_str (pv 0) (pps_cons pe_str pe_int pps_nil)) (by rfl) (by rfl) (fun z => by cases z) (by decide)))
  (pss_cons (ps_set (i := 2) sc_law.nd rfl (Or.inl rfl) (pe_call (ok__law_labels T) (hr.mono (by decide)) (by rfl) T.g__law_labels T.F__law_labels.kp T.b__law_labels .nil pass0 (pa_cons (pv 1) pa_nil)))
  (pss_cons (ps_if (PW.pt (pw_or (pt_not (pt_val (pe_callB call_isA (by rfl) T.n_isinstance (by decide +kernel) (pa_cons (pe_glob (v := .ref T.A_KINDS) rfl T.c_KINDS rfl) (pa_cons (pe_bltn (v := .ty "tuple") rfl T.n_tuple (by decide +kernel) rfl (by decide)) pa_nil))))) (pw_or1 (pt_cmpR (op_neD hr.units) (pe_glob (v := .ref T.A_KINDS) rfl T.c_KINDS rfl) (pe_call0 (ok__law_kinds T) (hr.mono (by decide)) (by rfl) T.g__law_kinds T.F__law_kinds.kp T.b__law_kinds .nil pass0) (nomark _))))) (pss_one (ps_ret pe_bl)) pss_nil)
  (pss_cons (ps_set (i := 3) sc_law.nd rfl (Or.inl rfl) (pe_call (ok__law_some T) (hr.mono (by decide)) (by rfl) T.g__law_some T.F__law_some.kp T.b__law_some .nil pass0 (pa_cons (pv 1) (pa_cons (pv 2) pa_nil))))
  (pss_cons (ps_set (i := 4) sc_law.nd rfl (Or.inl rfl) (pe_call (ok__law_sorted T) (hr.mono (by decide)) (by rfl) T.g__law_sorted T.F__law_sorted.kp T.b__law_sorted .nil pass0 (pa_cons (pv 3) pa_nil)))
  (pss_cons (ps_set (i := 5) sc_law.nd rfl (Or.inl rfl) (pe_callTy call_list_of (by rfl) T.n_list (by decide +kernel) (pa_cons (pv 3) pa_nil)))
  (pss_cons (ps_set (i := 6) sc_law.nd rfl (Or.inl rfl) (pe_call (ok_ordered T) (hr.mono (by decide)) (by rfl) T.g_ordered T.F_ordered.kp T.b_ordered .nil (passes_call (takes_of rfl rfl rfl rfl) (fun _ _ _ _ h => h)) (pa_cons (pv 5) pa_nil)))
  (pss_cons (ps_if (PW.pt (pw_or (pt_not (pt_val (pe_callB call_isA (by rfl) T.n_isinstance (by decide +kernel) (pa_cons (pv 6) (pa_cons (pe_bltn (v := .ty "list") rfl T.n_list (by decide +kernel) rfl (by decide)) pa_nil))))) (pw_or (pt_cmpR (op_neD hr.units) (pv 6) (pv 4) (nomark _)) (pw_or (pt_cmpR (op_neD hr.units) (pv 5) (pv 3) (nomark _)) (pw_or1 (pt_cmpR (op_neD hr.units) (pe_call (ok_ordered T) (hr.mono (by decide)) (by rfl) T.g_ordered T.F_ordered.kp T.b_ordered .nil (passes_call (takes_of rfl rfl rfl rfl) (fun _ _ _ _ h => h)) (pa_cons (pe_back back_lst (pv 3) (po_some (pe_un un_neg pe_int))) pa_nil)) (pv 4) (nomark _))))))) (pss_one (ps_ret pe_bl)) pss_nil)
  (pss_cons (ps_expr (pe_bm PySem.F.plainAttrs_list PySem.F.slot_list_append PySem.F.type_list_append mt_append (pv 6) (pa_cons pe_non pa_nil)))
  (pss_cons (ps_if (pt_cmpR (op_neD hr.units) (pe_call (ok_ordered T) (hr.mono (by decide)) (by rfl) T.g_ordered T.F_ordered.kp T.b_ordered .nil (passes_call (takes_of rfl rfl rfl rfl) (fun _ _ _ _ h => h)) (pa_cons (pv 5) pa_nil)) (pv 4) (nomark _)) (pss_one (ps_ret pe_bl)) pss_nil)
  (pss_cons (ps_for (passes_of rfl) rfl (pi_range1 rfl T.n_range (pa_cons pe_int pa_nil)) (pg_name (i := 7) sc_law.nd rfl (Or.inl rfl)) (pss_cons (ps_set (i := 8) sc_law.nd rfl (Or.inl rfl) (pe_call (ok__law_record T) (hr.mono (by decide)) (by rfl) T.g__law_record T.F__law_record.kp T.b__law_record .nil pass0 (pa_cons (pv 1) (pa_cons (pv 2) pa_nil))))
  (pss_cons (ps_set (i := 9) sc_law.nd rfl (Or.inl rfl) (pe_call (ok__law_spoilt T) (hr.mono (by decide)) (by rfl) T.g__law_spoilt T.F__law_spoilt.kp T.b__law_spoilt .nil pass0 (pa_cons (pv 1) (pa_cons (pv 8) pa_nil))))
  (pss_cons (ps_set (i := 10) sc_law.nd rfl (Or.inl rfl) (pe_call (ok_is_record T) (hr.mono (by decide)) (by rfl) T.g_is_record T.F_is_record.kp T.b_is_record .nil pass0 (pa_cons (pv 9) pa_nil)))
  (pss_cons (ps_if (PW.pt (pw_or (pt_cmpR op_notBl (pe_call (ok_is_record T) (hr.mono (by decide)) (by rfl) T.g_is_record T.F_is_record.kp T.b_is_record .nil pass0 (pa_cons (pv 8) pa_nil)) pe_bl (nomark _)) (pw_or (pt_not (pt_val (pe_callB call_isA (by rfl) T.n_isinstance (by decide +kernel) (pa_cons (pv 10) (pa_cons (pe_bltn (v := .ty "bool") rfl T.n_bool (by decide +kernel) rfl (by decide)) pa_nil))))) (pw_or1 (pt_cmpR op_ne (pv 10) (pe_call (ok__law_is_record T) (hr.mono (by decide)) (by rfl) T.g__law_is_record T.F__law_is_record.kp T.b__law_is_record .nil pass0 (pa_cons (pv 9) pa_nil)) (nomark _)))))) (pss_one (ps_ret pe_bl)) pss_nil)
  (pss_cons (ps_set (i := 11) sc_law.nd rfl (Or.inl rfl) (pe_call (ok__law_next T) (hr.mono (by decide)) (by rfl) T.g__law_next T.F__law_next.kp T.b__law_next .nil pass0 (pa_cons (pv 1) pa_nil)))
  (pss_cons (ps_set (i := 12) sc_law.nd rfl (Or.inl rfl) (pe_op op_mod (pv 11) (pe_op op_add (pe_callB call_len_seq (by rfl) T.n_len (by decide +kernel) (pa_cons (pv 3) pa_nil)) pe_int)))
  (pss_one (ps_if (PW.pt (pw_and (pt_not (pt_val (pv 10))) (pw_and1 (pt_not (pt_val (pe_call (ok__law_word T) (hr.mono (by decide)) (by rfl) T.g__law_word T.F__law_word.kp T.b__law_word .nil pass0 (pa_cons (pe_op op_cat (pe_op op_cat (pe_slice sl_list (pv 3) po_none (po_some (pv 12))) (pe_lst (pa_cons (pv 9) pa_nil))) (pe_slice sl_list (pv 3) (po_some (pv 12)) po_none)) pa_nil))))))) (pss_one (ps_ret pe_bl)) pss_nil)))))))))
  (pss_one (ps_ret (pe_call (ok__law_word T) (hr.mono (by decide)) (by rfl) T.g__law_word T.F__law_word.kp T.b__law_word .nil pass0 (pa_cons (pe_ix ix_list (pe_lst (pa_cons pe_non (pa_cons (pe_callTy call_tuple_of (by rfl) T.n_tuple (by decide +kernel) (pa_cons (pv 3) pa_nil)) (pa_cons pe_str (pa_cons pe_dnewK (pa_cons pe_int pa_nil)))))) (pe_op op_mod (pe_call (ok__law_next T) (hr.mono (by decide)) (by rfl) T.g__law_next T.F__law_next.kp T.b__law_next .nil pass0 (pa_cons (pv 1) pa_nil)) pe_int) (fun _ _ => rfl)) pa_nil))))))))))))))),
  (sims_seq (sims_asg (sim_disp (simp_cons (sim_str _) (sim_var 0) (simp_cons (sim_str _) (sim_int _) simp_nil))) (simg_name 1))
  (sims_seq (sims_asg (sim_call0 (sim_cons (sim_var 1) sim_nil)) (simg_name 2))
  (sims_seq (sims_if (sim_tOr (sim_tNot (sim_tB (sim_cb (simc_isA T.tabOk) (sim_cons (sim_con T.d_KINDS (fun _ _ => rel_k_KINDS)) (sim_cons (sim_ty _) sim_nil))))) (sim_tTest (sim_op simr_neD (sim_con T.d_KINDS (fun _ _ => rel_k_KINDS)) (sim_call0 sim_nil)))) (sims_ret (sim_bl _)) sims_next)
  (sims_seq (sims_asg (sim_call0 (sim_cons (sim_var 1) (sim_cons (sim_var 2) sim_nil))) (simg_name 3))
  (sims_seq (sims_asg (sim_call0 (sim_cons (sim_var 3) sim_nil)) (simg_name 4))
  (sims_seq (sims_asg (sim_cb simc_listOf (sim_cons (sim_var 3) sim_nil)) (simg_name 5))
  (sims_seq (sims_asg (sim_callE (sim_cons (sim_var 5) sim_nil)) (simg_name 6))
  (sims_seq (sims_if (sim_tOr (sim_tNot (sim_tB (sim_cb (simc_isA T.tabOk) (sim_cons (sim_var 6) (sim_cons (sim_ty _) sim_nil))))) (sim_tOr (sim_tTest (sim_op simr_neD (sim_var 6) (sim_var 4))) (sim_tOr (sim_tTest (sim_op simr_neD (sim_var 5) (sim_var 3))) (sim_tTest (sim_op simr_neD (sim_callE (sim_cons (sim_back simb_backL (sim_var 3) (sim_part (sim_neg (sim_int _)))) sim_nil)) (sim_var 4)))))) (sims_ret (sim_bl _)) sims_next)
  (sims_seq (sims_drop (sim_bm simb_append (sim_var 6) (sim_cons sim_non sim_nil)))
  (sims_seq (sims_if (sim_tTest (sim_op simr_neD (sim_callE (sim_cons (sim_var 5) sim_nil)) (sim_var 4))) (sims_ret (sim_bl _)) sims_next)
  (sims_seq (sims_for (simi_range1 (sim_cons (sim_int _) sim_nil)) (simg_name 7) (sims_seq (sims_asg (sim_call0 (sim_cons (sim_var 1) (sim_cons (sim_var 2) sim_nil))) (simg_name 8))
  (sims_seq (sims_asg (sim_call0 (sim_cons (sim_var 1) (sim_cons (sim_var 8) sim_nil))) (simg_name 9))
  (sims_seq (sims_asg (sim_call0 (sim_cons (sim_var 9) sim_nil)) (simg_name 10))
  (sims_seq (sims_if (sim_tOr (sim_tTest (sim_op simr_notB (sim_call0 (sim_cons (sim_var 8) sim_nil)) (sim_bl _))) (sim_tOr (sim_tNot (sim_tB (sim_cb (simc_isA T.tabOk) (sim_cons (sim_var 10) (sim_cons (sim_ty _) sim_nil))))) (sim_tTest (sim_op simr_ne (sim_var 10) (sim_call0 (sim_cons (sim_var 9) sim_nil)))))) (sims_ret (sim_bl _)) sims_next)
  (sims_seq (sims_asg (sim_call0 (sim_cons (sim_var 1) sim_nil)) (simg_name 11))
  (sims_seq (sims_asg (sim_op simr_mod (sim_var 11) (sim_op simr_add (sim_cb simc_lenQ (sim_cons (sim_var 3) sim_nil)) (sim_int _))) (simg_name 12))
  (sims_if (sim_tAnd (sim_tNot (sim_tB (sim_var 10))) (sim_tNot (sim_tB (sim_call0 (sim_cons (sim_op simr_cat (sim_op simr_cat (sim_sl sims_lst (sim_var 3) sim_noPart (sim_part (sim_var 12))) (sim_lst (sim_cons (sim_var 9) sim_nil))) (sim_sl sims_lst (sim_var 3) (sim_part (sim_var 12)) sim_noPart)) sim_nil))))) (sims_ret (sim_bl _)) sims_next))))))))
  (sims_ret (sim_call0 (sim_cons (sim_op simr_ixL (sim_lst (sim_cons sim_non (sim_cons (sim_cb simc_tupleOf (sim_cons (sim_var 3) sim_nil)) (sim_cons (sim_str _) (sim_cons sim_dnew (sim_cons (sim_int _) sim_nil)))))) (sim_op simr_mod (sim_call0 (sim_cons (sim_var 1) sim_nil)) (sim_int _))) sim_nil))))))))))))))⟩)
end
theorem all_mk {l : PySem.W.OpenLaw} {w : World} {K : PySem.W.Frag} {h : Heap} {mg : Str → Option Value} {fa : Addr} (X : K.In h) (G : h.Ns mainGlobals mg) (hfa : mg "law" = some (.ref fa))
    {C_HouseError : Addr}
    {C_BadName : Addr}
    {C_BadRecord : Addr}
    {C_BadLetter : Addr}
    {C_BadZone : Addr}
    {C_BadRow : Addr}
    {C_BadChange : Addr}
    {C_BadTurn : Addr}
    {C_BadLine : Addr}
    {od_is_whole an_is_whole : Option Addr} {sl_is_whole : Array (Option Value)} {oc_is_whole kV_is_whole dc_is_whole pm_is_whole cd_is_whole ct_is_whole : Value} {f_is_whole : Addr}
    {od_within an_within : Option Addr} {sl_within : Array (Option Value)} {oc_within kV_within dc_within pm_within cd_within ct_within : Value} {f_within : Addr}
    {od_is_label an_is_label : Option Addr} {sl_is_label : Array (Option Value)} {oc_is_label kV_is_label dc_is_label pm_is_label cd_is_label ct_is_label : Value} {f_is_label : Addr}
    {od_is_name an_is_name : Option Addr} {sl_is_name : Array (Option Value)} {oc_is_name kV_is_name dc_is_name pm_is_name cd_is_name ct_is_name : Value} {f_is_name : Addr}
    {od_is_starless an_is_starless : Option Addr} {sl_is_starless : Array (Option Value)} {oc_is_starless kV_is_starless dc_is_starless pm_is_starless cd_is_starless ct_is_starless : Value} {f_is_starless : Addr}
    {od_name_rank an_name_rank : Option Addr} {sl_name_rank : Array (Option Value)} {oc_name_rank kV_name_rank dc_name_rank pm_name_rank cd_name_rank ct_name_rank : Value} {f_name_rank : Addr}
    {od_is_sign an_is_sign : Option Addr} {sl_is_sign : Array (Option Value)} {oc_is_sign kV_is_sign dc_is_sign pm_is_sign cd_is_sign ct_is_sign : Value} {f_is_sign : Addr}
    {od_is_kind an_is_kind : Option Addr} {sl_is_kind : Array (Option Value)} {oc_is_kind kV_is_kind dc_is_kind pm_is_kind cd_is_kind ct_is_kind : Value} {f_is_kind : Addr}
    {od_is_life an_is_life : Option Addr} {sl_is_life : Array (Option Value)} {oc_is_life kV_is_life dc_is_life pm_is_life cd_is_life ct_is_life : Value} {f_is_life : Addr}
    {od_is_key an_is_key : Option Addr} {sl_is_key : Array (Option Value)} {oc_is_key kV_is_key dc_is_key pm_is_key cd_is_key ct_is_key : Value} {f_is_key : Addr}
    {od_is_addr an_is_addr : Option Addr} {sl_is_addr : Array (Option Value)} {oc_is_addr kV_is_addr dc_is_addr pm_is_addr cd_is_addr ct_is_addr : Value} {f_is_addr : Addr}
    {od__is_text an__is_text : Option Addr} {sl__is_text : Array (Option Value)} {oc__is_text kV__is_text dc__is_text pm__is_text cd__is_text ct__is_text : Value} {f__is_text : Addr}
    {od__is_named an__is_named : Option Addr} {sl__is_named : Array (Option Value)} {oc__is_named kV__is_named dc__is_named pm__is_named cd__is_named ct__is_named : Value} {f__is_named : Addr}
    {od_is_version an_is_version : Option Addr} {sl_is_version : Array (Option Value)} {oc_is_version kV_is_version dc_is_version pm_is_version cd_is_version ct_is_version : Value} {f_is_version : Addr}
    {od__is_top an__is_top : Option Addr} {sl__is_top : Array (Option Value)} {oc__is_top kV__is_top dc__is_top pm__is_top cd__is_top ct__is_top : Value} {f__is_top : Addr}
    {od__is_seal an__is_seal : Option Addr} {sl__is_seal : Array (Option Value)} {oc__is_seal kV__is_seal dc__is_seal pm__is_seal cd__is_seal ct__is_seal : Value} {f__is_seal : Addr}
    {od__are_rising_kinds an__are_rising_kinds : Option Addr} {sl__are_rising_kinds : Array (Option Value)} {oc__are_rising_kinds kV__are_rising_kinds dc__are_rising_kinds pm__are_rising_kinds cd__are_rising_kinds ct__are_rising_kinds : Value} {f__are_rising_kinds : Addr}
    {od__is_gap an__is_gap : Option Addr} {sl__is_gap : Array (Option Value)} {oc__is_gap kV__is_gap dc__is_gap pm__is_gap cd__is_gap ct__is_gap : Value} {f__is_gap : Addr}
    {od_is_data an_is_data : Option Addr} {sl_is_data : Array (Option Value)} {oc_is_data kV_is_data dc_is_data pm_is_data cd_is_data ct_is_data : Value} {f_is_data : Addr}
    {od_is_record an_is_record : Option Addr} {sl_is_record : Array (Option Value)} {oc_is_record kV_is_record dc_is_record pm_is_record cd_is_record ct_is_record : Value} {f_is_record : Addr}
    {od_are_records an_are_records : Option Addr} {sl_are_records : Array (Option Value)} {oc_are_records kV_are_records dc_are_records pm_are_records cd_are_records ct_are_records : Value} {f_are_records : Addr}
    {od_data_rank an_data_rank : Option Addr} {sl_data_rank : Array (Option Value)} {oc_data_rank kV_data_rank dc_data_rank pm_data_rank cd_data_rank ct_data_rank : Value} {f_data_rank : Addr}
    {od_record_rank an_record_rank : Option Addr} {sl_record_rank : Array (Option Value)} {oc_record_rank kV_record_rank dc_record_rank pm_record_rank cd_record_rank ct_record_rank : Value} {f_record_rank : Addr}
    {od_ordered an_ordered : Option Addr} {sl_ordered : Array (Option Value)} {oc_ordered kV_ordered dc_ordered pm_ordered cd_ordered ct_ordered : Value} {f_ordered : Addr}
    {od__law_cell_at an__law_cell_at : Option Addr} {sl__law_cell_at : Array (Option Value)} {oc__law_cell_at kV__law_cell_at dc__law_cell_at pm__law_cell_at cd__law_cell_at ct__law_cell_at : Value} {f__law_cell_at : Addr}
    {od__law_next an__law_next : Option Addr} {sl__law_next : Array (Option Value)} {oc__law_next kV__law_next dc__law_next pm__law_next cd__law_next ct__law_next : Value} {f__law_next : Addr}
    {od__law_great an__law_great : Option Addr} {sl__law_great : Array (Option Value)} {oc__law_great kV__law_great dc__law_great pm__law_great cd__law_great ct__law_great : Value} {f__law_great : Addr}
    {od__law_signs an__law_signs : Option Addr} {sl__law_signs : Array (Option Value)} {oc__law_signs kV__law_signs dc__law_signs pm__law_signs cd__law_signs ct__law_signs : Value} {f__law_signs : Addr}
    {od__law_label an__law_label : Option Addr} {sl__law_label : Array (Option Value)} {oc__law_label kV__law_label dc__law_label pm__law_label cd__law_label ct__law_label : Value} {f__law_label : Addr}
    {od__law_labels an__law_labels : Option Addr} {sl__law_labels : Array (Option Value)} {oc__law_labels kV__law_labels dc__law_labels pm__law_labels cd__law_labels ct__law_labels : Value} {f__law_labels : Addr}
    {od__law_name an__law_name : Option Addr} {sl__law_name : Array (Option Value)} {oc__law_name kV__law_name dc__law_name pm__law_name cd__law_name ct__law_name : Value} {f__law_name : Addr}
    {od__law_plain an__law_plain : Option Addr} {sl__law_plain : Array (Option Value)} {oc__law_plain kV__law_plain dc__law_plain pm__law_plain cd__law_plain ct__law_plain : Value} {f__law_plain : Addr}
    {od__law_text an__law_text : Option Addr} {sl__law_text : Array (Option Value)} {oc__law_text kV__law_text dc__law_text pm__law_text cd__law_text ct__law_text : Value} {f__law_text : Addr}
    {od__law_kinds an__law_kinds : Option Addr} {sl__law_kinds : Array (Option Value)} {oc__law_kinds kV__law_kinds dc__law_kinds pm__law_kinds cd__law_kinds ct__law_kinds : Value} {f__law_kinds : Addr}
    {od__law_data an__law_data : Option Addr} {sl__law_data : Array (Option Value)} {oc__law_data kV__law_data dc__law_data pm__law_data cd__law_data ct__law_data : Value} {f__law_data : Addr}
    {od__law_record an__law_record : Option Addr} {sl__law_record : Array (Option Value)} {oc__law_record kV__law_record dc__law_record pm__law_record cd__law_record ct__law_record : Value} {f__law_record : Addr}
    {od__law_before an__law_before : Option Addr} {sl__law_before : Array (Option Value)} {oc__law_before kV__law_before dc__law_before pm__law_before cd__law_before ct__law_before : Value} {f__law_before : Addr}
    {od__law_among an__law_among : Option Addr} {sl__law_among : Array (Option Value)} {oc__law_among kV__law_among dc__law_among pm__law_among cd__law_among ct__law_among : Value} {f__law_among : Addr}
    {od__law_is_name an__law_is_name : Option Addr} {sl__law_is_name : Array (Option Value)} {oc__law_is_name kV__law_is_name dc__law_is_name pm__law_is_name cd__law_is_name ct__law_is_name : Value} {f__law_is_name : Addr}
    {od__law_is_kind an__law_is_kind : Option Addr} {sl__law_is_kind : Array (Option Value)} {oc__law_is_kind kV__law_is_kind dc__law_is_kind pm__law_is_kind cd__law_is_kind ct__law_is_kind : Value} {f__law_is_kind : Addr}
    {od__law_is_data an__law_is_data : Option Addr} {sl__law_is_data : Array (Option Value)} {oc__law_is_data kV__law_is_data dc__law_is_data pm__law_is_data cd__law_is_data ct__law_is_data : Value} {f__law_is_data : Addr}
    {od__law_is_record an__law_is_record : Option Addr} {sl__law_is_record : Array (Option Value)} {oc__law_is_record kV__law_is_record dc__law_is_record pm__law_is_record cd__law_is_record ct__law_is_record : Value} {f__law_is_record : Addr}
    {od__law_odd an__law_odd : Option Addr} {sl__law_odd : Array (Option Value)} {oc__law_odd kV__law_odd dc__law_odd pm__law_odd cd__law_odd ct__law_odd : Value} {f__law_odd : Addr}
    {od__law_spoilt an__law_spoilt : Option Addr} {sl__law_spoilt : Array (Option Value)} {oc__law_spoilt kV__law_spoilt dc__law_spoilt pm__law_spoilt cd__law_spoilt ct__law_spoilt : Value} {f__law_spoilt : Addr}
    {od__law_less an__law_less : Option Addr} {sl__law_less : Array (Option Value)} {oc__law_less kV__law_less dc__law_less pm__law_less cd__law_less ct__law_less : Value} {f__law_less : Addr}
    {od__law_ahead an__law_ahead : Option Addr} {sl__law_ahead : Array (Option Value)} {oc__law_ahead kV__law_ahead dc__law_ahead pm__law_ahead cd__law_ahead ct__law_ahead : Value} {f__law_ahead : Addr}
    {od__law_sorted an__law_sorted : Option Addr} {sl__law_sorted : Array (Option Value)} {oc__law_sorted kV__law_sorted dc__law_sorted pm__law_sorted cd__law_sorted ct__law_sorted : Value} {f__law_sorted : Addr}
    {od__law_some an__law_some : Option Addr} {sl__law_some : Array (Option Value)} {oc__law_some kV__law_some dc__law_some pm__law_some cd__law_some ct__law_some : Value} {f__law_some : Addr}
    {od__law_word an__law_word : Option Addr} {sl__law_word : Array (Option Value)} {oc__law_word kV__law_word dc__law_word pm__law_word cd__law_word ct__law_word : Value} {f__law_word : Addr}
    {od_law an_law : Option Addr} {sl_law : Array (Option Value)} {oc_law kV_law dc_law pm_law cd_law ct_law : Value} {f_law : Addr}
    {t_HIGHEST_KEY : Tok}
    {t_HIGHEST_SUM : Tok}
    {t_HIGHEST_VERSION : Tok}
    {A_KINDS : Addr} {nn_KINDS : Nat}
    {its_KINDS : Array Value} {sl_KINDS : Array (Option Value)}
    {t_LABEL_SIGNS : Tok}
    {t_LONGEST_LIFE : Tok}
    {t_MOST_LABELS : Tok}
    {t_MOST_SIGNS : Tok}
    {t_MOST_TEXT : Tok}
    {t_STAR : Tok}
    {A__DATA_TESTS : Addr} {nn__DATA_TESTS : Nat}
    {es__DATA_TESTS : Array DictEntry}
    {t__HIGH_SIGNS : Tok}
    {t__LOW_SIGNS : Tok}
    (g_HouseError : PySem.W.nsIn K mainGlobals "HouseError" = some (some (.ref C_HouseError)))
    (g_BadName : PySem.W.nsIn K mainGlobals "BadName" = some (some (.ref C_BadName)))
    (g_BadRecord : PySem.W.nsIn K mainGlobals "BadRecord" = some (some (.ref C_BadRecord)))
    (g_BadLetter : PySem.W.nsIn K mainGlobals "BadLetter" = some (some (.ref C_BadLetter)))
    (g_BadZone : PySem.W.nsIn K mainGlobals "BadZone" = some (some (.ref C_BadZone)))
    (g_BadRow : PySem.W.nsIn K mainGlobals "BadRow" = some (some (.ref C_BadRow)))
    (g_BadChange : PySem.W.nsIn K mainGlobals "BadChange" = some (some (.ref C_BadChange)))
    (g_BadTurn : PySem.W.nsIn K mainGlobals "BadTurn" = some (some (.ref C_BadTurn)))
    (g_BadLine : PySem.W.nsIn K mainGlobals "BadLine" = some (some (.ref C_BadLine)))
    (a_is_whole : PySem.W.nsIn K mainGlobals "is_whole" = some (some (.ref f_is_whole)))
    (l_is_whole : K.lookup f_is_whole = some ⟨oc_is_whole, od_is_whole, .func (PySem.W.fnOf "is_whole" "is_whole" (defArgs s_is_whole) (defBody s_is_whole) (defScope s_is_whole) .none kV_is_whole dc_is_whole pm_is_whole an_is_whole cd_is_whole ct_is_whole), sl_is_whole⟩)
    (c_is_whole : PySem.W.codeIn K cd_is_whole "is_whole" = true)
    (k_is_whole : PySem.W.keepIn K (.ref f_is_whole) = true)
    (a_within : PySem.W.nsIn K mainGlobals "within" = some (some (.ref f_within)))
    (l_within : K.lookup f_within = some ⟨oc_within, od_within, .func (PySem.W.fnOf "within" "within" (defArgs s_within) (defBody s_within) (defScope s_within) .none kV_within dc_within pm_within an_within cd_within ct_within), sl_within⟩)
    (c_within : PySem.W.codeIn K cd_within "within" = true)
    (k_within : PySem.W.keepIn K (.ref f_within) = true)
    (a_is_label : PySem.W.nsIn K mainGlobals "is_label" = some (some (.ref f_is_label)))
    (l_is_label : K.lookup f_is_label = some ⟨oc_is_label, od_is_label, .func (PySem.W.fnOf "is_label" "is_label" (defArgs s_is_label) (defBody s_is_label) (defScope s_is_label) .none kV_is_label dc_is_label pm_is_label an_is_label cd_is_label ct_is_label), sl_is_label⟩)
    (c_is_label : PySem.W.codeIn K cd_is_label "is_label" = true)
    (k_is_label : PySem.W.keepIn K (.ref f_is_label) = true)
    (a_is_name : PySem.W.nsIn K mainGlobals "is_name" = some (some (.ref f_is_name)))
    (l_is_name : K.lookup f_is_name = some ⟨oc_is_name, od_is_name, .func (PySem.W.fnOf "is_name" "is_name" (defArgs s_is_name) (defBody s_is_name) (defScope s_is_name) .none kV_is_name dc_is_name pm_is_name an_is_name cd_is_name ct_is_name), sl_is_name⟩)
    (c_is_name : PySem.W.codeIn K cd_is_name "is_name" = true)
    (k_is_name : PySem.W.keepIn K (.ref f_is_name) = true)
    (a_is_starless : PySem.W.nsIn K mainGlobals "is_starless" = some (some (.ref f_is_starless)))
    (l_is_starless : K.lookup f_is_starless = some ⟨oc_is_starless, od_is_starless, .func (PySem.W.fnOf "is_starless" "is_starless" (defArgs s_is_starless) (defBody s_is_starless) (defScope s_is_starless) .none kV_is_starless dc_is_starless pm_is_starless an_is_starless cd_is_starless ct_is_starless), sl_is_starless⟩)
    (c_is_starless : PySem.W.codeIn K cd_is_starless "is_starless" = true)
    (k_is_starless : PySem.W.keepIn K (.ref f_is_starless) = true)
    (a_name_rank : PySem.W.nsIn K mainGlobals "name_rank" = some (some (.ref f_name_rank)))
    (l_name_rank : K.lookup f_name_rank = some ⟨oc_name_rank, od_name_rank, .func (PySem.W.fnOf "name_rank" "name_rank" (defArgs s_name_rank) (defBody s_name_rank) (defScope s_name_rank) .none kV_name_rank dc_name_rank pm_name_rank an_name_rank cd_name_rank ct_name_rank), sl_name_rank⟩)
    (c_name_rank : PySem.W.codeIn K cd_name_rank "name_rank" = true)
    (k_name_rank : PySem.W.keepIn K (.ref f_name_rank) = true)
    (a_is_sign : PySem.W.nsIn K mainGlobals "is_sign" = some (some (.ref f_is_sign)))
    (l_is_sign : K.lookup f_is_sign = some ⟨oc_is_sign, od_is_sign, .func (PySem.W.fnOf "is_sign" "is_sign" (defArgs s_is_sign) (defBody s_is_sign) (defScope s_is_sign) .none kV_is_sign dc_is_sign pm_is_sign an_is_sign cd_is_sign ct_is_sign), sl_is_sign⟩)
    (c_is_sign : PySem.W.codeIn K cd_is_sign "is_sign" = true)
    (k_is_sign : PySem.W.keepIn K (.ref f_is_sign) = true)
    (a_is_kind : PySem.W.nsIn K mainGlobals "is_kind" = some (some (.ref f_is_kind)))
    (l_is_kind : K.lookup f_is_kind = some ⟨oc_is_kind, od_is_kind, .func (PySem.W.fnOf "is_kind" "is_kind" (defArgs s_is_kind) (defBody s_is_kind) (defScope s_is_kind) .none kV_is_kind dc_is_kind pm_is_kind an_is_kind cd_is_kind ct_is_kind), sl_is_kind⟩)
    (c_is_kind : PySem.W.codeIn K cd_is_kind "is_kind" = true)
    (k_is_kind : PySem.W.keepIn K (.ref f_is_kind) = true)
    (a_is_life : PySem.W.nsIn K mainGlobals "is_life" = some (some (.ref f_is_life)))
    (l_is_life : K.lookup f_is_life = some ⟨oc_is_life, od_is_life, .func (PySem.W.fnOf "is_life" "is_life" (defArgs s_is_life) (defBody s_is_life) (defScope s_is_life) .none kV_is_life dc_is_life pm_is_life an_is_life cd_is_life ct_is_life), sl_is_life⟩)
    (c_is_life : PySem.W.codeIn K cd_is_life "is_life" = true)
    (k_is_life : PySem.W.keepIn K (.ref f_is_life) = true)
    (a_is_key : PySem.W.nsIn K mainGlobals "is_key" = some (some (.ref f_is_key)))
    (l_is_key : K.lookup f_is_key = some ⟨oc_is_key, od_is_key, .func (PySem.W.fnOf "is_key" "is_key" (defArgs s_is_key) (defBody s_is_key) (defScope s_is_key) .none kV_is_key dc_is_key pm_is_key an_is_key cd_is_key ct_is_key), sl_is_key⟩)
    (c_is_key : PySem.W.codeIn K cd_is_key "is_key" = true)
    (k_is_key : PySem.W.keepIn K (.ref f_is_key) = true)
    (a_is_addr : PySem.W.nsIn K mainGlobals "is_addr" = some (some (.ref f_is_addr)))
    (l_is_addr : K.lookup f_is_addr = some ⟨oc_is_addr, od_is_addr, .func (PySem.W.fnOf "is_addr" "is_addr" (defArgs s_is_addr) (defBody s_is_addr) (defScope s_is_addr) .none kV_is_addr dc_is_addr pm_is_addr an_is_addr cd_is_addr ct_is_addr), sl_is_addr⟩)
    (c_is_addr : PySem.W.codeIn K cd_is_addr "is_addr" = true)
    (k_is_addr : PySem.W.keepIn K (.ref f_is_addr) = true)
    (a__is_text : PySem.W.nsIn K mainGlobals "_is_text" = some (some (.ref f__is_text)))
    (l__is_text : K.lookup f__is_text = some ⟨oc__is_text, od__is_text, .func (PySem.W.fnOf "_is_text" "_is_text" (defArgs s__is_text) (defBody s__is_text) (defScope s__is_text) .none kV__is_text dc__is_text pm__is_text an__is_text cd__is_text ct__is_text), sl__is_text⟩)
    (c__is_text : PySem.W.codeIn K cd__is_text "_is_text" = true)
    (k__is_text : PySem.W.keepIn K (.ref f__is_text) = true)
    (a__is_named : PySem.W.nsIn K mainGlobals "_is_named" = some (some (.ref f__is_named)))
    (l__is_named : K.lookup f__is_named = some ⟨oc__is_named, od__is_named, .func (PySem.W.fnOf "_is_named" "_is_named" (defArgs s__is_named) (defBody s__is_named) (defScope s__is_named) .none kV__is_named dc__is_named pm__is_named an__is_named cd__is_named ct__is_named), sl__is_named⟩)
    (c__is_named : PySem.W.codeIn K cd__is_named "_is_named" = true)
    (k__is_named : PySem.W.keepIn K (.ref f__is_named) = true)
    (a_is_version : PySem.W.nsIn K mainGlobals "is_version" = some (some (.ref f_is_version)))
    (l_is_version : K.lookup f_is_version = some ⟨oc_is_version, od_is_version, .func (PySem.W.fnOf "is_version" "is_version" (defArgs s_is_version) (defBody s_is_version) (defScope s_is_version) .none kV_is_version dc_is_version pm_is_version an_is_version cd_is_version ct_is_version), sl_is_version⟩)
    (c_is_version : PySem.W.codeIn K cd_is_version "is_version" = true)
    (k_is_version : PySem.W.keepIn K (.ref f_is_version) = true)
    (a__is_top : PySem.W.nsIn K mainGlobals "_is_top" = some (some (.ref f__is_top)))
    (l__is_top : K.lookup f__is_top = some ⟨oc__is_top, od__is_top, .func (PySem.W.fnOf "_is_top" "_is_top" (defArgs s__is_top) (defBody s__is_top) (defScope s__is_top) .none kV__is_top dc__is_top pm__is_top an__is_top cd__is_top ct__is_top), sl__is_top⟩)
    (c__is_top : PySem.W.codeIn K cd__is_top "_is_top" = true)
    (k__is_top : PySem.W.keepIn K (.ref f__is_top) = true)
    (a__is_seal : PySem.W.nsIn K mainGlobals "_is_seal" = some (some (.ref f__is_seal)))
    (l__is_seal : K.lookup f__is_seal = some ⟨oc__is_seal, od__is_seal, .func (PySem.W.fnOf "_is_seal" "_is_seal" (defArgs s__is_seal) (defBody s__is_seal) (defScope s__is_seal) .none kV__is_seal dc__is_seal pm__is_seal an__is_seal cd__is_seal ct__is_seal), sl__is_seal⟩)
    (c__is_seal : PySem.W.codeIn K cd__is_seal "_is_seal" = true)
    (k__is_seal : PySem.W.keepIn K (.ref f__is_seal) = true)
    (a__are_rising_kinds : PySem.W.nsIn K mainGlobals "_are_rising_kinds" = some (some (.ref f__are_rising_kinds)))
    (l__are_rising_kinds : K.lookup f__are_rising_kinds = some ⟨oc__are_rising_kinds, od__are_rising_kinds, .func (PySem.W.fnOf "_are_rising_kinds" "_are_rising_kinds" (defArgs s__are_rising_kinds) (defBody s__are_rising_kinds) (defScope s__are_rising_kinds) .none kV__are_rising_kinds dc__are_rising_kinds pm__are_rising_kinds an__are_rising_kinds cd__are_rising_kinds ct__are_rising_kinds), sl__are_rising_kinds⟩)
    (c__are_rising_kinds : PySem.W.codeIn K cd__are_rising_kinds "_are_rising_kinds" = true)
    (k__are_rising_kinds : PySem.W.keepIn K (.ref f__are_rising_kinds) = true)
    (a__is_gap : PySem.W.nsIn K mainGlobals "_is_gap" = some (some (.ref f__is_gap)))
    (l__is_gap : K.lookup f__is_gap = some ⟨oc__is_gap, od__is_gap, .func (PySem.W.fnOf "_is_gap" "_is_gap" (defArgs s__is_gap) (defBody s__is_gap) (defScope s__is_gap) .none kV__is_gap dc__is_gap pm__is_gap an__is_gap cd__is_gap ct__is_gap), sl__is_gap⟩)
    (c__is_gap : PySem.W.codeIn K cd__is_gap "_is_gap" = true)
    (k__is_gap : PySem.W.keepIn K (.ref f__is_gap) = true)
    (a_is_data : PySem.W.nsIn K mainGlobals "is_data" = some (some (.ref f_is_data)))
    (l_is_data : K.lookup f_is_data = some ⟨oc_is_data, od_is_data, .func (PySem.W.fnOf "is_data" "is_data" (defArgs s_is_data) (defBody s_is_data) (defScope s_is_data) .none kV_is_data dc_is_data pm_is_data an_is_data cd_is_data ct_is_data), sl_is_data⟩)
    (c_is_data : PySem.W.codeIn K cd_is_data "is_data" = true)
    (k_is_data : PySem.W.keepIn K (.ref f_is_data) = true)
    (a_is_record : PySem.W.nsIn K mainGlobals "is_record" = some (some (.ref f_is_record)))
    (l_is_record : K.lookup f_is_record = some ⟨oc_is_record, od_is_record, .func (PySem.W.fnOf "is_record" "is_record" (defArgs s_is_record) (defBody s_is_record) (defScope s_is_record) .none kV_is_record dc_is_record pm_is_record an_is_record cd_is_record ct_is_record), sl_is_record⟩)
    (c_is_record : PySem.W.codeIn K cd_is_record "is_record" = true)
    (k_is_record : PySem.W.keepIn K (.ref f_is_record) = true)
    (a_are_records : PySem.W.nsIn K mainGlobals "are_records" = some (some (.ref f_are_records)))
    (l_are_records : K.lookup f_are_records = some ⟨oc_are_records, od_are_records, .func (PySem.W.fnOf "are_records" "are_records" (defArgs s_are_records) (defBody s_are_records) (defScope s_are_records) .none kV_are_records dc_are_records pm_are_records an_are_records cd_are_records ct_are_records), sl_are_records⟩)
    (c_are_records : PySem.W.codeIn K cd_are_records "are_records" = true)
    (k_are_records : PySem.W.keepIn K (.ref f_are_records) = true)
    (a_data_rank : PySem.W.nsIn K mainGlobals "data_rank" = some (some (.ref f_data_rank)))
    (l_data_rank : K.lookup f_data_rank = some ⟨oc_data_rank, od_data_rank, .func (PySem.W.fnOf "data_rank" "data_rank" (defArgs s_data_rank) (defBody s_data_rank) (defScope s_data_rank) .none kV_data_rank dc_data_rank pm_data_rank an_data_rank cd_data_rank ct_data_rank), sl_data_rank⟩)
    (c_data_rank : PySem.W.codeIn K cd_data_rank "data_rank" = true)
    (k_data_rank : PySem.W.keepIn K (.ref f_data_rank) = true)
    (a_record_rank : PySem.W.nsIn K mainGlobals "record_rank" = some (some (.ref f_record_rank)))
    (l_record_rank : K.lookup f_record_rank = some ⟨oc_record_rank, od_record_rank, .func (PySem.W.fnOf "record_rank" "record_rank" (defArgs s_record_rank) (defBody s_record_rank) (defScope s_record_rank) .none kV_record_rank dc_record_rank pm_record_rank an_record_rank cd_record_rank ct_record_rank), sl_record_rank⟩)
    (c_record_rank : PySem.W.codeIn K cd_record_rank "record_rank" = true)
    (k_record_rank : PySem.W.keepIn K (.ref f_record_rank) = true)
    (a_ordered : PySem.W.nsIn K mainGlobals "ordered" = some (some (.ref f_ordered)))
    (l_ordered : K.lookup f_ordered = some ⟨oc_ordered, od_ordered, .func (PySem.W.fnOf "ordered" "ordered" (defArgs s_ordered) (defBody s_ordered) (defScope s_ordered) .none kV_ordered dc_ordered pm_ordered an_ordered cd_ordered ct_ordered), sl_ordered⟩)
    (c_ordered : PySem.W.codeIn K cd_ordered "ordered" = true)
    (k_ordered : PySem.W.keepIn K (.ref f_ordered) = true)
    (a__law_cell_at : PySem.W.nsIn K mainGlobals "_law_cell_at" = some (some (.ref f__law_cell_at)))
    (l__law_cell_at : K.lookup f__law_cell_at = some ⟨oc__law_cell_at, od__law_cell_at, .func (PySem.W.fnOf "_law_cell_at" "_law_cell_at" (defArgs s__law_cell_at) (defBody s__law_cell_at) (defScope s__law_cell_at) .none kV__law_cell_at dc__law_cell_at pm__law_cell_at an__law_cell_at cd__law_cell_at ct__law_cell_at), sl__law_cell_at⟩)
    (c__law_cell_at : PySem.W.codeIn K cd__law_cell_at "_law_cell_at" = true)
    (k__law_cell_at : PySem.W.keepIn K (.ref f__law_cell_at) = true)
    (a__law_next : PySem.W.nsIn K mainGlobals "_law_next" = some (some (.ref f__law_next)))
    (l__law_next : K.lookup f__law_next = some ⟨oc__law_next, od__law_next, .func (PySem.W.fnOf "_law_next" "_law_next" (defArgs s__law_next) (defBody s__law_next) (defScope s__law_next) .none kV__law_next dc__law_next pm__law_next an__law_next cd__law_next ct__law_next), sl__law_next⟩)
    (c__law_next : PySem.W.codeIn K cd__law_next "_law_next" = true)
    (k__law_next : PySem.W.keepIn K (.ref f__law_next) = true)
    (a__law_great : PySem.W.nsIn K mainGlobals "_law_great" = some (some (.ref f__law_great)))
    (l__law_great : K.lookup f__law_great = some ⟨oc__law_great, od__law_great, .func (PySem.W.fnOf "_law_great" "_law_great" (defArgs s__law_great) (defBody s__law_great) (defScope s__law_great) .none kV__law_great dc__law_great pm__law_great an__law_great cd__law_great ct__law_great), sl__law_great⟩)
    (c__law_great : PySem.W.codeIn K cd__law_great "_law_great" = true)
    (k__law_great : PySem.W.keepIn K (.ref f__law_great) = true)
    (a__law_signs : PySem.W.nsIn K mainGlobals "_law_signs" = some (some (.ref f__law_signs)))
    (l__law_signs : K.lookup f__law_signs = some ⟨oc__law_signs, od__law_signs, .func (PySem.W.fnOf "_law_signs" "_law_signs" (defArgs s__law_signs) (defBody s__law_signs) (defScope s__law_signs) .none kV__law_signs dc__law_signs pm__law_signs an__law_signs cd__law_signs ct__law_signs), sl__law_signs⟩)
    (c__law_signs : PySem.W.codeIn K cd__law_signs "_law_signs" = true)
    (k__law_signs : PySem.W.keepIn K (.ref f__law_signs) = true)
    (a__law_label : PySem.W.nsIn K mainGlobals "_law_label" = some (some (.ref f__law_label)))
    (l__law_label : K.lookup f__law_label = some ⟨oc__law_label, od__law_label, .func (PySem.W.fnOf "_law_label" "_law_label" (defArgs s__law_label) (defBody s__law_label) (defScope s__law_label) .none kV__law_label dc__law_label pm__law_label an__law_label cd__law_label ct__law_label), sl__law_label⟩)
    (c__law_label : PySem.W.codeIn K cd__law_label "_law_label" = true)
    (k__law_label : PySem.W.keepIn K (.ref f__law_label) = true)
    (a__law_labels : PySem.W.nsIn K mainGlobals "_law_labels" = some (some (.ref f__law_labels)))
    (l__law_labels : K.lookup f__law_labels = some ⟨oc__law_labels, od__law_labels, .func (PySem.W.fnOf "_law_labels" "_law_labels" (defArgs s__law_labels) (defBody s__law_labels) (defScope s__law_labels) .none kV__law_labels dc__law_labels pm__law_labels an__law_labels cd__law_labels ct__law_labels), sl__law_labels⟩)
    (c__law_labels : PySem.W.codeIn K cd__law_labels "_law_labels" = true)
    (k__law_labels : PySem.W.keepIn K (.ref f__law_labels) = true)
    (a__law_name : PySem.W.nsIn K mainGlobals "_law_name" = some (some (.ref f__law_name)))
    (l__law_name : K.lookup f__law_name = some ⟨oc__law_name, od__law_name, .func (PySem.W.fnOf "_law_name" "_law_name" (defArgs s__law_name) (defBody s__law_name) (defScope s__law_name) .none kV__law_name dc__law_name pm__law_name an__law_name cd__law_name ct__law_name), sl__law_name⟩)
    (c__law_name : PySem.W.codeIn K cd__law_name "_law_name" = true)
    (k__law_name : PySem.W.keepIn K (.ref f__law_name) = true)
    (a__law_plain : PySem.W.nsIn K mainGlobals "_law_plain" = some (some (.ref f__law_plain)))
    (l__law_plain : K.lookup f__law_plain = some ⟨oc__law_plain, od__law_plain, .func (PySem.W.fnOf "_law_plain" "_law_plain" (defArgs s__law_plain) (defBody s__law_plain) (defScope s__law_plain) .none kV__law_plain dc__law_plain pm__law_plain an__law_plain cd__law_plain ct__law_plain), sl__law_plain⟩)
    (c__law_plain : PySem.W.codeIn K cd__law_plain "_law_plain" = true)
    (k__law_plain : PySem.W.keepIn K (.ref f__law_plain) = true)
    (a__law_text : PySem.W.nsIn K mainGlobals "_law_text" = some (some (.ref f__law_text)))
    (l__law_text : K.lookup f__law_text = some ⟨oc__law_text, od__law_text, .func (PySem.W.fnOf "_law_text" "_law_text" (defArgs s__law_text) (defBody s__law_text) (defScope s__law_text) .none kV__law_text dc__law_text pm__law_text an__law_text cd__law_text ct__law_text), sl__law_text⟩)
    (c__law_text : PySem.W.codeIn K cd__law_text "_law_text" = true)
    (k__law_text : PySem.W.keepIn K (.ref f__law_text) = true)
    (a__law_kinds : PySem.W.nsIn K mainGlobals "_law_kinds" = some (some (.ref f__law_kinds)))
    (l__law_kinds : K.lookup f__law_kinds = some ⟨oc__law_kinds, od__law_kinds, .func (PySem.W.fnOf "_law_kinds" "_law_kinds" (defArgs s__law_kinds) (defBody s__law_kinds) (defScope s__law_kinds) .none kV__law_kinds dc__law_kinds pm__law_kinds an__law_kinds cd__law_kinds ct__law_kinds), sl__law_kinds⟩)
    (c__law_kinds : PySem.W.codeIn K cd__law_kinds "_law_kinds" = true)
    (k__law_kinds : PySem.W.keepIn K (.ref f__law_kinds) = true)
    (a__law_data : PySem.W.nsIn K mainGlobals "_law_data" = some (some (.ref f__law_data)))
    (l__law_data : K.lookup f__law_data = some ⟨oc__law_data, od__law_data, .func (PySem.W.fnOf "_law_data" "_law_data" (defArgs s__law_data) (defBody s__law_data) (defScope s__law_data) .none kV__law_data dc__law_data pm__law_data an__law_data cd__law_data ct__law_data), sl__law_data⟩)
    (c__law_data : PySem.W.codeIn K cd__law_data "_law_data" = true)
    (k__law_data : PySem.W.keepIn K (.ref f__law_data) = true)
    (a__law_record : PySem.W.nsIn K mainGlobals "_law_record" = some (some (.ref f__law_record)))
    (l__law_record : K.lookup f__law_record = some ⟨oc__law_record, od__law_record, .func (PySem.W.fnOf "_law_record" "_law_record" (defArgs s__law_record) (defBody s__law_record) (defScope s__law_record) .none kV__law_record dc__law_record pm__law_record an__law_record cd__law_record ct__law_record), sl__law_record⟩)
    (c__law_record : PySem.W.codeIn K cd__law_record "_law_record" = true)
    (k__law_record : PySem.W.keepIn K (.ref f__law_record) = true)
    (a__law_before : PySem.W.nsIn K mainGlobals "_law_before" = some (some (.ref f__law_before)))
    (l__law_before : K.lookup f__law_before = some ⟨oc__law_before, od__law_before, .func (PySem.W.fnOf "_law_before" "_law_before" (defArgs s__law_before) (defBody s__law_before) (defScope s__law_before) .none kV__law_before dc__law_before pm__law_before an__law_before cd__law_before ct__law_before), sl__law_before⟩)
    (c__law_before : PySem.W.codeIn K cd__law_before "_law_before" = true)
    (k__law_before : PySem.W.keepIn K (.ref f__law_before) = true)
    (a__law_among : PySem.W.nsIn K mainGlobals "_law_among" = some (some (.ref f__law_among)))
    (l__law_among : K.lookup f__law_among = some ⟨oc__law_among, od__law_among, .func (PySem.W.fnOf "_law_among" "_law_among" (defArgs s__law_among) (defBody s__law_among) (defScope s__law_among) .none kV__law_among dc__law_among pm__law_among an__law_among cd__law_among ct__law_among), sl__law_among⟩)
    (c__law_among : PySem.W.codeIn K cd__law_among "_law_among" = true)
    (k__law_among : PySem.W.keepIn K (.ref f__law_among) = true)
    (a__law_is_name : PySem.W.nsIn K mainGlobals "_law_is_name" = some (some (.ref f__law_is_name)))
    (l__law_is_name : K.lookup f__law_is_name = some ⟨oc__law_is_name, od__law_is_name, .func (PySem.W.fnOf "_law_is_name" "_law_is_name" (defArgs s__law_is_name) (defBody s__law_is_name) (defScope s__law_is_name) .none kV__law_is_name dc__law_is_name pm__law_is_name an__law_is_name cd__law_is_name ct__law_is_name), sl__law_is_name⟩)
    (c__law_is_name : PySem.W.codeIn K cd__law_is_name "_law_is_name" = true)
    (k__law_is_name : PySem.W.keepIn K (.ref f__law_is_name) = true)
    (a__law_is_kind : PySem.W.nsIn K mainGlobals "_law_is_kind" = some (some (.ref f__law_is_kind)))
    (l__law_is_kind : K.lookup f__law_is_kind = some ⟨oc__law_is_kind, od__law_is_kind, .func (PySem.W.fnOf "_law_is_kind" "_law_is_kind" (defArgs s__law_is_kind) (defBody s__law_is_kind) (defScope s__law_is_kind) .none kV__law_is_kind dc__law_is_kind pm__law_is_kind an__law_is_kind cd__law_is_kind ct__law_is_kind), sl__law_is_kind⟩)
    (c__law_is_kind : PySem.W.codeIn K cd__law_is_kind "_law_is_kind" = true)
    (k__law_is_kind : PySem.W.keepIn K (.ref f__law_is_kind) = true)
    (a__law_is_data : PySem.W.nsIn K mainGlobals "_law_is_data" = some (some (.ref f__law_is_data)))
    (l__law_is_data : K.lookup f__law_is_data = some ⟨oc__law_is_data, od__law_is_data, .func (PySem.W.fnOf "_law_is_data" "_law_is_data" (defArgs s__law_is_data) (defBody s__law_is_data) (defScope s__law_is_data) .none kV__law_is_data dc__law_is_data pm__law_is_data an__law_is_data cd__law_is_data ct__law_is_data), sl__law_is_data⟩)
    (c__law_is_data : PySem.W.codeIn K cd__law_is_data "_law_is_data" = true)
    (k__law_is_data : PySem.W.keepIn K (.ref f__law_is_data) = true)
    (a__law_is_record : PySem.W.nsIn K mainGlobals "_law_is_record" = some (some (.ref f__law_is_record)))
    (l__law_is_record : K.lookup f__law_is_record = some ⟨oc__law_is_record, od__law_is_record, .func (PySem.W.fnOf "_law_is_record" "_law_is_record" (defArgs s__law_is_record) (defBody s__law_is_record) (defScope s__law_is_record) .none kV__law_is_record dc__law_is_record pm__law_is_record an__law_is_record cd__law_is_record ct__law_is_record), sl__law_is_record⟩)
    (c__law_is_record : PySem.W.codeIn K cd__law_is_record "_law_is_record" = true)
    (k__law_is_record : PySem.W.keepIn K (.ref f__law_is_record) = true)
    (a__law_odd : PySem.W.nsIn K mainGlobals "_law_odd" = some (some (.ref f__law_odd)))
    (l__law_odd : K.lookup f__law_odd = some ⟨oc__law_odd, od__law_odd, .func (PySem.W.fnOf "_law_odd" "_law_odd" (defArgs s__law_odd) (defBody s__law_odd) (defScope s__law_odd) .none kV__law_odd dc__law_odd pm__law_odd an__law_odd cd__law_odd ct__law_odd), sl__law_odd⟩)
    (c__law_odd : PySem.W.codeIn K cd__law_odd "_law_odd" = true)
    (k__law_odd : PySem.W.keepIn K (.ref f__law_odd) = true)
    (a__law_spoilt : PySem.W.nsIn K mainGlobals "_law_spoilt" = some (some (.ref f__law_spoilt)))
    (l__law_spoilt : K.lookup f__law_spoilt = some ⟨oc__law_spoilt, od__law_spoilt, .func (PySem.W.fnOf "_law_spoilt" "_law_spoilt" (defArgs s__law_spoilt) (defBody s__law_spoilt) (defScope s__law_spoilt) .none kV__law_spoilt dc__law_spoilt pm__law_spoilt an__law_spoilt cd__law_spoilt ct__law_spoilt), sl__law_spoilt⟩)
    (c__law_spoilt : PySem.W.codeIn K cd__law_spoilt "_law_spoilt" = true)
    (k__law_spoilt : PySem.W.keepIn K (.ref f__law_spoilt) = true)
    (a__law_less : PySem.W.nsIn K mainGlobals "_law_less" = some (some (.ref f__law_less)))
    (l__law_less : K.lookup f__law_less = some ⟨oc__law_less, od__law_less, .func (PySem.W.fnOf "_law_less" "_law_less" (defArgs s__law_less) (defBody s__law_less) (defScope s__law_less) .none kV__law_less dc__law_less pm__law_less an__law_less cd__law_less ct__law_less), sl__law_less⟩)
    (c__law_less : PySem.W.codeIn K cd__law_less "_law_less" = true)
    (k__law_less : PySem.W.keepIn K (.ref f__law_less) = true)
    (a__law_ahead : PySem.W.nsIn K mainGlobals "_law_ahead" = some (some (.ref f__law_ahead)))
    (l__law_ahead : K.lookup f__law_ahead = some ⟨oc__law_ahead, od__law_ahead, .func (PySem.W.fnOf "_law_ahead" "_law_ahead" (defArgs s__law_ahead) (defBody s__law_ahead) (defScope s__law_ahead) .none kV__law_ahead dc__law_ahead pm__law_ahead an__law_ahead cd__law_ahead ct__law_ahead), sl__law_ahead⟩)
    (c__law_ahead : PySem.W.codeIn K cd__law_ahead "_law_ahead" = true)
    (k__law_ahead : PySem.W.keepIn K (.ref f__law_ahead) = true)
    (a__law_sorted : PySem.W.nsIn K mainGlobals "_law_sorted" = some (some (.ref f__law_sorted)))
    (l__law_sorted : K.lookup f__law_sorted = some ⟨oc__law_sorted, od__law_sorted, .func (PySem.W.fnOf "_law_sorted" "_law_sorted" (defArgs s__law_sorted) (defBody s__law_sorted) (defScope s__law_sorted) .none kV__law_sorted dc__law_sorted pm__law_sorted an__law_sorted cd__law_sorted ct__law_sorted), sl__law_sorted⟩)
    (c__law_sorted : PySem.W.codeIn K cd__law_sorted "_law_sorted" = true)
    (k__law_sorted : PySem.W.keepIn K (.ref f__law_sorted) = true)
    (a__law_some : PySem.W.nsIn K mainGlobals "_law_some" = some (some (.ref f__law_some)))
    (l__law_some : K.lookup f__law_some = some ⟨oc__law_some, od__law_some, .func (PySem.W.fnOf "_law_some" "_law_some" (defArgs s__law_some) (defBody s__law_some) (defScope s__law_some) .none kV__law_some dc__law_some pm__law_some an__law_some cd__law_some ct__law_some), sl__law_some⟩)
    (c__law_some : PySem.W.codeIn K cd__law_some "_law_some" = true)
    (k__law_some : PySem.W.keepIn K (.ref f__law_some) = true)
    (a__law_word : PySem.W.nsIn K mainGlobals "_law_word" = some (some (.ref f__law_word)))
    (l__law_word : K.lookup f__law_word = some ⟨oc__law_word, od__law_word, .func (PySem.W.fnOf "_law_word" "_law_word" (defArgs s__law_word) (defBody s__law_word) (defScope s__law_word) .none kV__law_word dc__law_word pm__law_word an__law_word cd__law_word ct__law_word), sl__law_word⟩)
    (c__law_word : PySem.W.codeIn K cd__law_word "_law_word" = true)
    (k__law_word : PySem.W.keepIn K (.ref f__law_word) = true)
    (a_law : PySem.W.nsIn K mainGlobals "law" = some (some (.ref f_law)))
    (l_law : K.lookup f_law = some ⟨oc_law, od_law, .func (PySem.W.fnOf "law" "law" (defArgs s_law) (defBody s_law) (defScope s_law) .none kV_law dc_law pm_law an_law cd_law ct_law), sl_law⟩)
    (c_law : PySem.W.codeIn K cd_law "law" = true)
    (k_law : PySem.W.keepIn K (.ref f_law) = true)
    (z_ValueError : PySem.W.nsIn K mainGlobals "ValueError" = some none)
    (z_all : PySem.W.nsIn K mainGlobals "all" = some none)
    (z_bool : PySem.W.nsIn K mainGlobals "bool" = some none)
    (z_enumerate : PySem.W.nsIn K mainGlobals "enumerate" = some none)
    (z_int : PySem.W.nsIn K mainGlobals "int" = some none)
    (z_isinstance : PySem.W.nsIn K mainGlobals "isinstance" = some none)
    (z_len : PySem.W.nsIn K mainGlobals "len" = some none)
    (z_list : PySem.W.nsIn K mainGlobals "list" = some none)
    (z_max : PySem.W.nsIn K mainGlobals "max" = some none)
    (z_range : PySem.W.nsIn K mainGlobals "range" = some none)
    (z_set : PySem.W.nsIn K mainGlobals "set" = some none)
    (z_sorted : PySem.W.nsIn K mainGlobals "sorted" = some none)
    (z_str : PySem.W.nsIn K mainGlobals "str" = some none)
    (z_tuple : PySem.W.nsIn K mainGlobals "tuple" = some none)
    (z_zip : PySem.W.nsIn K mainGlobals "zip" = some none)
    (v_HIGHEST_KEY : PySem.W.nsIn K mainGlobals "HIGHEST_KEY" = some (some (.int 1000000000000 t_HIGHEST_KEY)))
    (v_HIGHEST_SUM : PySem.W.nsIn K mainGlobals "HIGHEST_SUM" = some (some (.int 1000000006 t_HIGHEST_SUM)))
    (v_HIGHEST_VERSION : PySem.W.nsIn K mainGlobals "HIGHEST_VERSION" = some (some (.int 4294967295 t_HIGHEST_VERSION)))
    (v_KINDS : PySem.W.nsIn K mainGlobals "KINDS" = some (some (.ref A_KINDS)))
    (L_KINDS : K.lookup A_KINDS = some ⟨.type "tuple", none, .seq its_KINDS nn_KINDS, sl_KINDS⟩)
    (Z_KINDS : its_KINDS.size ≤ sizeLine)
    (R_KINDS : Vals [.str "addr", .str "text", .str "keeper", .str "other", .str "top", .str "key", .str "trust", .str "seal", .str "gap"] its_KINDS.toList)
    (v_LABEL_SIGNS : PySem.W.nsIn K mainGlobals "LABEL_SIGNS" = some (some (.str "abcdefghijklmnopqrstuvwxyz0123456789-*" t_LABEL_SIGNS)))
    (v_LONGEST_LIFE : PySem.W.nsIn K mainGlobals "LONGEST_LIFE" = some (some (.int 1000000 t_LONGEST_LIFE)))
    (v_MOST_LABELS : PySem.W.nsIn K mainGlobals "MOST_LABELS" = some (some (.int 6 t_MOST_LABELS)))
    (v_MOST_SIGNS : PySem.W.nsIn K mainGlobals "MOST_SIGNS" = some (some (.int 8 t_MOST_SIGNS)))
    (v_MOST_TEXT : PySem.W.nsIn K mainGlobals "MOST_TEXT" = some (some (.int 30 t_MOST_TEXT)))
    (v_STAR : PySem.W.nsIn K mainGlobals "STAR" = some (some (.str "*" t_STAR)))
    (v__DATA_TESTS : PySem.W.nsIn K mainGlobals "_DATA_TESTS" = some (some (.ref A__DATA_TESTS)))
    (L__DATA_TESTS : K.lookup A__DATA_TESTS = some ⟨.type "dict", none, .dict es__DATA_TESTS nn__DATA_TESTS, #[]⟩)
    (KL__DATA_TESTS : PySem.W.KeysLit w.params es__DATA_TESTS.toList)
    (e__DATA_TESTS_addr : PySem.W.nsIn K A__DATA_TESTS "addr" = some (some (.ref f_is_addr)))
    (e__DATA_TESTS_text : PySem.W.nsIn K A__DATA_TESTS "text" = some (some (.ref f__is_text)))
    (e__DATA_TESTS_keeper : PySem.W.nsIn K A__DATA_TESTS "keeper" = some (some (.ref f__is_named)))
    (e__DATA_TESTS_other : PySem.W.nsIn K A__DATA_TESTS "other" = some (some (.ref f__is_named)))
    (e__DATA_TESTS_top : PySem.W.nsIn K A__DATA_TESTS "top" = some (some (.ref f__is_top)))
    (e__DATA_TESTS_key : PySem.W.nsIn K A__DATA_TESTS "key" = some (some (.ref f_is_key)))
    (e__DATA_TESTS_trust : PySem.W.nsIn K A__DATA_TESTS "trust" = some (some (.ref f_is_key)))
    (e__DATA_TESTS_seal : PySem.W.nsIn K A__DATA_TESTS "seal" = some (some (.ref f__is_seal)))
    (e__DATA_TESTS_gap : PySem.W.nsIn K A__DATA_TESTS "gap" = some (some (.ref f__is_gap)))
    (v__HIGH_SIGNS : PySem.W.nsIn K mainGlobals "_HIGH_SIGNS" = some (some (.str "&'()*+,-./0123456789:;<=>?\x40ABCDEFGHIJKLMNOPQRSTUVWXYZ[\\]^_`abcdefghijklmnopqrstuvwxyz{|}~" t__HIGH_SIGNS)))
    (v__LOW_SIGNS : PySem.W.nsIn K mainGlobals "_LOW_SIGNS" = some (some (.str " !\"#$" t__LOW_SIGNS)))
    (x_BadRecord : PySem.W.excIn K C_BadRecord [.type "ValueError", .type "Exception", .type "BaseException", .type "object"] "ValueError.__new__" = true)
    (kc_BadRecord : PySem.W.keepIn K (.ref C_BadRecord) = true)
    (s_BadRecord_ : PySem.W.subIn K (.ref C_BadRecord) (.type "BaseException") = some true)
    (ty_BadRecord : PySem.W.typeIn K (.ref C_BadRecord) = some (.type "type"))
    (s_BadChange_ : PySem.W.subIn K (.ref C_BadChange) (.type "BaseException") = some true)
    (ty_BadChange : PySem.W.typeIn K (.ref C_BadChange) = some (.type "type"))
    (ci_BadChange : PySem.W.isClsIn K C_BadChange = true)
    (ss_BadChange : PySem.W.subIn K (.ref C_BadChange) (.ref C_BadChange) = some true)
    (s_BadLetter_ : PySem.W.subIn K (.ref C_BadLetter) (.type "BaseException") = some true)
    (ty_BadLetter : PySem.W.typeIn K (.ref C_BadLetter) = some (.type "type"))
    (ci_BadLetter : PySem.W.isClsIn K C_BadLetter = true)
    (ss_BadLetter : PySem.W.subIn K (.ref C_BadLetter) (.ref C_BadLetter) = some true)
    (s_BadLine_ : PySem.W.subIn K (.ref C_BadLine) (.type "BaseException") = some true)
    (ty_BadLine : PySem.W.typeIn K (.ref C_BadLine) = some (.type "type"))
    (ci_BadLine : PySem.W.isClsIn K C_BadLine = true)
    (ss_BadLine : PySem.W.subIn K (.ref C_BadLine) (.ref C_BadLine) = some true)
    (s_BadName_ : PySem.W.subIn K (.ref C_BadName) (.type "BaseException") = some true)
    (ty_BadName : PySem.W.typeIn K (.ref C_BadName) = some (.type "type"))
    (ci_BadName : PySem.W.isClsIn K C_BadName = true)
    (ss_BadName : PySem.W.subIn K (.ref C_BadName) (.ref C_BadName) = some true)
    (ci_BadRecord : PySem.W.isClsIn K C_BadRecord = true)
    (ss_BadRecord : PySem.W.subIn K (.ref C_BadRecord) (.ref C_BadRecord) = some true)
    (s_BadRow_ : PySem.W.subIn K (.ref C_BadRow) (.type "BaseException") = some true)
    (ty_BadRow : PySem.W.typeIn K (.ref C_BadRow) = some (.type "type"))
    (ci_BadRow : PySem.W.isClsIn K C_BadRow = true)
    (ss_BadRow : PySem.W.subIn K (.ref C_BadRow) (.ref C_BadRow) = some true)
    (s_BadTurn_ : PySem.W.subIn K (.ref C_BadTurn) (.type "BaseException") = some true)
    (ty_BadTurn : PySem.W.typeIn K (.ref C_BadTurn) = some (.type "type"))
    (ci_BadTurn : PySem.W.isClsIn K C_BadTurn = true)
    (ss_BadTurn : PySem.W.subIn K (.ref C_BadTurn) (.ref C_BadTurn) = some true)
    (s_BadZone_ : PySem.W.subIn K (.ref C_BadZone) (.type "BaseException") = some true)
    (ty_BadZone : PySem.W.typeIn K (.ref C_BadZone) = some (.type "type"))
    (ci_BadZone : PySem.W.isClsIn K C_BadZone = true)
    (ss_BadZone : PySem.W.subIn K (.ref C_BadZone) (.ref C_BadZone) = some true)
    (s_HouseError_ : PySem.W.subIn K (.ref C_HouseError) (.type "BaseException") = some true)
    (ty_HouseError : PySem.W.typeIn K (.ref C_HouseError) = some (.type "type"))
    (ci_HouseError : PySem.W.isClsIn K C_HouseError = true)
    (ss_HouseError : PySem.W.subIn K (.ref C_HouseError) (.ref C_HouseError) = some true)
    (sp_BadRecord_BadChange : PySem.W.subIn K (.ref C_BadRecord) (.ref C_BadChange) = some false)
    (sp_BadRecord_BadLetter : PySem.W.subIn K (.ref C_BadRecord) (.ref C_BadLetter) = some false)
    (sp_BadRecord_BadLine : PySem.W.subIn K (.ref C_BadRecord) (.ref C_BadLine) = some false)
    (sp_BadRecord_BadName : PySem.W.subIn K (.ref C_BadRecord) (.ref C_BadName) = some false)
    (sp_BadRecord_BadRow : PySem.W.subIn K (.ref C_BadRecord) (.ref C_BadRow) = some false)
    (sp_BadRecord_BadTurn : PySem.W.subIn K (.ref C_BadRecord) (.ref C_BadTurn) = some false)
    (sp_BadRecord_BadZone : PySem.W.subIn K (.ref C_BadRecord) (.ref C_BadZone) = some false)
    (sp_BadRecord_HouseError : PySem.W.subIn K (.ref C_BadRecord) (.ref C_HouseError) = some true)
    (sv_BadRecord : PySem.W.subIn K (.ref C_BadRecord) (.type "ValueError") = some true)
    (e1_BadRecord : PySem.W.findIn K (.ref C_BadRecord) "__getattribute__" = some (some (.builtin "BaseException.__getattribute__")))
    (e2_BadRecord : PySem.W.findIn K (.ref C_BadRecord) "__getattr__" = some none)
    (e3_BadRecord : PySem.W.hasDictIn K C_BadRecord = true)
    (e4_BadRecord : PySem.W.findIn K (.ref C_BadRecord) "__class__" = some (some (.builtin "object.__class__")))
    (e6_BadRecord : PySem.W.mroIn K C_BadRecord (.type "object") = some true)
    (e5a : PySem.W.specialIn K (.builtin "object.__class__") "__get__" = some (some (.builtin "getset_descriptor.__get__")))
    (e5b : PySem.W.takesIn K (.builtin "object.__class__") = some true) :
    ∃ fd : FuncData, (∀ (s : Shared) (v : Value), BindsTo s fd ⟨[v], []⟩ [("_law_script", v)]) ∧ ∀ base : Heap, K.In base → base.Ns mainGlobals mg → FnOk l.prog w K mg base (L2.CX l.prog w) 10 fa fd ["_law_script"] (spLaw K) := by
  have e := hfa.symm.trans (PySem.W.mg_of X G a_law)
  cases e
  have F_is_whole := fun_mk (st := s_is_whole) l_is_whole c_is_whole k_is_whole
  have b_is_whole := F_is_whole.binds (ps := ["thing"]) fun _ _ _ _ _ _ us hl => match us, hl with | [_], _ => rfl
  have F_within := fun_mk (st := s_within) l_within c_within k_within
  have b_within := F_within.binds (ps := ["thing", "low", "high"]) fun _ _ _ _ _ _ us hl => match us, hl with | [_, _, _], _ => rfl
  have F_is_label := fun_mk (st := s_is_label) l_is_label c_is_label k_is_label
  have b_is_label := F_is_label.binds (ps := ["thing"]) fun _ _ _ _ _ _ us hl => match us, hl with | [_], _ => rfl
  have F_is_name := fun_mk (st := s_is_name) l_is_name c_is_name k_is_name
  have b_is_name := F_is_name.binds (ps := ["thing"]) fun _ _ _ _ _ _ us hl => match us, hl with | [_], _ => rfl
  have F_is_starless := fun_mk (st := s_is_starless) l_is_starless c_is_starless k_is_starless
  have b_is_starless := F_is_starless.binds (ps := ["thing"]) fun _ _ _ _ _ _ us hl => match us, hl with | [_], _ => rfl
  have F_name_rank := fun_mk (st := s_name_rank) l_name_rank c_name_rank k_name_rank
  have b_name_rank := F_name_rank.binds (ps := ["name"]) fun _ _ _ _ _ _ us hl => match us, hl with | [_], _ => rfl
  have F_is_sign := fun_mk (st := s_is_sign) l_is_sign c_is_sign k_is_sign
  have b_is_sign := F_is_sign.binds (ps := ["sign"]) fun _ _ _ _ _ _ us hl => match us, hl with | [_], _ => rfl
  have F_is_kind := fun_mk (st := s_is_kind) l_is_kind c_is_kind k_is_kind
  have b_is_kind := F_is_kind.binds (ps := ["thing"]) fun _ _ _ _ _ _ us hl => match us, hl with | [_], _ => rfl
  have F_is_life := fun_mk (st := s_is_life) l_is_life c_is_life k_is_life
  have b_is_life := F_is_life.binds (ps := ["thing"]) fun _ _ _ _ _ _ us hl => match us, hl with | [_], _ => rfl
  have F_is_key := fun_mk (st := s_is_key) l_is_key c_is_key k_is_key
  have b_is_key := F_is_key.binds (ps := ["thing"]) fun _ _ _ _ _ _ us hl => match us, hl with | [_], _ => rfl
  have F_is_addr := fun_mk (st := s_is_addr) l_is_addr c_is_addr k_is_addr
  have b_is_addr := F_is_addr.binds (ps := ["thing"]) fun _ _ _ _ _ _ us hl => match us, hl with | [_], _ => rfl
  have F__is_text := fun_mk (st := s__is_text) l__is_text c__is_text k__is_text
  have b__is_text := F__is_text.binds (ps := ["thing"]) fun _ _ _ _ _ _ us hl => match us, hl with | [_], _ => rfl
  have F__is_named := fun_mk (st := s__is_named) l__is_named c__is_named k__is_named
  have b__is_named := F__is_named.binds (ps := ["thing"]) fun _ _ _ _ _ _ us hl => match us, hl with | [_], _ => rfl
  have F_is_version := fun_mk (st := s_is_version) l_is_version c_is_version k_is_version
  have b_is_version := F_is_version.binds (ps := ["thing"]) fun _ _ _ _ _ _ us hl => match us, hl with | [_], _ => rfl
  have F__is_top := fun_mk (st := s__is_top) l__is_top c__is_top k__is_top
  have b__is_top := F__is_top.binds (ps := ["thing"]) fun _ _ _ _ _ _ us hl => match us, hl with | [_], _ => rfl
  have F__is_seal := fun_mk (st := s__is_seal) l__is_seal c__is_seal k__is_seal
  have b__is_seal := F__is_seal.binds (ps := ["thing"]) fun _ _ _ _ _ _ us hl => match us, hl with | [_], _ => rfl
  have F__are_rising_kinds := fun_mk (st := s__are_rising_kinds) l__are_rising_kinds c__are_rising_kinds k__are_rising_kinds
  have b__are_rising_kinds := F__are_rising_kinds.binds (ps := ["thing"]) fun _ _ _ _ _ _ us hl => match us, hl with | [_], _ => rfl
  have F__is_gap := fun_mk (st := s__is_gap) l__is_gap c__is_gap k__is_gap
  have b__is_gap := F__is_gap.binds (ps := ["thing"]) fun _ _ _ _ _ _ us hl => match us, hl with | [_], _ => rfl
  have F_is_data := fun_mk (st := s_is_data) l_is_data c_is_data k_is_data
  have b_is_data := F_is_data.binds (ps := ["kind", "thing"]) fun _ _ _ _ _ _ us hl => match us, hl with | [_, _], _ => rfl
  have F_is_record := fun_mk (st := s_is_record) l_is_record c_is_record k_is_record
  have b_is_record := F_is_record.binds (ps := ["thing"]) fun _ _ _ _ _ _ us hl => match us, hl with | [_], _ => rfl
  have F_are_records := fun_mk (st := s_are_records) l_are_records c_are_records k_are_records
  have b_are_records := F_are_records.binds (ps := ["thing"]) fun _ _ _ _ _ _ us hl => match us, hl with | [_], _ => rfl
  have F_data_rank := fun_mk (st := s_data_rank) l_data_rank c_data_rank k_data_rank
  have b_data_rank := F_data_rank.binds (ps := ["kind", "data"]) fun _ _ _ _ _ _ us hl => match us, hl with | [_, _], _ => rfl
  have F_record_rank := fun_mk (st := s_record_rank) l_record_rank c_record_rank k_record_rank
  have b_record_rank := F_record_rank.binds (ps := ["record"]) fun _ _ _ _ _ _ us hl => match us, hl with | [_], _ => rfl
  have F_ordered := fun_mk (st := s_ordered) l_ordered c_ordered k_ordered
  have b_ordered := F_ordered.binds (ps := ["records"]) fun _ _ _ _ _ _ us hl => match us, hl with | [_], _ => rfl
  have F__law_cell_at := fun_mk (st := s__law_cell_at) l__law_cell_at c__law_cell_at k__law_cell_at
  have b__law_cell_at := F__law_cell_at.binds (ps := ["_law_script", "_law_k"]) fun _ _ _ _ _ _ us hl => match us, hl with | [_, _], _ => rfl
  have F__law_next := fun_mk (st := s__law_next) l__law_next c__law_next k__law_next
  have b__law_next := F__law_next.binds (ps := ["_law_state"]) fun _ _ _ _ _ _ us hl => match us, hl with | [_], _ => rfl
  have F__law_great := fun_mk (st := s__law_great) l__law_great c__law_great k__law_great
  have b__law_great := F__law_great.binds (ps := ["_law_state", "_law_most"]) fun _ _ _ _ _ _ us hl => match us, hl with | [_, _], _ => rfl
  have F__law_signs := fun_mk (st := s__law_signs) l__law_signs c__law_signs k__law_signs
  have b__law_signs := F__law_signs.binds (ps := []) fun _ _ _ _ _ _ us hl => match us, hl with | [], _ => rfl
  have F__law_label := fun_mk (st := s__law_label) l__law_label c__law_label k__law_label
  have b__law_label := F__law_label.binds (ps := ["_law_number", "_law_size"]) fun _ _ _ _ _ _ us hl => match us, hl with | [_, _], _ => rfl
  have F__law_labels := fun_mk (st := s__law_labels) l__law_labels c__law_labels k__law_labels
  have b__law_labels := F__law_labels.binds (ps := ["_law_state"]) fun _ _ _ _ _ _ us hl => match us, hl with | [_], _ => rfl
  have F__law_name := fun_mk (st := s__law_name) l__law_name c__law_name k__law_name
  have b__law_name := F__law_name.binds (ps := ["_law_state", "_law_labels_here"]) fun _ _ _ _ _ _ us hl => match us, hl with | [_, _], _ => rfl
  have F__law_plain := fun_mk (st := s__law_plain) l__law_plain c__law_plain k__law_plain
  have b__law_plain := F__law_plain.binds (ps := ["_law_state", "_law_labels_here"]) fun _ _ _ _ _ _ us hl => match us, hl with | [_, _], _ => rfl
  have F__law_text := fun_mk (st := s__law_text) l__law_text c__law_text k__law_text
  have b__law_text := F__law_text.binds (ps := ["_law_number", "_law_size"]) fun _ _ _ _ _ _ us hl => match us, hl with | [_, _], _ => rfl
  have F__law_kinds := fun_mk (st := s__law_kinds) l__law_kinds c__law_kinds k__law_kinds
  have b__law_kinds := F__law_kinds.binds (ps := []) fun _ _ _ _ _ _ us hl => match us, hl with | [], _ => rfl
  have F__law_data := fun_mk (st := s__law_data) l__law_data c__law_data k__law_data
  have b__law_data := F__law_data.binds (ps := ["_law_state", "_law_kind", "_law_labels_here"]) fun _ _ _ _ _ _ us hl => match us, hl with | [_, _, _], _ => rfl
  have F__law_record := fun_mk (st := s__law_record) l__law_record c__law_record k__law_record
  have b__law_record := F__law_record.binds (ps := ["_law_state", "_law_labels_here"]) fun _ _ _ _ _ _ us hl => match us, hl with | [_, _], _ => rfl
  have F__law_before := fun_mk (st := s__law_before) l__law_before c__law_before k__law_before
  have b__law_before := F__law_before.binds (ps := ["_law_one", "_law_other"]) fun _ _ _ _ _ _ us hl => match us, hl with | [_, _], _ => rfl
  have F__law_among := fun_mk (st := s__law_among) l__law_among c__law_among k__law_among
  have b__law_among := F__law_among.binds (ps := ["_law_thing", "_law_least", "_law_most"]) fun _ _ _ _ _ _ us hl => match us, hl with | [_, _, _], _ => rfl
  have F__law_is_name := fun_mk (st := s__law_is_name) l__law_is_name c__law_is_name k__law_is_name
  have b__law_is_name := F__law_is_name.binds (ps := ["_law_thing", "_law_with_star"]) fun _ _ _ _ _ _ us hl => match us, hl with | [_, _], _ => rfl
  have F__law_is_kind := fun_mk (st := s__law_is_kind) l__law_is_kind c__law_is_kind k__law_is_kind
  have b__law_is_kind := F__law_is_kind.binds (ps := ["_law_thing"]) fun _ _ _ _ _ _ us hl => match us, hl with | [_], _ => rfl
  have F__law_is_data := fun_mk (st := s__law_is_data) l__law_is_data c__law_is_data k__law_is_data
  have b__law_is_data := F__law_is_data.binds (ps := ["_law_kind", "_law_thing"]) fun _ _ _ _ _ _ us hl => match us, hl with | [_, _], _ => rfl
  have F__law_is_record := fun_mk (st := s__law_is_record) l__law_is_record c__law_is_record k__law_is_record
  have b__law_is_record := F__law_is_record.binds (ps := ["_law_thing"]) fun _ _ _ _ _ _ us hl => match us, hl with | [_], _ => rfl
  have F__law_odd := fun_mk (st := s__law_odd) l__law_odd c__law_odd k__law_odd
  have b__law_odd := F__law_odd.binds (ps := ["_law_number", "_law_thing"]) fun _ _ _ _ _ _ us hl => match us, hl with | [_, _], _ => rfl
  have F__law_spoilt := fun_mk (st := s__law_spoilt) l__law_spoilt c__law_spoilt k__law_spoilt
  have b__law_spoilt := F__law_spoilt.binds (ps := ["_law_state", "_law_thing"]) fun _ _ _ _ _ _ us hl => match us, hl with | [_, _], _ => rfl
  have F__law_less := fun_mk (st := s__law_less) l__law_less c__law_less k__law_less
  have b__law_less := F__law_less.binds (ps := ["_law_kind", "_law_one", "_law_other"]) fun _ _ _ _ _ _ us hl => match us, hl with | [_, _, _], _ => rfl
  have F__law_ahead := fun_mk (st := s__law_ahead) l__law_ahead c__law_ahead k__law_ahead
  have b__law_ahead := F__law_ahead.binds (ps := ["_law_one", "_law_other"]) fun _ _ _ _ _ _ us hl => match us, hl with | [_, _], _ => rfl
  have F__law_sorted := fun_mk (st := s__law_sorted) l__law_sorted c__law_sorted k__law_sorted
  have b__law_sorted := F__law_sorted.binds (ps := ["_law_records"]) fun _ _ _ _ _ _ us hl => match us, hl with | [_], _ => rfl
  have F__law_some := fun_mk (st := s__law_some) l__law_some c__law_some k__law_some
  have b__law_some := F__law_some.binds (ps := ["_law_state", "_law_labels_here"]) fun _ _ _ _ _ _ us hl => match us, hl with | [_, _], _ => rfl
  have F__law_word := fun_mk (st := s__law_word) l__law_word c__law_word k__law_word
  have b__law_word := F__law_word.binds (ps := ["_law_things"]) fun _ _ _ _ _ _ us hl => match us, hl with | [_], _ => rfl
  have F_law := fun_mk (st := s_law) l_law c_law k_law
  have b_law := F_law.binds (ps := ["_law_script"]) fun _ _ _ _ _ _ us hl => match us, hl with | [_], _ => rfl
  let T : Txt w K mg := {
    n_ValueError := PySem.W.mg_none_of X G z_ValueError,
    n_all := PySem.W.mg_none_of X G z_all,
    n_bool := PySem.W.mg_none_of X G z_bool,
    n_enumerate := PySem.W.mg_none_of X G z_enumerate,
    n_int := PySem.W.mg_none_of X G z_int,
    n_isinstance := PySem.W.mg_none_of X G z_isinstance,
    n_len := PySem.W.mg_none_of X G z_len,
    n_list := PySem.W.mg_none_of X G z_list,
    n_max := PySem.W.mg_none_of X G z_max,
    n_range := PySem.W.mg_none_of X G z_range,
    n_set := PySem.W.mg_none_of X G z_set,
    n_sorted := PySem.W.mg_none_of X G z_sorted,
    n_str := PySem.W.mg_none_of X G z_str,
    n_tuple := PySem.W.mg_none_of X G z_tuple,
    n_zip := PySem.W.mg_none_of X G z_zip,
    t_HIGHEST_KEY := t_HIGHEST_KEY,
    c_HIGHEST_KEY := PySem.W.mg_of X G v_HIGHEST_KEY,
    t_HIGHEST_SUM := t_HIGHEST_SUM,
    c_HIGHEST_SUM := PySem.W.mg_of X G v_HIGHEST_SUM,
    t_HIGHEST_VERSION := t_HIGHEST_VERSION,
    c_HIGHEST_VERSION := PySem.W.mg_of X G v_HIGHEST_VERSION,
    A_KINDS := A_KINDS,
    c_KINDS := PySem.W.mg_of X G v_KINDS,
    d_KINDS := conT_mk L_KINDS Z_KINDS R_KINDS,
    t_LABEL_SIGNS := t_LABEL_SIGNS,
    c_LABEL_SIGNS := PySem.W.mg_of X G v_LABEL_SIGNS,
    t_LONGEST_LIFE := t_LONGEST_LIFE,
    c_LONGEST_LIFE := PySem.W.mg_of X G v_LONGEST_LIFE,
    t_MOST_LABELS := t_MOST_LABELS,
    c_MOST_LABELS := PySem.W.mg_of X G v_MOST_LABELS,
    t_MOST_SIGNS := t_MOST_SIGNS,
    c_MOST_SIGNS := PySem.W.mg_of X G v_MOST_SIGNS,
    t_MOST_TEXT := t_MOST_TEXT,
    c_MOST_TEXT := PySem.W.mg_of X G v_MOST_TEXT,
    t_STAR := t_STAR,
    c_STAR := PySem.W.mg_of X G v_STAR,
    A__DATA_TESTS := A__DATA_TESTS,
    c__DATA_TESTS := PySem.W.mg_of X G v__DATA_TESTS,
    d__DATA_TESTS_addr := kdct_mk L__DATA_TESTS KL__DATA_TESTS e__DATA_TESTS_addr rfl,
    d__DATA_TESTS_text := kdct_mk L__DATA_TESTS KL__DATA_TESTS e__DATA_TESTS_text rfl,
    d__DATA_TESTS_keeper := kdct_mk L__DATA_TESTS KL__DATA_TESTS e__DATA_TESTS_keeper rfl,
    d__DATA_TESTS_other := kdct_mk L__DATA_TESTS KL__DATA_TESTS e__DATA_TESTS_other rfl,
    d__DATA_TESTS_top := kdct_mk L__DATA_TESTS KL__DATA_TESTS e__DATA_TESTS_top rfl,
    d__DATA_TESTS_key := kdct_mk L__DATA_TESTS KL__DATA_TESTS e__DATA_TESTS_key rfl,
    d__DATA_TESTS_trust := kdct_mk L__DATA_TESTS KL__DATA_TESTS e__DATA_TESTS_trust rfl,
    d__DATA_TESTS_seal := kdct_mk L__DATA_TESTS KL__DATA_TESTS e__DATA_TESTS_seal rfl,
    d__DATA_TESTS_gap := kdct_mk L__DATA_TESTS KL__DATA_TESTS e__DATA_TESTS_gap rfl,
    t__HIGH_SIGNS := t__HIGH_SIGNS,
    c__HIGH_SIGNS := PySem.W.mg_of X G v__HIGH_SIGNS,
    t__LOW_SIGNS := t__LOW_SIGNS,
    c__LOW_SIGNS := PySem.W.mg_of X G v__LOW_SIGNS,
    C_HouseError := C_HouseError,
    C_BadName := C_BadName,
    C_BadRecord := C_BadRecord,
    C_BadLetter := C_BadLetter,
    C_BadZone := C_BadZone,
    C_BadRow := C_BadRow,
    C_BadChange := C_BadChange,
    C_BadTurn := C_BadTurn,
    C_BadLine := C_BadLine,
    g_HouseError := PySem.W.mg_of X G g_HouseError,
    g_BadName := PySem.W.mg_of X G g_BadName,
    g_BadRecord := PySem.W.mg_of X G g_BadRecord,
    g_BadLetter := PySem.W.mg_of X G g_BadLetter,
    g_BadZone := PySem.W.mg_of X G g_BadZone,
    g_BadRow := PySem.W.mg_of X G g_BadRow,
    g_BadChange := PySem.W.mg_of X G g_BadChange,
    g_BadTurn := PySem.W.mg_of X G g_BadTurn,
    g_BadLine := PySem.W.mg_of X G g_BadLine,
    x_BadRecord := x_BadRecord,
    k_BadRecord := kc_BadRecord,
    s_BadRecord := s_BadRecord_,
    t_BadRecord := ty_BadRecord,
    f_is_whole := f_is_whole,
    fd_is_whole := _,
    F_is_whole := F_is_whole,
    b_is_whole := b_is_whole,
    g_is_whole := PySem.W.mg_of X G a_is_whole,
    f_within := f_within,
    fd_within := _,
    F_within := F_within,
    b_within := b_within,
    g_within := PySem.W.mg_of X G a_within,
    f_is_label := f_is_label,
    fd_is_label := _,
    F_is_label := F_is_label,
    b_is_label := b_is_label,
    g_is_label := PySem.W.mg_of X G a_is_label,
    f_is_name := f_is_name,
    fd_is_name := _,
    F_is_name := F_is_name,
    b_is_name := b_is_name,
    g_is_name := PySem.W.mg_of X G a_is_name,
    f_is_starless := f_is_starless,
    fd_is_starless := _,
    F_is_starless := F_is_starless,
    b_is_starless := b_is_starless,
    g_is_starless := PySem.W.mg_of X G a_is_starless,
    f_name_rank := f_name_rank,
    fd_name_rank := _,
    F_name_rank := F_name_rank,
    b_name_rank := b_name_rank,
    g_name_rank := PySem.W.mg_of X G a_name_rank,
    f_is_sign := f_is_sign,
    fd_is_sign := _,
    F_is_sign := F_is_sign,
    b_is_sign := b_is_sign,
    g_is_sign := PySem.W.mg_of X G a_is_sign,
    f_is_kind := f_is_kind,
    fd_is_kind := _,
    F_is_kind := F_is_kind,
    b_is_kind := b_is_kind,
    g_is_kind := PySem.W.mg_of X G a_is_kind,
    f_is_life := f_is_life,
    fd_is_life := _,
    F_is_life := F_is_life,
    b_is_life := b_is_life,
    g_is_life := PySem.W.mg_of X G a_is_life,
    f_is_key := f_is_key,
    fd_is_key := _,
    F_is_key := F_is_key,
    b_is_key := b_is_key,
    g_is_key := PySem.W.mg_of X G a_is_key,
    f_is_addr := f_is_addr,
    fd_is_addr := _,
    F_is_addr := F_is_addr,
    b_is_addr := b_is_addr,
    g_is_addr := PySem.W.mg_of X G a_is_addr,
    f__is_text := f__is_text,
    fd__is_text := _,
    F__is_text := F__is_text,
    b__is_text := b__is_text,
    g__is_text := PySem.W.mg_of X G a__is_text,
    f__is_named := f__is_named,
    fd__is_named := _,
    F__is_named := F__is_named,
    b__is_named := b__is_named,
    g__is_named := PySem.W.mg_of X G a__is_named,
    f_is_version := f_is_version,
    fd_is_version := _,
    F_is_version := F_is_version,
    b_is_version := b_is_version,
    g_is_version := PySem.W.mg_of X G a_is_version,
    f__is_top := f__is_top,
    fd__is_top := _,
    F__is_top := F__is_top,
    b__is_top := b__is_top,
    g__is_top := PySem.W.mg_of X G a__is_top,
    f__is_seal := f__is_seal,
    fd__is_seal := _,
    F__is_seal := F__is_seal,
    b__is_seal := b__is_seal,
    g__is_seal := PySem.W.mg_of X G a__is_seal,
    f__are_rising_kinds := f__are_rising_kinds,
    fd__are_rising_kinds := _,
    F__are_rising_kinds := F__are_rising_kinds,
    b__are_rising_kinds := b__are_rising_kinds,
    g__are_rising_kinds := PySem.W.mg_of X G a__are_rising_kinds,
    f__is_gap := f__is_gap,
    fd__is_gap := _,
    F__is_gap := F__is_gap,
    b__is_gap := b__is_gap,
    g__is_gap := PySem.W.mg_of X G a__is_gap,
    f_is_data := f_is_data,
    fd_is_data := _,
    F_is_data := F_is_data,
    b_is_data := b_is_data,
    g_is_data := PySem.W.mg_of X G a_is_data,
    f_is_record := f_is_record,
    fd_is_record := _,
    F_is_record := F_is_record,
    b_is_record := b_is_record,
    g_is_record := PySem.W.mg_of X G a_is_record,
    f_are_records := f_are_records,
    fd_are_records := _,
    F_are_records := F_are_records,
    b_are_records := b_are_records,
    g_are_records := PySem.W.mg_of X G a_are_records,
    f_data_rank := f_data_rank,
    fd_data_rank := _,
    F_data_rank := F_data_rank,
    b_data_rank := b_data_rank,
    g_data_rank := PySem.W.mg_of X G a_data_rank,
    f_record_rank := f_record_rank,
    fd_record_rank := _,
    F_record_rank := F_record_rank,
    b_record_rank := b_record_rank,
    g_record_rank := PySem.W.mg_of X G a_record_rank,
    f_ordered := f_ordered,
    fd_ordered := _,
    F_ordered := F_ordered,
    b_ordered := b_ordered,
    g_ordered := PySem.W.mg_of X G a_ordered,
    f__law_cell_at := f__law_cell_at,
    fd__law_cell_at := _,
    F__law_cell_at := F__law_cell_at,
    b__law_cell_at := b__law_cell_at,
    g__law_cell_at := PySem.W.mg_of X G a__law_cell_at,
    f__law_next := f__law_next,
    fd__law_next := _,
    F__law_next := F__law_next,
    b__law_next := b__law_next,
    g__law_next := PySem.W.mg_of X G a__law_next,
    f__law_great := f__law_great,
    fd__law_great := _,
    F__law_great := F__law_great,
    b__law_great := b__law_great,
    g__law_great := PySem.W.mg_of X G a__law_great,
    f__law_signs := f__law_signs,
    fd__law_signs := _,
    F__law_signs := F__law_signs,
    b__law_signs := b__law_signs,
    g__law_signs := PySem.W.mg_of X G a__law_signs,
    f__law_label := f__law_label,
    fd__law_label := _,
    F__law_label := F__law_label,
    b__law_label := b__law_label,
    g__law_label := PySem.W.mg_of X G a__law_label,
    f__law_labels := f__law_labels,
    fd__law_labels := _,
    F__law_labels := F__law_labels,
    b__law_labels := b__law_labels,
    g__law_labels := PySem.W.mg_of X G a__law_labels,
    f__law_name := f__law_name,
    fd__law_name := _,
    F__law_name := F__law_name,
    b__law_name := b__law_name,
    g__law_name := PySem.W.mg_of X G a__law_name,
    f__law_plain := f__law_plain,
    fd__law_plain := _,
    F__law_plain := F__law_plain,
    b__law_plain := b__law_plain,
    g__law_plain := PySem.W.mg_of X G a__law_plain,
    f__law_text := f__law_text,
    fd__law_text := _,
    F__law_text := F__law_text,
    b__law_text := b__law_text,
    g__law_text := PySem.W.mg_of X G a__law_text,
    f__law_kinds := f__law_kinds,
    fd__law_kinds := _,
    F__law_kinds := F__law_kinds,
    b__law_kinds := b__law_kinds,
    g__law_kinds := PySem.W.mg_of X G a__law_kinds,
    f__law_data := f__law_data,
    fd__law_data := _,
    F__law_data := F__law_data,
    b__law_data := b__law_data,
    g__law_data := PySem.W.mg_of X G a__law_data,
    f__law_record := f__law_record,
    fd__law_record := _,
    F__law_record := F__law_record,
    b__law_record := b__law_record,
    g__law_record := PySem.W.mg_of X G a__law_record,
    f__law_before := f__law_before,
    fd__law_before := _,
    F__law_before := F__law_before,
    b__law_before := b__law_before,
    g__law_before := PySem.W.mg_of X G a__law_before,
    f__law_among := f__law_among,
    fd__law_among := _,
    F__law_among := F__law_among,
    b__law_among := b__law_among,
    g__law_among := PySem.W.mg_of X G a__law_among,
    f__law_is_name := f__law_is_name,
    fd__law_is_name := _,
    F__law_is_name := F__law_is_name,
    b__law_is_name := b__law_is_name,
    g__law_is_name := PySem.W.mg_of X G a__law_is_name,
    f__law_is_kind := f__law_is_kind,
    fd__law_is_kind := _,
    F__law_is_kind := F__law_is_kind,
    b__law_is_kind := b__law_is_kind,
    g__law_is_kind := PySem.W.mg_of X G a__law_is_kind,
    f__law_is_data := f__law_is_data,
    fd__law_is_data := _,
    F__law_is_data := F__law_is_data,
    b__law_is_data := b__law_is_data,
    g__law_is_data := PySem.W.mg_of X G a__law_is_data,
    f__law_is_record := f__law_is_record,
    fd__law_is_record := _,
    F__law_is_record := F__law_is_record,
    b__law_is_record := b__law_is_record,
    g__law_is_record := PySem.W.mg_of X G a__law_is_record,
    f__law_odd := f__law_odd,
    fd__law_odd := _,
    F__law_odd := F__law_odd,
    b__law_odd := b__law_odd,
    g__law_odd := PySem.W.mg_of X G a__law_odd,
    f__law_spoilt := f__law_spoilt,
    fd__law_spoilt := _,
    F__law_spoilt := F__law_spoilt,
    b__law_spoilt := b__law_spoilt,
    g__law_spoilt := PySem.W.mg_of X G a__law_spoilt,
    f__law_less := f__law_less,
    fd__law_less := _,
    F__law_less := F__law_less,
    b__law_less := b__law_less,
    g__law_less := PySem.W.mg_of X G a__law_less,
    f__law_ahead := f__law_ahead,
    fd__law_ahead := _,
    F__law_ahead := F__law_ahead,
    b__law_ahead := b__law_ahead,
    g__law_ahead := PySem.W.mg_of X G a__law_ahead,
    f__law_sorted := f__law_sorted,
    fd__law_sorted := _,
    F__law_sorted := F__law_sorted,
    b__law_sorted := b__law_sorted,
    g__law_sorted := PySem.W.mg_of X G a__law_sorted,
    f__law_some := f__law_some,
    fd__law_some := _,
    F__law_some := F__law_some,
    b__law_some := b__law_some,
    g__law_some := PySem.W.mg_of X G a__law_some,
    f__law_word := f__law_word,
    fd__law_word := _,
    F__law_word := F__law_word,
    b__law_word := b__law_word,
    g__law_word := PySem.W.mg_of X G a__law_word,
    f_law := fa,
    fd_law := _,
    F_law := F_law,
    b_law := b_law,
    g_law := PySem.W.mg_of X G a_law,
    ki_BadRecord_BadChange := kit_one ci_BadChange ty_BadChange ss_BadChange sp_BadRecord_BadChange,
    ke_BadRecord_BadChange := exm_one_ s_BadChange_ ci_BadChange ty_BadChange sp_BadRecord_BadChange,
    ki_BadRecord_BadLetter := kit_one ci_BadLetter ty_BadLetter ss_BadLetter sp_BadRecord_BadLetter,
    ke_BadRecord_BadLetter := exm_one_ s_BadLetter_ ci_BadLetter ty_BadLetter sp_BadRecord_BadLetter,
    ki_BadRecord_BadLine := kit_one ci_BadLine ty_BadLine ss_BadLine sp_BadRecord_BadLine,
    ke_BadRecord_BadLine := exm_one_ s_BadLine_ ci_BadLine ty_BadLine sp_BadRecord_BadLine,
    ki_BadRecord_BadName := kit_one ci_BadName ty_BadName ss_BadName sp_BadRecord_BadName,
    ke_BadRecord_BadName := exm_one_ s_BadName_ ci_BadName ty_BadName sp_BadRecord_BadName,
    ki_BadRecord_BadRecord := kit_one ci_BadRecord ty_BadRecord ss_BadRecord ss_BadRecord,
    ke_BadRecord_BadRecord := exm_one_ s_BadRecord_ ci_BadRecord ty_BadRecord ss_BadRecord,
    ki_BadRecord_BadRow := kit_one ci_BadRow ty_BadRow ss_BadRow sp_BadRecord_BadRow,
    ke_BadRecord_BadRow := exm_one_ s_BadRow_ ci_BadRow ty_BadRow sp_BadRecord_BadRow,
    ki_BadRecord_BadTurn := kit_one ci_BadTurn ty_BadTurn ss_BadTurn sp_BadRecord_BadTurn,
    ke_BadRecord_BadTurn := exm_one_ s_BadTurn_ ci_BadTurn ty_BadTurn sp_BadRecord_BadTurn,
    ki_BadRecord_BadZone := kit_one ci_BadZone ty_BadZone ss_BadZone sp_BadRecord_BadZone,
    ke_BadRecord_BadZone := exm_one_ s_BadZone_ ci_BadZone ty_BadZone sp_BadRecord_BadZone,
    ki_BadRecord_HouseError := kit_one ci_HouseError ty_HouseError ss_HouseError sp_BadRecord_HouseError,
    ke_BadRecord_HouseError := exm_one_ s_HouseError_ ci_HouseError ty_HouseError sp_BadRecord_HouseError,
    kv_BadRecord := kit_val sv_BadRecord (by decide +kernel),
    ec_BadRecord := ⟨e1_BadRecord, e2_BadRecord, s_BadRecord_, e3_BadRecord, e4_BadRecord, e5a, e5b, e6_BadRecord⟩ }
  exact ⟨_, fun s v => .of_eq rfl, fun base _ _ => fn_mono (ok_law T) (fun vs H Q E z => sp_law T.cfg Nh.f_law law_true z) fun _ _ _ _ _ _ => trivial⟩
end Nh
open PySem PySem.W PyProof.Rows
set_option maxHeartbeats 0 in
theorem PySem.Challenge.cw_namehouse_k03_records_and_their_order_holds : PySem.Challenge.rw_namehouse_k03_records_and_their_order.Holds := by
  w_on; o_law; k_head; (case hw => w_witness2)
  k_fill
  refine L2.walk_of (l := PySem.Challenge.rw_namehouse_k03_records_and_their_order) (n := 63) (k := 10) (x := "_law_script") (CX := fun w => L2.CX PySem.Challenge.rw_namehouse_k03_records_and_their_order.prog w) (sp := fun w => Nh.spLaw _) rfl (by decide) rfl ⟨rfl, by decide, by decide⟩ (fun w h Y => PySem.W.kIn_of Y) ?F (fun _ _ a ns hl hO hS => ⟨a, ns, rfl, hl, hO, hS, fun _ => rfl⟩) (fun _ _ _ _ _ h => by obtain ⟨_, _, _, _, _, _, _, _, _, _, _, _, z⟩ := h; exact z)
  case F =>
    intro w mg fa h KX G hmg
    refine' Nh.all_mk KX G hmg ?g_HouseError ?g_BadName ?g_BadRecord ?g_BadLetter ?g_BadZone ?g_BadRow ?g_BadChange ?g_BadTurn ?g_BadLine ?a_is_whole ?l_is_whole ?c_is_whole ?k_is_whole ?a_within ?l_within ?c_within ?k_within ?a_is_label ?l_is_label ?c_is_label ?k_is_label ?a_is_name ?l_is_name ?c_is_name ?k_is_name ?a_is_starless ?l_is_starless ?c_is_starless ?k_is_starless ?a_name_rank ?l_name_rank ?c_name_rank ?k_name_rank ?a_is_sign ?l_is_sign ?c_is_sign ?k_is_sign ?a_is_kind ?l_is_kind ?c_is_kind ?k_is_kind ?a_is_life ?l_is_life ?c_is_life ?k_is_life ?a_is_key ?l_is_key ?c_is_key ?k_is_key ?a_is_addr ?l_is_addr ?c_is_addr ?k_is_addr ?a__is_text ?l__is_text ?c__is_text ?k__is_text ?a__is_named ?l__is_named ?c__is_named ?k__is_named ?a_is_version ?l_is_version ?c_is_version ?k_is_version ?a__is_top ?l__is_top ?c__is_top ?k__is_top ?a__is_seal ?l__is_seal ?c__is_seal ?k__is_seal ?a__are_rising_kinds ?l__are_rising_kinds ?c__are_rising_kinds ?k__are_rising_kinds ?a__is_gap ?l__is_gap ?c__is_gap ?k__is_gap ?a_is_data ?l_is_data ?c_is_data ?k_is_data ?a_is_record ?l_is_record ?c_is_record ?k_is_record ?a_are_records ?l_are_records ?c_are_records ?k_are_records ?a_data_rank ?l_data_rank ?c_data_rank ?k_data_rank ?a_record_rank ?l_record_rank ?c_record_rank ?k_record_rank ?a_ordered ?l_ordered ?c_ordered ?k_ordered ?a__law_cell_at ?l__law_cell_at ?c__law_cell_at ?k__law_cell_at ?a__law_next ?l__law_next ?c__law_next ?k__law_next ?a__law_great ?l__law_great ?c__law_great ?k__law_great ?a__law_signs ?l__law_signs ?c__law_signs ?k__law_signs ?a__law_label ?l__law_label ?c__law_label ?k__law_label ?a__law_labels ?l__law_labels ?c__law_labels ?k__law_labels ?a__law_name ?l__law_name ?c__law_name ?k__law_name ?a__law_plain ?l__law_plain ?c__law_plain ?k__law_plain ?a__law_text ?l__law_text ?c__law_text ?k__law_text ?a__law_kinds ?l__law_kinds ?c__law_kinds ?k__law_kinds ?a__law_data ?l__law_data ?c__law_data ?k__law_data ?a__law_record ?l__law_record ?c__law_record ?k__law_record ?a__law_before ?l__law_before ?c__law_before ?k__law_before ?a__law_among ?l__law_among ?c__law_among ?k__law_among ?a__law_is_name ?l__law_is_name ?c__law_is_name ?k__law_is_name ?a__law_is_kind ?l__law_is_kind ?c__law_is_kind ?k__law_is_kind ?a__law_is_data ?l__law_is_data ?c__law_is_data ?k__law_is_data ?a__law_is_record ?l__law_is_record ?c__law_is_record ?k__law_is_record ?a__law_odd ?l__law_odd ?c__law_odd ?k__law_odd ?a__law_spoilt ?l__law_spoilt ?c__law_spoilt ?k__law_spoilt ?a__law_less ?l__law_less ?c__law_less ?k__law_less ?a__law_ahead ?l__law_ahead ?c__law_ahead ?k__law_ahead ?a__law_sorted ?l__law_sorted ?c__law_sorted ?k__law_sorted ?a__law_some ?l__law_some ?c__law_some ?k__law_some ?a__law_word ?l__law_word ?c__law_word ?k__law_word ?a_law ?l_law ?c_law ?k_law ?z_ValueError ?z_all ?z_bool ?z_enumerate ?z_int ?z_isinstance ?z_len ?z_list ?z_max ?z_range ?z_set ?z_sorted ?z_str ?z_tuple ?z_zip ?v_HIGHEST_KEY ?v_HIGHEST_SUM ?v_HIGHEST_VERSION ?v_KINDS ?L_KINDS ?Z_KINDS ?R_KINDS ?v_LABEL_SIGNS ?v_LONGEST_LIFE ?v_MOST_LABELS ?v_MOST_SIGNS ?v_MOST_TEXT ?v_STAR ?v__DATA_TESTS ?L__DATA_TESTS ?KL__DATA_TESTS ?e__DATA_TESTS_addr ?e__DATA_TESTS_text ?e__DATA_TESTS_keeper ?e__DATA_TESTS_other ?e__DATA_TESTS_top ?e__DATA_TESTS_key ?e__DATA_TESTS_trust ?e__DATA_TESTS_seal ?e__DATA_TESTS_gap ?v__HIGH_SIGNS ?v__LOW_SIGNS ?x_BadRecord ?kc_BadRecord ?s_BadRecord_ ?ty_BadRecord ?s_BadChange_ ?ty_BadChange ?ci_BadChange ?ss_BadChange ?s_BadLetter_ ?ty_BadLetter ?ci_BadLetter ?ss_BadLetter ?s_BadLine_ ?ty_BadLine ?ci_BadLine ?ss_BadLine ?s_BadName_ ?ty_BadName ?ci_BadName ?ss_BadName ?ci_BadRecord ?ss_BadRecord ?s_BadRow_ ?ty_BadRow ?ci_BadRow ?ss_BadRow ?s_BadTurn_ ?ty_BadTurn ?ci_BadTurn ?ss_BadTurn ?s_BadZone_ ?ty_BadZone ?ci_BadZone ?ss_BadZone ?s_HouseError_ ?ty_HouseError ?ci_HouseError ?ss_HouseError ?sp_BadRecord_BadChange ?sp_BadRecord_BadLetter ?sp_BadRecord_BadLine ?sp_BadRecord_BadName ?sp_BadRecord_BadRow ?sp_BadRecord_BadTurn ?sp_BadRecord_BadZone ?sp_BadRecord_HouseError ?sv_BadRecord ?e1_BadRecord ?e2_BadRecord ?e3_BadRecord ?e4_BadRecord ?e6_BadRecord ?e5a ?e5b
    (case g_HouseError => k_is)
    (case g_BadName => k_is)
    (case g_BadRecord => k_is)
    (case g_BadLetter => k_is)
    (case g_BadZone => k_is)
    (case g_BadRow => k_is)
    (case g_BadChange => k_is)
    (case g_BadTurn => k_is)
    (case g_BadLine => k_is)
    (case a_is_whole => k_is)
    (case l_is_whole => k_is)
    (case c_is_whole => k_is)
    (case k_is_whole => k_is)
    (case a_within => k_is)
    (case l_within => k_is)
    (case c_within => k_is)
    (case k_within => k_is)
    (case a_is_label => k_is)
    (case l_is_label => k_is)
    (case c_is_label => k_is)
    (case k_is_label => k_is)
    (case a_is_name => k_is)
    (case l_is_name => k_is)
    (case c_is_name => k_is)
    (case k_is_name => k_is)
    (case a_is_starless => k_is)
    (case l_is_starless => k_is)
    (case c_is_starless => k_is)
    (case k_is_starless => k_is)
    (case a_name_rank => k_is)
    (case l_name_rank => k_is)
    (case c_name_rank => k_is)
    (case k_name_rank => k_is)
    (case a_is_sign => k_is)
    (case l_is_sign => k_is)
    (case c_is_sign => k_is)
    (case k_is_sign => k_is)
    (case a_is_kind => k_is)
    (case l_is_kind => k_is)
    (case c_is_kind => k_is)
    (case k_is_kind => k_is)
    (case a_is_life => k_is)
    (case l_is_life => k_is)
    (case c_is_life => k_is)
    (case k_is_life => k_is)
    (case a_is_key => k_is)
    (case l_is_key => k_is)
    (case c_is_key => k_is)
    (case k_is_key => k_is)
    (case a_is_addr => k_is)
    (case l_is_addr => k_is)
    (case c_is_addr => k_is)
    (case k_is_addr => k_is)
    (case a__is_text => k_is)
    (case l__is_text => k_is)
    (case c__is_text => k_is)
    (case k__is_text => k_is)
    (case a__is_named => k_is)
    (case l__is_named => k_is)
    (case c__is_named => k_is)
    (case k__is_named => k_is)
    (case a_is_version => k_is)
    (case l_is_version => k_is)
    (case c_is_version => k_is)
    (case k_is_version => k_is)
    (case a__is_top => k_is)
    (case l__is_top => k_is)
    (case c__is_top => k_is)
    (case k__is_top => k_is)
    (case a__is_seal => k_is)
    (case l__is_seal => k_is)
    (case c__is_seal => k_is)
    (case k__is_seal => k_is)
    (case a__are_rising_kinds => k_is)
    (case l__are_rising_kinds => k_is)
    (case c__are_rising_kinds => k_is)
    (case k__are_rising_kinds => k_is)
    (case a__is_gap => k_is)
    (case l__is_gap => k_is)
    (case c__is_gap => k_is)
    (case k__is_gap => k_is)
    (case a_is_data => k_is)
    (case l_is_data => k_is)
    (case c_is_data => k_is)
    (case k_is_data => k_is)
    (case a_is_record => k_is)
    (case l_is_record => k_is)
    (case c_is_record => k_is)
    (case k_is_record => k_is)
    (case a_are_records => k_is)
    (case l_are_records => k_is)
    (case c_are_records => k_is)
    (case k_are_records => k_is)
    (case a_data_rank => k_is)
    (case l_data_rank => k_is)
    (case c_data_rank => k_is)
    (case k_data_rank => k_is)
    (case a_record_rank => k_is)
    (case l_record_rank => k_is)
    (case c_record_rank => k_is)
    (case k_record_rank => k_is)
    (case a_ordered => k_is)
    (case l_ordered => k_is)
    (case c_ordered => k_is)
    (case k_ordered => k_is)
    (case a__law_cell_at => k_is)
    (case l__law_cell_at => k_is)
    (case c__law_cell_at => k_is)
    (case k__law_cell_at => k_is)
    (case a__law_next => k_is)
    (case l__law_next => k_is)
    (case c__law_next => k_is)
    (case k__law_next => k_is)
    (case a__law_great => k_is)
    (case l__law_great => k_is)
    (case c__law_great => k_is)
    (case k__law_great => k_is)
    (case a__law_signs => k_is)
    (case l__law_signs => k_is)
    (case c__law_signs => k_is)
    (case k__law_signs => k_is)
    (case a__law_label => k_is)
    (case l__law_label => k_is)
    (case c__law_label => k_is)
    (case k__law_label => k_is)
    (case a__law_labels => k_is)
    (case l__law_labels => k_is)
    (case c__law_labels => k_is)
    (case k__law_labels => k_is)
    (case a__law_name => k_is)
    (case l__law_name => k_is)
    (case c__law_name => k_is)
    (case k__law_name => k_is)
    (case a__law_plain => k_is)
    (case l__law_plain => k_is)
    (case c__law_plain => k_is)
    (case k__law_plain => k_is)
    (case a__law_text => k_is)
    (case l__law_text => k_is)
    (case c__law_text => k_is)
    (case k__law_text => k_is)
    (case a__law_kinds => k_is)
    (case l__law_kinds => k_is)
    (case c__law_kinds => k_is)
    (case k__law_kinds => k_is)
    (case a__law_data => k_is)
    (case l__law_data => k_is)
    (case c__law_data => k_is)
    (case k__law_data => k_is)
    (case a__law_record => k_is)
    (case l__law_record => k_is)
    (case c__law_record => k_is)
    (case k__law_record => k_is)
    (case a__law_before => k_is)
    (case l__law_before => k_is)
    (case c__law_before => k_is)
    (case k__law_before => k_is)
    (case a__law_among => k_is)
    (case l__law_among => k_is)
    (case c__law_among => k_is)
    (case k__law_among => k_is)
    (case a__law_is_name => k_is)
    (case l__law_is_name => k_is)
    (case c__law_is_name => k_is)
    (case k__law_is_name => k_is)
    (case a__law_is_kind => k_is)
    (case l__law_is_kind => k_is)
    (case c__law_is_kind => k_is)
    (case k__law_is_kind => k_is)
    (case a__law_is_data => k_is)
    (case l__law_is_data => k_is)
    (case c__law_is_data => k_is)
    (case k__law_is_data => k_is)
    (case a__law_is_record => k_is)
    (case l__law_is_record => k_is)
    (case c__law_is_record => k_is)
    (case k__law_is_record => k_is)
    (case a__law_odd => k_is)
    (case l__law_odd => k_is)
    (case c__law_odd => k_is)
    (case k__law_odd => k_is)
    (case a__law_spoilt => k_is)
    (case l__law_spoilt => k_is)
    (case c__law_spoilt => k_is)
    (case k__law_spoilt => k_is)
    (case a__law_less => k_is)
    (case l__law_less => k_is)
    (case c__law_less => k_is)
    (case k__law_less => k_is)
    (case a__law_ahead => k_is)
    (case l__law_ahead => k_is)
    (case c__law_ahead => k_is)
    (case k__law_ahead => k_is)
    (case a__law_sorted => k_is)
    (case l__law_sorted => k_is)
    (case c__law_sorted => k_is)
    (case k__law_sorted => k_is)
    (case a__law_some => k_is)
    (case l__law_some => k_is)
    (case c__law_some => k_is)
    (case k__law_some => k_is)
    (case a__law_word => k_is)
    (case l__law_word => k_is)
    (case c__law_word => k_is)
    (case k__law_word => k_is)
    (case a_law => k_is)
    (case l_law => k_is)
    (case c_law => k_is)
    (case k_law => k_is)
    (case z_ValueError => k_is)
    (case z_all => k_is)
    (case z_bool => k_is)
    (case z_enumerate => k_is)
    (case z_int => k_is)
    (case z_isinstance => k_is)
    (case z_len => k_is)
    (case z_list => k_is)
    (case z_max => k_is)
    (case z_range => k_is)
    (case z_set => k_is)
    (case z_sorted => k_is)
    (case z_str => k_is)
    (case z_tuple => k_is)
    (case z_zip => k_is)
    (case v_HIGHEST_KEY => k_is)
    (case v_HIGHEST_SUM => k_is)
    (case v_HIGHEST_VERSION => k_is)
    (case v_KINDS => k_is)
    (case L_KINDS => k_is)
    (case Z_KINDS => decide)
    (case R_KINDS => (repeat (first | exact .nil | refine .cons ⟨_, rfl⟩ ?_)))
    (case v_LABEL_SIGNS => k_is)
    (case v_LONGEST_LIFE => k_is)
    (case v_MOST_LABELS => k_is)
    (case v_MOST_SIGNS => k_is)
    (case v_MOST_TEXT => k_is)
    (case v_STAR => k_is)
    (case v__DATA_TESTS => k_is)
    (case L__DATA_TESTS => k_is)
    (case KL__DATA_TESTS => (repeat (first | exact trivial | refine ⟨⟨_, _, rfl, rfl⟩, ?_⟩)))
    (case e__DATA_TESTS_addr => k_is)
    (case e__DATA_TESTS_text => k_is)
    (case e__DATA_TESTS_keeper => k_is)
    (case e__DATA_TESTS_other => k_is)
    (case e__DATA_TESTS_top => k_is)
    (case e__DATA_TESTS_key => k_is)
    (case e__DATA_TESTS_trust => k_is)
    (case e__DATA_TESTS_seal => k_is)
    (case e__DATA_TESTS_gap => k_is)
    (case v__HIGH_SIGNS => k_is)
    (case v__LOW_SIGNS => k_is)
    (case x_BadRecord => k_exc)
    (case kc_BadRecord => k_is)
    (case s_BadRecord_ => k_is)
    (case ty_BadRecord => k_is)
    (case s_BadChange_ => k_is)
    (case ty_BadChange => k_is)
    (case ci_BadChange => k_is)
    (case ss_BadChange => first | rfl | k_is)
    (case s_BadLetter_ => k_is)
    (case ty_BadLetter => k_is)
    (case ci_BadLetter => k_is)
    (case ss_BadLetter => first | rfl | k_is)
    (case s_BadLine_ => k_is)
    (case ty_BadLine => k_is)
    (case ci_BadLine => k_is)
    (case ss_BadLine => first | rfl | k_is)
    (case s_BadName_ => k_is)
    (case ty_BadName => k_is)
    (case ci_BadName => k_is)
    (case ss_BadName => first | rfl | k_is)
    (case ci_BadRecord => k_is)
    (case ss_BadRecord => first | rfl | k_is)
    (case s_BadRow_ => k_is)
    (case ty_BadRow => k_is)
    (case ci_BadRow => k_is)
    (case ss_BadRow => first | rfl | k_is)
    (case s_BadTurn_ => k_is)
    (case ty_BadTurn => k_is)
    (case ci_BadTurn => k_is)
    (case ss_BadTurn => first | rfl | k_is)
    (case s_BadZone_ => k_is)
    (case ty_BadZone => k_is)
    (case ci_BadZone => k_is)
    (case ss_BadZone => first | rfl | k_is)
    (case s_HouseError_ => k_is)
    (case ty_HouseError => k_is)
    (case ci_HouseError => k_is)
    (case ss_HouseError => first | rfl | k_is)
    (case sp_BadRecord_BadChange => first | rfl | k_is)
    (case sp_BadRecord_BadLetter => first | rfl | k_is)
    (case sp_BadRecord_BadLine => first | rfl | k_is)
    (case sp_BadRecord_BadName => first | rfl | k_is)
    (case sp_BadRecord_BadRow => first | rfl | k_is)
    (case sp_BadRecord_BadTurn => first | rfl | k_is)
    (case sp_BadRecord_BadZone => first | rfl | k_is)
    (case sp_BadRecord_HouseError => first | rfl | k_is)
    (case sv_BadRecord => first | rfl | k_is)
    (case e1_BadRecord => k_is)
    (case e2_BadRecord => k_is)
    (case e3_BadRecord => k_is)
    (case e4_BadRecord => k_is)
    (case e6_BadRecord => k_is)
    (case e5a => k_is)
    (case e5b => k_is)
