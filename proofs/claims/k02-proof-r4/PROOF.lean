import PyProof.Rows.All
import Wide.All
import OpenK.AllK
import Wide.FinOn
import PySem.Challenge.RW_namehouse_k02_names_in_order
import HandS.ForMost
import HandS.ForExc
import HandS.IsInst
import HandS.Style
import HandS.TupAny
import HandS.TupMul
import HandS.Walk
import HandS.ExcIs
import HandS.More
import HandS.Keys
import HandS.SortKw
import KE.KRevSl
import KE.SortKeyHeap
set_option Elab.async false
set_option linter.all false
set_option maxRecDepth 100000
set_option maxHeartbeats 4000000
namespace Nh
open PySem PySem.Spec PyProof.Rows L2

inductive Dat where
  | non | bl (b : Bool) | int (i : Int) | str (s : Str) | tup (ds : List Dat) | cell (k : Nat) | ro (ns : List Int) | ty (n : String) | cls (n : Nat)
inductive Cell where
  | lst (ds : List Dat) | dict (kvs : List (Key × Dat)) | exc (n : Nat)
abbrev Store := List Cell
structure Cfg where
  K : PySem.W.Frag
  cl : Nat → Addr

/-- a list that nobody changes -/
def RoL (K : PySem.W.Frag) (H : Hp) (a : Addr) (xs : List V) : Prop :=
  (∃ o, H a = some (.frz o (.lst xs))) ∨ ((∀ H', SqL K H' a xs) ∧ ∃ o, K.lookup a = some o ∧ o.cls = .type "list")
/-- a tuple as it may stand -/
def RoT (K : PySem.W.Frag) (H : Hp) (a : Addr) (xs : List V) : Prop :=
  H a = some (.tup xs) ∨ ((∀ H', SqT K H' a xs) ∧ ∃ o, K.lookup a = some o ∧ o.cls = .type "tuple")
mutual
inductive Rel (c : Cfg) (as : List Addr) (H : Hp) : V → Dat → Prop
  | non : Rel c as H .non .non
  | bl (b : Bool) : Rel c as H (.bl b) (.bl b)
  | int (i : Int) : Rel c as H (.int i) (.int i)
  | str (s : Str) : Rel c as H (.str s) (.str s)
  | tup {a : Addr} {xs : List V} {ds : List Dat} (h : RoT c.K H a xs) (r : RelAll c as H xs ds) : Rel c as H (.ref a) (.tup ds)
  | cell {k : Nat} {a : Addr} (h : as[k]? = some a) : Rel c as H (.ref a) (.cell k)
  | ro {a : Addr} {ns : List Int} (h : RoL c.K H a (ns.map V.int)) : Rel c as H (.ref a) (.ro ns)
  | ty (n : String) : Rel c as H (.ty n) (.ty n)
  | cls (n : Nat) : Rel c as H (.ref (c.cl n)) (.cls n)
inductive RelAll (c : Cfg) (as : List Addr) (H : Hp) : List V → List Dat → Prop
  | nil : RelAll c as H [] []
  | cons {v : V} {vs : List V} {d : Dat} {ds : List Dat} (h : Rel c as H v d) (t : RelAll c as H vs ds) : RelAll c as H (v :: vs) (d :: ds)
end
/-- the heap later -/
structure Ext (as : List Addr) (H : Hp) (as' : List Addr) (H' : Hp) : Prop where
  pre : ∀ (k : Nat) (a : Addr), as[k]? = some a → as'[k]? = some a
  tup : ∀ a xs, H a = some (.tup xs) → H' a = some (.tup xs)
  frz : ∀ a o u, H a = some (.frz o u) → H' a = some (.frz o u)
theorem Ext.refl {as : List Addr} {H : Hp} : Ext as H as H := ⟨fun _ _ h => h, fun _ _ h => h, fun _ _ _ h => h⟩
theorem Ext.trans {as as1 as2 : List Addr} {H H1 H2 : Hp} (a : Ext as H as1 H1) (b : Ext as1 H1 as2 H2) : Ext as H as2 H2 :=
  ⟨fun k x h => b.pre k x (a.pre k x h), fun x y h => b.tup x y (a.tup x y h), fun x o u h => b.frz x o u (a.frz x o u h)⟩
section
variable {c : Cfg} {as as' : List Addr} {H H' : Hp}
theorem RoL.mono {a : Addr} {xs : List V} (e : Ext as H as' H') (h : RoL c.K H a xs) : RoL c.K H' a xs := by
  rcases h with ⟨o, h⟩ | h
  · exact .inl ⟨o, e.frz _ _ _ h⟩
  · exact .inr h
theorem RoL.sq {a : Addr} {xs : List V} (h : RoL c.K H a xs) : SqL c.K H a xs := by
  rcases h with ⟨o, h⟩ | h
  · exact .inl (.inr ⟨o, h⟩)
  · exact h.1 H
theorem RoT.mono {a : Addr} {xs : List V} (e : Ext as H as' H') (h : RoT c.K H a xs) : RoT c.K H' a xs := by
  rcases h with h | h
  · exact .inl (e.tup _ _ h)
  · exact .inr h
theorem RoT.sq {a : Addr} {xs : List V} (h : RoT c.K H a xs) : SqT c.K H a xs := by
  rcases h with h | h
  · exact .inl (.inl h)
  · exact h.1 H
mutual
theorem Rel.mono (e : Ext as H as' H') : ∀ {v : V} {d : Dat}, Rel c as H v d → Rel c as' H' v d
  | _, _, .non => .non
  | _, _, .bl b => .bl b
  | _, _, .int i => .int i
  | _, _, .str s => .str s
  | _, _, .tup h r => .tup (h.mono e) (RelAll.mono e r)
  | _, _, .cell h => .cell (e.pre _ _ h)
  | _, _, .ro h => .ro (h.mono e)
  | _, _, .ty n => .ty n
  | _, _, .cls n => .cls n
theorem RelAll.mono (e : Ext as H as' H') : ∀ {vs : List V} {ds : List Dat}, RelAll c as H vs ds → RelAll c as' H' vs ds
  | _, _, .nil => .nil
  | _, _, .cons h t => .cons (Rel.mono e h) (RelAll.mono e t)
end
theorem RelAll.length : ∀ {vs : List V} {ds : List Dat}, RelAll c as H vs ds → vs.length = ds.length
  | _, _, .nil => rfl
  | _, _, .cons _ t => by rw [List.length_cons, List.length_cons, RelAll.length t]
theorem RelAll.get : ∀ {vs : List V} {ds : List Dat} {i : Nat} {d : Dat}, RelAll c as H vs ds → ds[i]? = some d → ∃ v, vs[i]? = some v ∧ Rel c as H v d
  | _, _, _, _, .nil, e => by simp at e
  | _, _, 0, _, .cons h _, e => by simp at e; subst e; exact ⟨_, rfl, h⟩
  | _, _, i + 1, _, .cons _ t, e => by
    obtain ⟨v, h1, h2⟩ := RelAll.get (i := i) t (by simpa using e)
    exact ⟨v, by simpa using h1, h2⟩
theorem RelAll.getV : ∀ {vs : List V} {ds : List Dat} {i : Nat} {v : V}, RelAll c as H vs ds → vs[i]? = some v → ∃ d, ds[i]? = some d ∧ Rel c as H v d
  | _, _, _, _, .nil, e => by simp at e
  | _, _, 0, _, .cons h _, e => by simp at e; subst e; exact ⟨_, rfl, h⟩
  | _, _, i + 1, _, .cons _ t, e => by
    obtain ⟨v, h1, h2⟩ := RelAll.getV (i := i) t (by simpa using e)
    exact ⟨v, by simpa using h1, h2⟩
theorem RelAll.append : ∀ {vs ws : List V} {ds es : List Dat}, RelAll c as H vs ds → RelAll c as H ws es → RelAll c as H (vs ++ ws) (ds ++ es)
  | _, _, _, _, .nil, s => s
  | _, _, _, _, .cons h t, s => .cons h (RelAll.append t s)
theorem RelAll.take : ∀ {vs : List V} {ds : List Dat} (n : Nat), RelAll c as H vs ds → RelAll c as H (vs.take n) (ds.take n)
  | _, _, 0, _ => .nil
  | _, _, _ + 1, .nil => .nil
  | _, _, n + 1, .cons h t => .cons h (RelAll.take n t)
theorem RelAll.drop : ∀ {vs : List V} {ds : List Dat} (n : Nat), RelAll c as H vs ds → RelAll c as H (vs.drop n) (ds.drop n)
  | _, _, 0, h => h
  | _, _, _ + 1, .nil => .nil
  | _, _, n + 1, .cons _ t => RelAll.drop n t
theorem RelAll.set {v : V} {d : Dat} (h : Rel c as H v d) : ∀ {vs : List V} {ds : List Dat} (i : Nat), RelAll c as H vs ds → RelAll c as H (vs.set i v) (ds.set i d)
  | _, _, _, .nil => .nil
  | _, _, 0, .cons _ t => .cons h t
  | _, _, i + 1, .cons q t => .cons q (RelAll.set h i t)
end

/-- an exception that the program keeps: its class -/
def ExO (cls : Value) (a : Addr) : HO := .ext fun h => ∃ oe vs, h.get? a = some oe ∧ Zc cls none oe ∧ oe.data = .fields vs
def RelKV (c : Cfg) (as : List Addr) (H : Hp) : List (Key × V) → List (Key × Dat) → Prop := Paired fun p q => p.1 = q.1 ∧ Rel c as H p.2 q.2
def CellOk (c : Cfg) (as : List Addr) (H : Hp) (a : Addr) : Cell → Prop
  | .lst ds => ∃ xs, H a = some (.lst xs) ∧ RelAll c as H xs ds
  | .dict kvs => ∃ ps, H a = some (.dK ps) ∧ RelKV c as H ps kvs
  | .exc n => H a = some (ExO (.ref (c.cl n)) a)
structure StH (c : Cfg) (as : List Addr) (H : Hp) (μ : Store) : Prop where
  nd : as.Nodup
  len : as.length = μ.length
  at_ : ∀ (k : Nat) (x : Cell), μ[k]? = some x → ∃ a, as[k]? = some a ∧ CellOk c as H a x
abbrev Env := List (Option Dat)
structure EnvR (c : Cfg) (as : List Addr) (H : Hp) (σ : L2.St) (δ : Env) : Prop where
  len : σ.length = δ.length
  at_ : ∀ (i : Nat) (d : Dat), δ[i]? = some (some d) → ∃ v, σ[i]? = some (some v) ∧ Rel c as H v d
section
variable {c : Cfg} {as as' : List Addr} {H H' : Hp} {μ : Store} {σ : L2.St} {δ : Env}
theorem RelKV.mono (e : Ext as H as' H') {ps : List (Key × V)} {kvs : List (Key × Dat)} (r : RelKV c as H ps kvs) : RelKV c as' H' ps kvs := Paired.mapP r fun _ _ q => ⟨q.1, q.2.mono e⟩
theorem EnvR.mono (e : Ext as H as' H') (r : EnvR c as H σ δ) : EnvR c as' H' σ δ :=
  ⟨r.len, fun i d h => let ⟨v, h1, h2⟩ := r.at_ i d h; ⟨v, h1, h2.mono e⟩⟩
theorem EnvR.set {v : V} {d : Dat} (r : EnvR c as H σ δ) (i : Nat) (h : Rel c as H v d) : EnvR c as H (σ.set i (some v)) (δ.set i (some d)) :=
  ⟨by rw [List.length_set, List.length_set, r.len], fun j e hj => by
    by_cases hij : i = j
    · subst hij
      by_cases hl : i < δ.length
      · rw [List.getElem?_set_self hl] at hj
        cases hj
        exact ⟨v, by rw [List.getElem?_set_self (by rw [r.len]; exact hl)], h⟩
      · rw [List.getElem?_eq_none (by simpa using hl)] at hj
        cases hj
    · rw [List.getElem?_set_ne hij] at hj
      rw [List.getElem?_set_ne hij]
      exact r.at_ j e hj⟩
theorem EnvR.setN (r : EnvR c as H σ δ) (i : Nat) : EnvR c as H (σ.set i none) (δ.set i none) :=
  ⟨by rw [List.length_set, List.length_set, r.len], fun j e hj => by
    by_cases hij : i = j
    · subst hij
      by_cases hl : i < δ.length
      · rw [List.getElem?_set_self hl] at hj
        cases hj
      · rw [List.getElem?_eq_none (by simpa using hl)] at hj
        cases hj
    · rw [List.getElem?_set_ne hij] at hj
      rw [List.getElem?_set_ne hij]
      exact r.at_ j e hj⟩
theorem CellOk.mono {a : Addr} {x : Cell} (e : Ext as H as' H') (hx : H' a = H a) (h : CellOk c as H a x) : CellOk c as' H' a x := by
  cases x with
  | lst ds => obtain ⟨xs, h1, h2⟩ := h; exact ⟨xs, hx.trans h1, h2.mono e⟩
  | dict kvs => obtain ⟨ps, h1, h2⟩ := h; exact ⟨ps, hx.trans h1, h2.mono e⟩
  | exc n => exact hx.trans h
theorem CellOk.not_tup {a : Addr} {x : Cell} (h : CellOk c as H a x) : ∀ xs, H a ≠ some (.tup xs) := by
  intro xs e
  cases x with
  | lst ds => obtain ⟨_, h1, _⟩ := h; rw [e] at h1; cases h1
  | dict kvs => obtain ⟨_, h1, _⟩ := h; rw [e] at h1; cases h1
  | exc n => rw [show H a = _ from h] at e; cases e
theorem CellOk.not_frz {a : Addr} {x : Cell} (h : CellOk c as H a x) : ∀ o u, H a ≠ some (.frz o u) := by
  intro o u e
  cases x with
  | lst ds => obtain ⟨_, h1, _⟩ := h; rw [e] at h1; cases h1
  | dict kvs => obtain ⟨_, h1, _⟩ := h; rw [e] at h1; cases h1
  | exc n => rw [show H a = _ from h] at e; cases e
theorem CellOk.some_ {a : Addr} {x : Cell} (h : CellOk c as H a x) : H a ≠ none := by
  intro e
  cases x with
  | lst ds => obtain ⟨_, h1, _⟩ := h; rw [e] at h1; cases h1
  | dict kvs => obtain ⟨_, h1, _⟩ := h; rw [e] at h1; cases h1
  | exc n => rw [show H a = _ from h] at e; cases e
theorem StH.mem {a : Addr} (s : StH c as H μ) (h : a ∈ as) : H a ≠ none := by
  obtain ⟨k, hk, e⟩ := List.getElem_of_mem h
  have hk' : k < μ.length := by rw [← s.len]; exact hk
  obtain ⟨b, h1, h2⟩ := s.at_ k μ[k] (List.getElem?_eq_getElem hk')
  rw [List.getElem?_eq_getElem hk, e] at h1
  cases h1
  exact h2.some_
/-- a new tuple -/
theorem ext_new {p : Addr} {o : HO} (h : H p = none) : Ext as H as (upd H p o) :=
  ⟨fun _ _ h => h, fun a xs e => by rw [upd_ne (ne_of_none e h)]; exact e, fun a o u e => by rw [upd_ne (ne_of_none e h)]; exact e⟩
theorem StH.tup {p : Addr} {o : HO} (s : StH c as H μ) (h : H p = none) : StH c as (upd H p o) μ :=
  ⟨s.nd, s.len, fun k x e => by
    obtain ⟨a, h1, h2⟩ := s.at_ k x e
    have ne : a ≠ p := fun z => h2.some_ (by rw [z]; exact h)
    exact ⟨a, h1, h2.mono (ext_new h) (upd_ne ne)⟩⟩
/-- a new object of the store -/
theorem ext_alloc {p : Addr} {o : HO} (h : H p = none) : Ext as H (as ++ [p]) (upd H p o) :=
  ⟨fun k a e => by
    have hk : k < as.length := (List.getElem?_eq_some_iff.mp e).1
    rw [List.getElem?_append_left hk]
    exact e, (ext_new (as := as) h).tup, (ext_new (as := as) h).frz⟩
theorem StH.alloc {p : Addr} {o : HO} {x : Cell} (s : StH c as H μ) (h : H p = none) (new : CellOk c (as ++ [p]) (upd H p o) p x) : StH c (as ++ [p]) (upd H p o) (μ ++ [x]) := by
  refine ⟨?_, by simp [s.len], fun k y e => ?_⟩
  · rw [List.nodup_append]
    refine ⟨s.nd, by simp, fun a ha b hb => ?_⟩
    have hb' : b = p := by simpa using hb
    subst hb'
    exact fun z => s.mem ha (by rw [z]; exact h)
  · by_cases hk : k < μ.length
    · rw [List.getElem?_append_left hk] at e
      obtain ⟨a, h1, h2⟩ := s.at_ k y e
      have ne : a ≠ p := fun z => h2.some_ (by rw [z]; exact h)
      exact ⟨a, (ext_alloc (o := o) h).pre _ _ h1, h2.mono (ext_alloc h) (upd_ne ne)⟩
    · have hk2 : k = μ.length := by
        have := (List.getElem?_eq_some_iff.mp e).1
        rw [List.length_append, List.length_singleton] at this
        omega
      subst hk2
      rw [List.getElem?_concat_length] at e
      cases e
      exact ⟨p, by rw [← s.len, List.getElem?_concat_length], new⟩
theorem rel_alloc {p : Addr} (s : StH c as H μ) {H' : Hp} : Rel c (as ++ [p]) H' (.ref p) (.cell μ.length) := .cell (by rw [← s.len, List.getElem?_concat_length])
/-- an object of the store is changed -/
theorem ext_set {k : Nat} {a : Addr} {x : Cell} {o : HO} (s : StH c as H μ) (hk : μ[k]? = some x) (ha : as[k]? = some a) : Ext as H as (upd H a o) := by
  obtain ⟨b, h1, h2⟩ := s.at_ k x hk
  rw [ha] at h1
  cases h1
  refine ⟨fun _ _ h => h, fun b xs e => ?_, fun b o u e => ?_⟩
  · have ne : b ≠ a := fun z => by rw [z] at e; exact h2.not_tup _ e
    rw [upd_ne ne]; exact e
  · have ne : b ≠ a := fun z => by rw [z] at e; exact h2.not_frz _ _ e
    rw [upd_ne ne]; exact e
theorem StH.set {k : Nat} {a : Addr} {x y : Cell} {o : HO} (s : StH c as H μ) (hk : μ[k]? = some x) (ha : as[k]? = some a) (new : CellOk c as (upd H a o) a y) : StH c as (upd H a o) (μ.set k y) := by
  refine ⟨s.nd, by rw [List.length_set]; exact s.len, fun j z e => ?_⟩
  have hkl : k < μ.length := (List.getElem?_eq_some_iff.mp hk).1
  by_cases hj : k = j
  · subst hj
    rw [List.getElem?_set_self hkl] at e
    cases e
    exact ⟨a, ha, new⟩
  · rw [List.getElem?_set_ne hj] at e
    obtain ⟨b, h1, h2⟩ := s.at_ j z e
    have ne : b ≠ a := fun q => hj (nd_ix s.nd ha (q ▸ h1))
    exact ⟨b, h1, h2.mono (ext_set s hk ha) (upd_ne ne)⟩
theorem StH.cell_at {k : Nat} {a : Addr} {x : Cell} (s : StH c as H μ) (hk : μ[k]? = some x) (ha : as[k]? = some a) : CellOk c as H a x := by
  obtain ⟨b, h1, h2⟩ := s.at_ k x hk
  rw [ha] at h1
  cases h1
  exact h2
end

/-! ### what a step gives -/
inductive Res (α : Type) where
  | ok (x : α) (μ : Store) | raise (n : Nat) (μ : Store) | stuck
def Res.bind {α β : Type} (r : Res α) (f : α → Store → Res β) : Res β := match r with
  | .ok x μ => f x μ
  | .raise n μ => .raise n μ
  | .stuck => .stuck
abbrev M (α : Type) := Env → Store → Res α
section
variable {c : Cfg} {as as' : List Addr} {H H' : Hp} {σ : L2.St} {δ : Env} {μ : Store} {α β γ ε : Type}
def Want (c : Cfg) (R : List Addr → Hp → β → α → Prop) (r : Res α) (as : List Addr) (H : Hp) (σ : L2.St) (Q : β → Hp → Prop) (W : WX) : Prop := match r with
  | .ok x μ' => ∀ v as' H', Ext as H as' H' → StH c as' H' μ' → R as' H' v x → Q v H'
  | .raise n μ' => ∀ as' H', Ext as H as' H' → StH c as' H' μ' → W (.ref (c.cl n)) none σ H'
  | .stuck => False
theorem Want.mono {R : List Addr → Hp → β → α → Prop} {r : Res α} {Q : β → Hp → Prop} {W : WX} (e : Ext as H as' H') (w : Want c R r as H σ Q W) : Want c R r as' H' σ Q W := by
  cases r with
  | ok x μ' => exact fun v a h q => w v a h (e.trans q)
  | raise n μ' => exact fun a h q => w a h (e.trans q)
  | stuck => exact w
theorem Want.imp {R : List Addr → Hp → β → α → Prop} {r : Res α} {Q Q' : β → Hp → Prop} {W : WX} (w : Want c R r as H σ Q W) (h : ∀ v H', Q v H' → Q' v H') : Want c R r as H σ Q' W := by
  cases r with
  | ok x μ' => exact fun v a q e s r => h _ _ (w v a q e s r)
  | raise n μ' => exact w
  | stuck => exact w
theorem want_bind {R1 : List Addr → Hp → β → α → Prop} {R2 : List Addr → Hp → ε → γ → Prop} {r : Res α} {f : α → Store → Res γ} {Q : ε → Hp → Prop} {W : WX} (h : Want c R2 (r.bind f) as H σ Q W) :
    Want c R1 r as H σ (fun v H1 => ∃ as1 μ1 x, Ext as H as1 H1 ∧ StH c as1 H1 μ1 ∧ R1 as1 H1 v x ∧ Want c R2 (f x μ1) as1 H1 σ Q W) W := by
  cases r with
  | ok x μ' => exact fun v a q e s r => ⟨a, μ', x, e, s, r, Want.mono (r := f x μ') e h⟩
  | raise n μ' => exact h
  | stuck => exact h
/-- a reading follows a function -/
def Sim (c : Cfg) (W : WX) (R : List Addr → Hp → β → α → Prop) (t : L2.St → Hp → (β → Hp → Prop) → Prop) (m : M α) : Prop :=
  ∀ as H σ δ μ, StH c as H μ → EnvR c as H σ δ → ∀ Q, Want c R (m δ μ) as H σ Q W → t σ H Q
abbrev SimE (c : Cfg) (W : WX) (t : TE) (m : M Dat) : Prop := Sim c W (Rel c) t m
abbrev SimT (c : Cfg) (W : WX) (t : TT) (m : M Bool) : Prop := Sim c W (fun _ _ b d => b = d) t m
abbrev SimA (c : Cfg) (W : WX) (t : TA) (m : M (List Dat)) : Prop := Sim c W (RelAll c) t m
variable {W : WX}
theorem sim_bind {R1 : List Addr → Hp → β → α → Prop} {R2 : List Addr → Hp → ε → γ → Prop} {t : L2.St → Hp → (β → Hp → Prop) → Prop} {m : M α} {k : β → L2.St → Hp → (ε → Hp → Prop) → Prop} {f : α → M γ}
    (h : Sim c W R1 t m) (hk : ∀ as H σ δ μ v x, StH c as H μ → EnvR c as H σ δ → R1 as H v x → ∀ Q, Want c R2 (f x δ μ) as H σ Q W → k v σ H Q) :
    Sim c W R2 (fun σ H Q => t σ H fun v H1 => k v σ H1 Q) (fun δ μ => (m δ μ).bind fun x μ1 => f x δ μ1) := by
  intro as H σ δ μ st env Q w
  refine h as H σ δ μ st env _ ((want_bind (R1 := R1) w).imp ?_)
  rintro v H1 ⟨as1, μ1, x, e, s1, r, w1⟩
  exact hk as1 H1 σ δ μ1 v x s1 (env.mono e) r Q w1

/-! ### names, constants -/
def mVar (i : Nat) : M Dat := fun δ μ => match δ[i]? with
  | some (some d) => .ok d μ
  | _ => .stuck
theorem sim_var (i : Nat) : SimE c W (tVar i) (mVar i) := by
  intro as H σ δ μ st env Q w
  unfold mVar at w
  split at w
  · rename_i d hd
    obtain ⟨v, h1, h2⟩ := env.at_ i d hd
    exact ⟨v, h1, w v as H .refl st h2⟩
  · exact w.elim
def mC (d : Dat) : M Dat := fun _ μ => .ok d μ
theorem sim_c {v : V} {d : Dat} (h : ∀ as H, Rel c as H v d) : SimE c W (tC v) (mC d) := fun as H σ δ μ st env Q w => w v as H .refl st (h as H)
theorem sim_int (i : Int) : SimE c W (tC (.int i)) (mC (.int i)) := sim_c fun _ _ => .int i
theorem sim_str (s : Str) : SimE c W (tC (.str s)) (mC (.str s)) := sim_c fun _ _ => .str s
theorem sim_bl (b : Bool) : SimE c W (tC (.bl b)) (mC (.bl b)) := sim_c fun _ _ => .bl b
theorem sim_non : SimE c W (tC .non) (mC .non) := sim_c fun _ _ => .non
theorem sim_ty (n : String) : SimE c W (tC (.ty n)) (mC (.ty n)) := sim_c fun _ _ => .ty n
theorem sim_cls (n : Nat) : SimE c W (tC (.ref (c.cl n))) (mC (.cls n)) := sim_c fun _ _ => .cls n

/-! ### operators -/
abbrev F1 := Dat → Store → Res Dat
abbrev F2 := Dat → Dat → Store → Res Dat
def SimR (c : Cfg) (r : R2) (f : F2) : Prop :=
  ∀ as H μ v w x y, StH c as H μ → Rel c as H v x → Rel c as H w y → ∀ σ W Q, Want c (Rel c) (f x y μ) as H σ Q W → r v w H Q
def mOp (f : F2) (a b : M Dat) : M Dat := fun δ μ => (a δ μ).bind fun x μ1 => (b δ μ1).bind fun y μ2 => f x y μ2
theorem sim_op {r : R2} {f : F2} {ta tb : TE} {a b : M Dat} (hr : SimR c r f) (ha : SimE c W ta a) (hb : SimE c W tb b) : SimE c W (tOp r ta tb) (mOp f a b) := by
  intro as H σ δ μ st env Q w
  refine ha as H σ δ μ st env _ ((want_bind (R1 := Rel c) w).imp ?_)
  rintro v H1 ⟨as1, μ1, x, e, s1, rx, w1⟩
  refine hb as1 H1 σ δ μ1 s1 (env.mono e) _ ((want_bind (R1 := Rel c) w1).imp ?_)
  rintro u H2 ⟨as2, μ2, y, e2, s2, ry, w2⟩
  exact hr as2 H2 μ2 v u x y s2 (rx.mono e2) ry σ W Q w2
def intOp (g : Int → Int → Dat) : F2 := fun x y μ => match x, y with
  | .int i, .int j => .ok (g i j) μ
  | _, _ => .stuck
theorem simr_I0 {g : Int → Int → V} {g' : Int → Int → Dat} (hg : ∀ i j as H, Rel c as H (g i j) (g' i j)) : SimR c (rI0 g) (intOp g') := by
  intro as H μ v w x y st rx ry σ W Q h
  unfold intOp at h
  split at h
  · cases rx
    cases ry
    exact ⟨_, _, rfl, rfl, h _ as H .refl st (hg ..)⟩
  · exact h.elim
def intOpC (C : Int → Int → Prop) [∀ i j, Decidable (C i j)] (g : Int → Int → Dat) : F2 := fun x y μ => match x, y with
  | .int i, .int j => if C i j then .ok (g i j) μ else .stuck
  | _, _ => .stuck
theorem simr_I {C : Int → Int → Prop} [∀ i j, Decidable (C i j)] {g : Int → Int → V} {g' : Int → Int → Dat} (hg : ∀ i j as H, Rel c as H (g i j) (g' i j)) : SimR c (rI C g) (intOpC C g') := by
  intro as H μ v w x y st rx ry σ W Q h
  unfold intOpC at h
  split at h
  · rename_i i j
    cases rx
    cases ry
    by_cases hc : C i j
    · rw [if_pos hc] at h
      exact ⟨_, _, rfl, rfl, hc, h _ as H .refl st (hg ..)⟩
    · rw [if_neg hc] at h
      exact h.elim
  · exact h.elim
instance : ∀ i j, Decidable (CMul i j) := fun i j => by unfold CMul; infer_instance
instance : ∀ i j, Decidable (CDiv i j) := fun i j => by unfold CDiv; infer_instance
instance : ∀ i j, Decidable (CPow i j) := fun i j => by unfold CPow; infer_instance
def fAdd : F2 := intOp fun i j => .int (i + j)
def fSub : F2 := intOp fun i j => .int (i - j)
def fMul : F2 := intOpC CMul fun i j => .int (i * j)
def fDiv : F2 := intOpC CDiv fun i j => .int (i / j)
def fMod : F2 := intOpC (fun _ j => 0 < j) fun i j => .int (i % j)
def fPow : F2 := intOpC CPow fun i j => .int (i ^ j.toNat)
def fLt : F2 := intOp fun i j => .bl (decide (i < j))
def fLe : F2 := intOp fun i j => .bl (decide (i ≤ j))
def fGt : F2 := intOp fun i j => .bl (decide (j < i))
def fGe : F2 := intOp fun i j => .bl (decide (j ≤ i))
theorem simr_add : SimR c (rI0 fun i j => .int (i + j)) fAdd := simr_I0 fun _ _ _ _ => .int _
theorem simr_sub : SimR c (rI0 fun i j => .int (i - j)) fSub := simr_I0 fun _ _ _ _ => .int _
theorem simr_mul : SimR c (rI CMul fun i j => .int (i * j)) fMul := simr_I fun _ _ _ _ => .int _
theorem simr_fdiv : SimR c (rI CDiv fun i j => .int (i / j)) fDiv := simr_I fun _ _ _ _ => .int _
theorem simr_mod : SimR c (rI (fun _ j => 0 < j) fun i j => .int (i % j)) fMod := simr_I fun _ _ _ _ => .int _
theorem simr_pow : SimR c (rI CPow fun i j => .int (i ^ j.toNat)) fPow := simr_I fun _ _ _ _ => .int _
theorem simr_lt : SimR c (rI0 fun i j => .bl (decide (i < j))) fLt := simr_I0 fun _ _ _ _ => .bl _
theorem simr_le : SimR c (rI0 fun i j => .bl (decide (i ≤ j))) fLe := simr_I0 fun _ _ _ _ => .bl _
theorem simr_gt : SimR c (rI0 fun i j => .bl (decide (j < i))) fGt := simr_I0 fun _ _ _ _ => .bl _
theorem simr_ge : SimR c (rI0 fun i j => .bl (decide (j ≤ i))) fGe := simr_I0 fun _ _ _ _ => .bl _
/-- a datum that stands for itself -/
def toV : Dat → Option V
  | .non => some .non
  | .bl b => some (.bl b)
  | .int i => some (.int i)
  | .str s => some (.str s)
  | _ => none
theorem Rel.toV {v u : V} {d : Dat} (h : Rel c as H v d) (e : toV d = some u) : v = u := by
  cases h <;> first | (cases e; rfl) | cases e
def fEq : F2 := fun x y μ => match toV x, toV y with
  | some u, some v => if scal u v = true then .ok (.bl (decide (u = v))) μ else .stuck
  | _, _ => .stuck
def fNe : F2 := fun x y μ => match toV x, toV y with
  | some u, some v => if scal u v = true then .ok (.bl (!decide (u = v))) μ else .stuck
  | _, _ => .stuck
theorem simr_eq : SimR c rEq fEq := by
  intro as H μ v w x y st rx ry σ W Q h
  unfold fEq at h
  split at h
  · rename_i u1 u2 e1 e2
    obtain rfl := rx.toV e1
    obtain rfl := ry.toV e2
    by_cases hs : scal v w = true
    · rw [if_pos hs] at h
      exact ⟨hs, h _ as H .refl st (.bl _)⟩
    · rw [if_neg hs] at h
      exact h.elim
  · exact h.elim
theorem simr_ne : SimR c rNe fNe := by
  intro as H μ v w x y st rx ry σ W Q h
  unfold fNe at h
  split at h
  · rename_i u1 u2 e1 e2
    obtain rfl := rx.toV e1
    obtain rfl := ry.toV e2
    by_cases hs : scal v w = true
    · rw [if_pos hs] at h
      exact ⟨hs, h _ as H .refl st (.bl _)⟩
    · rw [if_neg hs] at h
      exact h.elim
  · exact h.elim
end
end Nh

namespace Nh
open PySem PySem.Spec PyProof.Rows L2
section
variable {c : Cfg} {as as' : List Addr} {H H' : Hp} {σ : L2.St} {δ : Env} {μ : Store} {α β γ ε : Type} {W : WX}

/-! ### tests, and, or, not, if -/
def asB (m : M Dat) : M Bool := fun δ μ => (m δ μ).bind fun d μ1 => match d with
  | .bl b => .ok b μ1
  | _ => .stuck
theorem sim_tB {t : TE} {m : M Dat} (h : SimE c W t m) : SimT c W (tB t) (asB m) := by
  intro as0 H0 σ δ μ0 st0 env0 Q w0
  refine h as0 H0 σ δ μ0 st0 env0 _ ((want_bind (R1 := Rel c) w0).imp ?_)
  rintro v H ⟨as, μ, x, e0, st, r, w⟩
  have env := env0.mono e0
  split at w
  · cases r
    exact ⟨_, rfl, w _ as H .refl st rfl⟩
  · exact w.elim
theorem sim_tTest {t : TE} {m : M Dat} (h : SimE c W t m) : SimT c W (tTest t) (asB m) := sim_tB h
def mtNot (m : M Bool) : M Bool := fun δ μ => (m δ μ).bind fun b μ1 => .ok (!b) μ1
theorem sim_tNot {t : TT} {m : M Bool} (h : SimT c W t m) : SimT c W (tNot t) (mtNot m) := by
  intro as0 H0 σ δ μ0 st0 env0 Q w0
  refine h as0 H0 σ δ μ0 st0 env0 _ ((want_bind (R1 := fun _ _ b d => b = d) w0).imp ?_)
  rintro v H ⟨as, μ, x, e0, st, r, w⟩
  have env := env0.mono e0
  subst r
  exact w _ as H .refl st rfl
def mtAnd (a b : M Bool) : M Bool := fun δ μ => (a δ μ).bind fun k μ1 => if k = true then b δ μ1 else .ok false μ1
def mtOr (a b : M Bool) : M Bool := fun δ μ => (a δ μ).bind fun k μ1 => if k = true then .ok true μ1 else b δ μ1
theorem sim_tAnd {t u : TT} {a b : M Bool} (ha : SimT c W t a) (hb : SimT c W u b) : SimT c W (tAnd t u) (mtAnd a b) := by
  intro as0 H0 σ δ μ0 st0 env0 Q w0
  refine ha as0 H0 σ δ μ0 st0 env0 _ ((want_bind (R1 := fun _ _ b d => b = d) w0).imp ?_)
  rintro v H ⟨as, μ, x, e0, st, r, w⟩
  have env := env0.mono e0
  subst r
  cases v with
  | true => exact hb as H σ δ μ st env Q w
  | false => exact w _ as H .refl st rfl
theorem sim_tOr {t u : TT} {a b : M Bool} (ha : SimT c W t a) (hb : SimT c W u b) : SimT c W (tOr t u) (mtOr a b) := by
  intro as0 H0 σ δ μ0 st0 env0 Q w0
  refine ha as0 H0 σ δ μ0 st0 env0 _ ((want_bind (R1 := fun _ _ b d => b = d) w0).imp ?_)
  rintro v H ⟨as, μ, x, e0, st, r, w⟩
  have env := env0.mono e0
  subst r
  cases v with
  | true => exact w _ as H .refl st rfl
  | false => exact hb as H σ δ μ st env Q w
def mAnd (a b : M Dat) : M Dat := fun δ μ => (a δ μ).bind fun k μ1 => match k with
  | .bl true => b δ μ1
  | .bl false => .ok (.bl false) μ1
  | _ => .stuck
def mOr (a b : M Dat) : M Dat := fun δ μ => (a δ μ).bind fun k μ1 => match k with
  | .bl true => .ok (.bl true) μ1
  | .bl false => b δ μ1
  | _ => .stuck
theorem sim_and {t u : TE} {a b : M Dat} (ha : SimE c W t a) (hb : SimE c W u b) : SimE c W (tAndV t u) (mAnd a b) := by
  intro as0 H0 σ δ μ0 st0 env0 Q w0
  refine ha as0 H0 σ δ μ0 st0 env0 _ ((want_bind (R1 := Rel c) w0).imp ?_)
  rintro v H ⟨as, μ, x, e0, st, r, w⟩
  have env := env0.mono e0
  split at w
  · cases r
    exact ⟨_, rfl, hb as H σ δ μ st env Q w⟩
  · cases r
    exact ⟨_, rfl, w _ as H .refl st (.bl _)⟩
  · exact w.elim
theorem sim_or {t u : TE} {a b : M Dat} (ha : SimE c W t a) (hb : SimE c W u b) : SimE c W (tOrV t u) (mOr a b) := by
  intro as0 H0 σ δ μ0 st0 env0 Q w0
  refine ha as0 H0 σ δ μ0 st0 env0 _ ((want_bind (R1 := Rel c) w0).imp ?_)
  rintro v H ⟨as, μ, x, e0, st, r, w⟩
  have env := env0.mono e0
  split at w
  · cases r
    exact ⟨_, rfl, w _ as H .refl st (.bl _)⟩
  · cases r
    exact ⟨_, rfl, hb as H σ δ μ st env Q w⟩
  · exact w.elim
def mNot (a : M Dat) : M Dat := fun δ μ => (a δ μ).bind fun k μ1 => match k with
  | .bl b => .ok (.bl (!b)) μ1
  | _ => .stuck
theorem sim_not {t : TE} {a : M Dat} (ha : SimE c W t a) : SimE c W (tNotV t) (mNot a) := by
  intro as0 H0 σ δ μ0 st0 env0 Q w0
  refine ha as0 H0 σ δ μ0 st0 env0 _ ((want_bind (R1 := Rel c) w0).imp ?_)
  rintro v H ⟨as, μ, x, e0, st, r, w⟩
  have env := env0.mono e0
  split at w
  · cases r
    exact ⟨_, rfl, w _ as H .refl st (.bl _)⟩
  · exact w.elim
def mIf (q : M Bool) (a b : M α) : M α := fun δ μ => (q δ μ).bind fun k μ1 => if k = true then a δ μ1 else b δ μ1
theorem sim_if {q : TT} {t u : TE} {mq : M Bool} {a b : M Dat} (hq : SimT c W q mq) (ha : SimE c W t a) (hb : SimE c W u b) : SimE c W (tIf q t u) (mIf mq a b) := by
  intro as0 H0 σ δ μ0 st0 env0 Q w0
  refine hq as0 H0 σ δ μ0 st0 env0 _ ((want_bind (R1 := fun _ _ b d => b = d) w0).imp ?_)
  rintro v H ⟨as, μ, x, e0, st, r, w⟩
  have env := env0.mono e0
  subst r
  cases v with
  | true => exact ha as H σ δ μ st env Q w
  | false => exact hb as H σ δ μ st env Q w
/-- what a value is worth as a test -/
def truD (μ : Store) : Dat → Option Bool
  | .non => some false
  | .bl b => some b
  | .int i => some (i != 0)
  | .str y => if y.length ≤ sizeLine then some ((y.length : Int) != 0) else none
  | .tup ds => some (!ds.isEmpty)
  | .ro ns => some (!ns.isEmpty)
  | .cell k => match μ[k]? with
    | some (.lst ds) => some (!ds.isEmpty)
    | some (.dict kvs) => some (!kvs.isEmpty)
    | _ => none
  | _ => none
theorem RelAll.isEmpty {vs : List V} {ds : List Dat} (h : RelAll c as H vs ds) : vs.isEmpty = ds.isEmpty := by
  cases h <;> rfl
theorem truV_of {v : V} {d : Dat} {b : Bool} (st : StH c as H μ) (r : Rel c as H v d) (h : truD μ d = some b) : TruV c.K v H b := by
  cases r with
  | non => exact (Option.some.inj h).symm
  | bl k => exact (Option.some.inj h).symm
  | int i => exact (Option.some.inj h).symm
  | str y =>
    dsimp only [truD] at h
    split at h
    · rename_i hy
      exact ⟨hy, (Option.some.inj h).symm⟩
    · cases h
  | tup ht ra =>
    refine .inr (.inl ⟨_, ht.sq, ?_⟩)
    rw [ra.isEmpty]
    exact (Option.some.inj h).symm
  | ro hl =>
    refine .inl ⟨_, hl.sq, ?_⟩
    rw [← Option.some.inj h, List.isEmpty_map]
  | @cell k a ha =>
    dsimp only [truD] at h
    split at h
    · rename_i ds hk
      obtain ⟨xs, h1, h2⟩ := st.cell_at hk ha
      refine .inl ⟨xs, SqL.of h1, ?_⟩
      rw [h2.isEmpty]
      exact (Option.some.inj h).symm
    · rename_i kvs hk
      obtain ⟨ps, h1, h2⟩ := st.cell_at hk ha
      refine .inr (.inr ⟨ps, h1, ?_⟩)
      rw [← Option.some.inj h]
      cases h2 <;> rfl
    · cases h
  | ty n => cases h
  | cls n => cases h
def mTru (m : M Dat) : M Bool := fun δ μ => (m δ μ).bind fun d μ1 => match truD μ1 d with
  | some b => .ok b μ1
  | none => .stuck
theorem sim_truth {t : TE} {m : M Dat} (h : SimE c W t m) : SimT c W (fun σ H Q => t σ H fun x H' => ∃ k, TruV c.K x H' k ∧ Q k H') (mTru m) := by
  intro as0 H0 σ δ μ0 st0 env0 Q w0
  refine h as0 H0 σ δ μ0 st0 env0 _ ((want_bind (R1 := Rel c) w0).imp ?_)
  rintro v H ⟨as, μ, x, e0, st, r, w⟩
  have env := env0.mono e0
  split at w
  · rename_i b hb
    exact ⟨b, truV_of st r hb, w _ as H .refl st rfl⟩
  · exact w.elim
def mChain (f g : F2) (a b d : M Dat) : M Dat := fun δ μ => (a δ μ).bind fun x μ1 => (b δ μ1).bind fun y μ2 => (f x y μ2).bind fun k μ3 => match k with
  | .bl true => (d δ μ3).bind fun z μ4 => g y z μ4
  | .bl false => .ok (.bl false) μ3
  | _ => .stuck
theorem sim_chain {r r' : R2} {f g : F2} {ta tb tc : TE} {a b d : M Dat} (hr : SimR c r f) (hr' : SimR c r' g) (ha : SimE c W ta a) (hb : SimE c W tb b) (hd : SimE c W tc d) : SimE c W (tChain r r' ta tb tc) (mChain f g a b d) := by
  intro as H σ δ μ st env Q w
  refine ha as H σ δ μ st env _ ((want_bind (R1 := Rel c) w).imp ?_)
  rintro v H1 ⟨as1, μ1, x, e, s1, rx, w1⟩
  refine hb as1 H1 σ δ μ1 s1 (env.mono e) _ ((want_bind (R1 := Rel c) w1).imp ?_)
  rintro u H2 ⟨as2, μ2, y, e2, s2, ry, w2⟩
  refine hr as2 H2 μ2 v u x y s2 (rx.mono e2) ry σ W _ ((want_bind (R1 := Rel c) w2).imp ?_)
  rintro z H3 ⟨as3, μ3, k, e3, s3, rz, w3⟩
  split at w3
  · cases rz
    refine ⟨true, rfl, iteT ?_⟩
    refine hd as3 H3 σ δ μ3 s3 ((env.mono e).mono (e2.trans e3)) _ ((want_bind (R1 := Rel c) w3).imp ?_)
    rintro z H4 ⟨as4, μ4, z', e4, s4, rz', w4⟩
    exact hr' as4 H4 μ4 u z y z' s4 (ry.mono (e3.trans e4)) rz' σ W Q w4
  · cases rz
    exact ⟨false, rfl, iteF (w3 _ as3 H3 .refl s3 (.bl _))⟩
  · exact w3.elim

/-! ### arguments, displays -/
def maNil : M (List Dat) := fun _ μ => .ok [] μ
def maCons (a : M Dat) (r : M (List Dat)) : M (List Dat) := fun δ μ => (a δ μ).bind fun x μ1 => (r δ μ1).bind fun xs μ2 => .ok (x :: xs) μ2
theorem sim_nil : SimA c W tNil maNil := fun as H σ δ μ st env Q w => w [] as H .refl st .nil
theorem sim_cons {ta : TE} {tr : TA} {a : M Dat} {r : M (List Dat)} (ha : SimE c W ta a) (hr : SimA c W tr r) : SimA c W (tCons ta tr) (maCons a r) := by
  intro as H σ δ μ st env Q w
  refine ha as H σ δ μ st env _ ((want_bind (R1 := Rel c) w).imp ?_)
  rintro v H1 ⟨as1, μ1, x, e, s1, rx, w1⟩
  refine hr as1 H1 σ δ μ1 s1 (env.mono e) _ ((want_bind (R1 := RelAll c) w1).imp ?_)
  rintro vs H2 ⟨as2, μ2, xs, e2, s2, rxs, w2⟩
  exact w2 _ as2 H2 .refl s2 (.cons (rx.mono e2) rxs)
def mTup (a : M (List Dat)) : M Dat := fun δ μ => (a δ μ).bind fun ds μ1 => if ds.length ≤ sizeLine then .ok (.tup ds) μ1 else .stuck
theorem sim_tup {t : TA} {a : M (List Dat)} (h : SimA c W t a) : SimE c W (tTup t) (mTup a) := by
  intro as0 H0 σ δ μ0 st0 env0 Q w0
  refine h as0 H0 σ δ μ0 st0 env0 _ ((want_bind (R1 := RelAll c) w0).imp ?_)
  rintro vs H ⟨as, μ, ds, e0, st, r, w⟩
  have env := env0.mono e0
  by_cases hz : ds.length ≤ sizeLine
  · rw [if_pos hz] at w
    exact ⟨by rw [r.length]; exact hz, fun p hp => w _ as _ (ext_new hp) (st.tup hp) (.tup (.inl upd_same) (r.mono (ext_new hp)))⟩
  · rw [if_neg hz] at w
    exact w.elim
def allocR (x : Cell) (μ : Store) : Res Dat := .ok (.cell μ.length) (μ ++ [x])
def mLst (a : M (List Dat)) : M Dat := fun δ μ => (a δ μ).bind fun ds μ1 => if ds.length ≤ sizeLine then allocR (.lst ds) μ1 else .stuck
theorem sim_lst {t : TA} {a : M (List Dat)} (h : SimA c W t a) : SimE c W (tLst t) (mLst a) := by
  intro as0 H0 σ δ μ0 st0 env0 Q w0
  refine h as0 H0 σ δ μ0 st0 env0 _ ((want_bind (R1 := RelAll c) w0).imp ?_)
  rintro vs H ⟨as, μ, ds, e0, st, r, w⟩
  have env := env0.mono e0
  by_cases hz : ds.length ≤ sizeLine
  · rw [if_pos hz] at w
    exact ⟨by rw [r.length]; exact hz, fun p hp => w _ _ _ (ext_alloc hp) (st.alloc hp ⟨vs, upd_same, r.mono (ext_alloc hp)⟩) (rel_alloc st)⟩
  · rw [if_neg hz] at w
    exact w.elim
def mDNew : M Dat := fun _ μ => allocR (.dict []) μ
theorem sim_dnew : SimE c W tDNewK mDNew := fun as H σ δ μ st env Q w => fun p hp => w _ _ _ (ext_alloc hp) (st.alloc hp ⟨[], upd_same, .nil⟩) (rel_alloc st)
/-- a key -/
def keyD : Dat → Option Key
  | .int i => some (.inl i)
  | .str s => some (.inr s)
  | _ => none
theorem keyD_of {v : V} {d : Dat} {k : Key} (r : Rel c as H v d) (h : keyD d = some k) : v = kV k := by
  cases r <;> first | (cases h; rfl) | cases h
def lookD (kvs : List (Key × Dat)) (k : Key) : Option Dat := (kvs.find? fun kv => decide (kv.1 = k)).map (·.2)
def putD (kvs : List (Key × Dat)) (k : Key) (v : Dat) : List (Key × Dat) :=
  if (kvs.any fun kv => decide (kv.1 = k)) = true then kvs.map (fun kv => if kv.1 = k then (kv.1, v) else kv) else kvs ++ [(k, v)]
def mergeD (kvs more : List (Key × Dat)) : List (Key × Dat) := more.foldl (fun acc kv => putD acc kv.1 kv.2) kvs
theorem RelKV.any {ps : List (Key × V)} {kvs : List (Key × Dat)} (r : RelKV c as H ps kvs) (k : Key) : (ps.any fun kv => decide (kv.1 = k)) = kvs.any fun kv => decide (kv.1 = k) := by
  induction r with
  | nil => rfl
  | cons h t ih => rw [List.any_cons, List.any_cons, h.1, ih]
theorem RelKV.look {ps : List (Key × V)} {kvs : List (Key × Dat)} (r : RelKV c as H ps kvs) {k : Key} {d : Dat} (h : lookD kvs k = some d) : ∃ v, valV ps k = some v ∧ Rel c as H v d := by
  induction r with
  | nil => cases h
  | @cons p q ps qs h1 t ih =>
    unfold lookD at h
    rw [List.find?_cons] at h
    by_cases e : q.1 = k
    · rw [decide_eq_true e] at h
      cases h
      exact ⟨p.2, valV_pos (h1.1.trans e), h1.2⟩
    · rw [decide_eq_false e] at h
      obtain ⟨v, h2, h3⟩ := ih h
      exact ⟨v, by rw [valV_neg (by rw [h1.1]; exact e)]; exact h2, h3⟩
theorem RelKV.lookN {ps : List (Key × V)} {kvs : List (Key × Dat)} (r : RelKV c as H ps kvs) {k : Key} (h : lookD kvs k = none) : valV ps k = none := by
  induction r with
  | nil => rfl
  | @cons p q ps qs h1 t ih =>
    unfold lookD at h
    rw [List.find?_cons] at h
    by_cases e : q.1 = k
    · rw [decide_eq_true e] at h
      cases h
    · rw [decide_eq_false e] at h
      rw [valV_neg (by rw [h1.1]; exact e)]
      exact ih h
theorem Paired.append_ {α β : Type} {F : α → β → Prop} : ∀ {l l' : List α} {m m' : List β}, Paired F l m → Paired F l' m' → Paired F (l ++ l') (m ++ m')
  | _, _, _, _, .nil, s => s
  | _, _, _, _, .cons r t, s => .cons r (Paired.append_ t s)
theorem RelKV.put {ps : List (Key × V)} {kvs : List (Key × Dat)} (r : RelKV c as H ps kvs) {k : Key} {v : V} {d : Dat} (h : Rel c as H v d) : RelKV c as H (putK ps k v) (putD kvs k d) := by
  unfold putK putD
  rw [r.any k]
  by_cases e : (kvs.any fun kv => decide (kv.1 = k)) = true
  · rw [if_pos e, if_pos e]
    clear e
    induction r with
    | nil => exact .nil
    | @cons p q ps qs h1 t ih =>
      refine .cons ?_ ih
      show (if p.1 = k then (p.1, v) else p).1 = (if q.1 = k then (q.1, d) else q).1 ∧ Rel c as H (if p.1 = k then (p.1, v) else p).2 (if q.1 = k then (q.1, d) else q).2
      by_cases z : q.1 = k
      · rw [if_pos (h1.1.trans z), if_pos z]
        exact ⟨h1.1, h⟩
      · rw [if_neg (show ¬ p.1 = k by rw [h1.1]; exact z), if_neg z]
        exact h1
  · rw [if_neg e, if_neg e]
    exact Paired.append_ r (.cons ⟨rfl, h⟩ .nil)
theorem RelKV.merge : ∀ {more : List (Key × V)} {mD : List (Key × Dat)} {ps : List (Key × V)} {kvs : List (Key × Dat)}, RelKV c as H more mD → RelKV c as H ps kvs → RelKV c as H (mergeK ps more) (mergeD kvs mD)
  | _, _, _, _, .nil, r => r
  | _, _, ps, kvs, @Paired.cons _ _ _ p q _ _ h t, r => by
    have z := RelKV.merge t (RelKV.put r (k := p.1) h.2)
    show RelKV c as H (mergeK (putK ps p.1 p.2) _) (mergeD (putD kvs q.1 q.2) _)
    rw [← h.1]
    exact z
theorem RelKV.length {ps : List (Key × V)} {kvs : List (Key × Dat)} (r : RelKV c as H ps kvs) : ps.length = kvs.length := Paired.length r
def mPairs : List (M Dat × M Dat) → M (List (Key × Dat))
  | [] => fun _ μ => .ok [] μ
  | (a, b) :: r => fun δ μ => (a δ μ).bind fun x μ1 => (b δ μ1).bind fun y μ2 => (mPairs r δ μ2).bind fun kvs μ3 => match keyD x with
    | some k => .ok ((k, y) :: kvs) μ3
    | none => .stuck
def RelPs (c : Cfg) (as : List Addr) (H : Hp) (ps : List (V × V)) (kvs : List (Key × Dat)) : Prop := ∃ qs : List (Key × V), ps = qs.map (fun kv => (kV kv.1, kv.2)) ∧ RelKV c as H qs kvs
def SimPs (c : Cfg) (W : WX) (trs : List (TE × TE)) (ms : List (M Dat × M Dat)) : Prop := Sim c W (RelPs c) (tPairs trs) (mPairs ms)
theorem simp_nil : SimPs c W [] [] := fun as H σ δ μ st env Q w => w [] as H .refl st ⟨[], rfl, .nil⟩
theorem simp_cons {tk tv : TE} {trs : List (TE × TE)} {a b : M Dat} {ms : List (M Dat × M Dat)} (ha : SimE c W tk a) (hb : SimE c W tv b) (hr : SimPs c W trs ms) : SimPs c W ((tk, tv) :: trs) ((a, b) :: ms) := by
  intro as H σ δ μ st env Q w
  refine ha as H σ δ μ st env _ ((want_bind (R1 := Rel c) w).imp ?_)
  rintro v H1 ⟨as1, μ1, x, e, s1, rx, w1⟩
  refine hb as1 H1 σ δ μ1 s1 (env.mono e) _ ((want_bind (R1 := Rel c) w1).imp ?_)
  rintro u H2 ⟨as2, μ2, y, e2, s2, ry, w2⟩
  refine hr as2 H2 σ δ μ2 s2 ((env.mono e).mono e2) _ ((want_bind (R1 := RelPs c) w2).imp ?_)
  rintro ps H3 ⟨as3, μ3, kvs, e3, s3, ⟨qs, eq, rq⟩, w3⟩
  split at w3
  · rename_i k hk
    have ev := keyD_of rx hk
    subst ev
    refine w3 _ as3 H3 .refl s3 ⟨(k, u) :: qs, ?_, .cons ⟨rfl, ry.mono e3⟩ rq⟩
    rw [List.map_cons, eq]
  · exact w3.elim
def mDisp (ms : List (M Dat × M Dat)) : M Dat := fun δ μ => (mPairs ms δ (μ ++ [.dict []])).bind fun kvs μ1 => match μ1[μ.length]? with
  | some (.dict []) => if kvs.length ≤ 15 then .ok (.cell μ.length) (μ1.set μ.length (.dict (mergeD [] kvs))) else .stuck
  | _ => .stuck
theorem sim_disp {trs : List (TE × TE)} {ms : List (M Dat × M Dat)} (h : SimPs c W trs ms) : SimE c W (tDisp trs) (mDisp ms) := by
  intro as H σ δ μ st env Q w p hp
  have s0 := st.alloc (o := .dK []) (x := .dict []) hp ⟨[], upd_same, .nil⟩
  have e0 : Ext as H (as ++ [p]) (upd H p (.dK [])) := ext_alloc hp
  have a0 : (as ++ [p])[μ.length]? = some p := by rw [← st.len, List.getElem?_concat_length]
  refine h _ _ σ δ _ s0 (env.mono e0) _ ((want_bind (R1 := RelPs c) (Want.mono e0 w)).imp ?_)
  rintro ps H2 ⟨as2, μ2, kvs, e2, s2, ⟨qs, eq, rq⟩, w2⟩
  split at w2
  · rename_i hk
    have ha := e2.pre _ _ a0
    obtain ⟨xs, h1, h2⟩ := s2.cell_at hk ha
    have hx : xs = [] := by cases h2; rfl
    subst hx
    by_cases hl : kvs.length ≤ 15
    · rw [if_pos hl] at w2
      have ee := ext_set (o := .dK (mergeK [] qs)) s2 hk ha
      refine ⟨h1, qs, eq, by rw [rq.length]; exact hl, ?_⟩
      exact w2 _ as2 _ ee (s2.set hk ha ⟨_, upd_same, RelKV.merge (rq.mono ee) .nil⟩) (.cell ha)
    · rw [if_neg hl] at w2
      exact w2.elim
  · exact w2.elim
/-! ### dicts read and written -/
def mDGet (a b : M Dat) : M Dat := fun δ μ => (a δ μ).bind fun x μ1 => (b δ μ1).bind fun y μ2 => match x, keyD y with
  | .cell k, some q => match μ2[k]? with
    | some (.dict kvs) => match lookD kvs q with
      | some d => .ok d μ2
      | none => .stuck
    | _ => .stuck
  | _, _ => .stuck
theorem sim_dget {td ty : TE} {a b : M Dat} (ha : SimE c W td a) (hb : SimE c W ty b) : SimE c W (tDGet td ty) (mDGet a b) := by
  intro as H σ δ μ st env Q w
  refine ha as H σ δ μ st env _ ((want_bind (R1 := Rel c) w).imp ?_)
  rintro v H1 ⟨as1, μ1, x, e, s1, rx, w1⟩
  refine hb as1 H1 σ δ μ1 s1 (env.mono e) _ ((want_bind (R1 := Rel c) w1).imp ?_)
  rintro u H2 ⟨as2, μ2, y, e2, s2, ry, w2⟩
  split at w2
  · rename_i k q hq
    split at w2
    · rename_i kvs hk
      split at w2
      · rename_i d hd
        have rx2 := rx.mono e2
        cases rx2 with
        | cell ha2 =>
          obtain ⟨ps, h1, h2⟩ := s2.cell_at hk ha2
          obtain ⟨v', h3, h4⟩ := h2.look hd
          have ev := keyD_of ry hq
          subst ev
          refine ⟨_, v', rfl, ?_, w2 _ as2 H2 .refl s2 h4⟩
          rw [← h3]
          exact DGet.k h1
      · exact w2.elim
    · exact w2.elim
  · exact w2.elim

/-! ### subscripts, slices -/
def ixD {α : Type} (xs : List α) (i : Int) : Option α := atI xs i
def lstAt (μ : Store) : Dat → Option (List Dat)
  | .cell k => match μ[k]? with
    | some (.lst ds) => some ds
    | _ => none
  | .ro ns => some (ns.map Dat.int)
  | _ => none
theorem relInts : ∀ ns : List Int, RelAll c as H (ns.map V.int) (ns.map Dat.int)
  | [] => .nil
  | n :: r => .cons (.int n) (relInts r)
theorem lstAt_of {v : V} {d : Dat} {ds : List Dat} (st : StH c as H μ) (r : Rel c as H v d) (h : lstAt μ d = some ds) : ∃ a xs, v = .ref a ∧ SqL c.K H a xs ∧ RelAll c as H xs ds := by
  unfold lstAt at h
  split at h
  · split at h
    · rename_i k ds' hk
      cases h
      cases r with
      | cell ha =>
        obtain ⟨xs, h1, h2⟩ := st.cell_at hk ha
        exact ⟨_, xs, rfl, SqL.of h1, h2⟩
    · cases h
  · cases h
    cases r with
    | ro hl => exact ⟨_, _, rfl, hl.sq, relInts _⟩
  · cases h
theorem atI_rel {vs : List V} {ds : List Dat} {i : Int} {d : Dat} (r : RelAll c as H vs ds) (h : atI ds i = some d) : ∃ v, atI vs i = some v ∧ Rel c as H v d := by
  unfold atI at h ⊢
  rw [r.length]
  cases e : ixN ds.length i with
  | none => rw [e] at h; cases h
  | some j =>
    rw [e] at h
    exact r.get h
def fIxL : F2 := fun x y μ => match lstAt μ x, y with
  | some ds, .int i => match atI ds i with
    | some d => .ok d μ
    | none => .stuck
  | _, _ => .stuck
theorem simr_ixL : SimR c (rIxL c.K) fIxL := by
  intro as H μ v w x y st rx ry σ W Q h
  unfold fIxL at h
  split at h
  · rename_i ds i hd
    split at h
    · rename_i d he
      cases ry
      obtain ⟨a, xs, rfl, h1, h2⟩ := lstAt_of st rx hd
      obtain ⟨u, h3, h4⟩ := atI_rel h2 he
      exact ⟨a, xs, i, u, rfl, rfl, h1, h3, h _ as H .refl st h4⟩
    · exact h.elim
  · exact h.elim
def fIxT : F2 := fun x y μ => match x, y with
  | .tup ds, .int i => match atI ds i with
    | some d => .ok d μ
    | none => .stuck
  | _, _ => .stuck
theorem simr_ixT : SimR c (rIxT c.K) fIxT := by
  intro as H μ v w x y st rx ry σ W Q h
  unfold fIxT at h
  split at h
  · rename_i ds i
    split at h
    · rename_i d he
      cases ry
      cases rx with
      | tup h1 h2 =>
        obtain ⟨u, h3, h4⟩ := atI_rel h2 he
        exact ⟨_, _, i, u, rfl, rfl, h1.sq, h3, h _ as H .refl st h4⟩
    · exact h.elim
  · exact h.elim
def fIxS : F2 := fun x y μ => match x, y with
  | .str z, .int i => if z.length ≤ sizeLine then match atI z.cps.toList i with
    | some q => .ok (.str ⟨#[q]⟩) μ
    | none => .stuck else .stuck
  | _, _ => .stuck
theorem simr_ixS : SimR c rIxS fIxS := by
  intro as H μ v w x y st rx ry σ W Q h
  unfold fIxS at h
  split at h
  · rename_i z i
    split at h
    · rename_i hz
      split at h
      · rename_i q he
        cases ry
        cases rx
        exact ⟨z, i, q, rfl, rfl, hz, he, h _ as H .refl st (.str _)⟩
      · exact h.elim
    · exact h.elim
  · exact h.elim
abbrev F3 := Dat → Option Int → Option Int → Store → Res Dat
def moNone : M (Option Int) := fun _ μ => .ok none μ
def moPart (a : M Dat) : M (Option Int) := fun δ μ => (a δ μ).bind fun x μ1 => match x with
  | .int i => .ok (some i) μ1
  | _ => .stuck
abbrev SimO (c : Cfg) (W : WX) (t : TO) (m : M (Option Int)) : Prop := Sim c W (fun _ _ b d => b = d) t m
theorem sim_noPart : SimO c W tNoPart moNone := fun as H σ δ μ st env Q w => w _ as H .refl st rfl
theorem sim_part {t : TE} {a : M Dat} (h : SimE c W t a) : SimO c W (tPart t) (moPart a) := by
  intro as0 H0 σ δ μ0 st0 env0 Q w0
  refine h as0 H0 σ δ μ0 st0 env0 _ ((want_bind (R1 := Rel c) w0).imp ?_)
  rintro v H ⟨as, μ, x, e0, st, r, w⟩
  have env := env0.mono e0
  split at w
  · cases r
    exact ⟨_, rfl, w _ as H .refl st rfl⟩
  · exact w.elim
def SimSl (c : Cfg) (r : V → Option Int → Option Int → Hp → VK → Prop) (f : F3) : Prop :=
  ∀ as H μ v x lo hi, StH c as H μ → Rel c as H v x → ∀ σ W Q, Want c (Rel c) (f x lo hi μ) as H σ Q W → r v lo hi H Q
def mSl (f : F3) (a : M Dat) (l h : M (Option Int)) : M Dat := fun δ μ => (a δ μ).bind fun x μ1 => (l δ μ1).bind fun lo μ2 => (h δ μ2).bind fun hi μ3 => f x lo hi μ3
theorem sim_sl {r : V → Option Int → Option Int → Hp → VK → Prop} {f : F3} {te : TE} {tl th : TO} {a : M Dat} {l h : M (Option Int)} (hr : SimSl c r f) (ha : SimE c W te a) (hl : SimO c W tl l) (hh : SimO c W th h) : SimE c W (tSl r te tl th) (mSl f a l h) := by
  intro as H σ δ μ st env Q w
  refine ha as H σ δ μ st env _ ((want_bind (R1 := Rel c) w).imp ?_)
  rintro v H1 ⟨as1, μ1, x, e, s1, rx, w1⟩
  refine hl as1 H1 σ δ μ1 s1 (env.mono e) _ ((want_bind (R1 := fun _ _ b d => b = d) w1).imp ?_)
  rintro lo H2 ⟨as2, μ2, y, e2, s2, ry, w2⟩
  refine hh as2 H2 σ δ μ2 s2 ((env.mono e).mono e2) _ ((want_bind (R1 := fun _ _ b d => b = d) w2).imp ?_)
  rintro hi H3 ⟨as3, μ3, z, e3, s3, rz, w3⟩
  subst ry
  subst rz
  exact hr as3 H3 μ3 v x lo hi s3 (rx.mono (e2.trans e3)) σ W Q w3
def cutD {α : Type} (xs : List α) (lo hi : Option Int) : List α := (xs.drop (HT.sIx xs.length 0 lo)).take (HT.sIx xs.length xs.length hi - HT.sIx xs.length 0 lo)
theorem cut_rel {vs : List V} {ds : List Dat} (r : RelAll c as H vs ds) (lo hi : Option Int) : RelAll c as H (cutV vs lo hi) (cutD ds lo hi) := by
  unfold cutV cutD
  rw [r.length]
  exact (r.drop _).take _
def fSlS : F3 := fun x lo hi μ => match x with
  | .str z => if z.length ≤ sizeLine then .ok (.str (cutS z lo hi)) μ else .stuck
  | _ => .stuck
theorem sims_str : SimSl c rSlS fSlS := by
  intro as H μ v x lo hi st rx σ W Q h
  unfold fSlS at h
  split at h
  · split at h
    · rename_i hz
      cases rx
      exact ⟨_, rfl, hz, h _ as H .refl st (.str _)⟩
    · exact h.elim
  · exact h.elim
def fSlT : F3 := fun x lo hi μ => match x with
  | .tup ds => .ok (.tup (cutD ds lo hi)) μ
  | _ => .stuck
theorem cutD_whole {α : Type} {xs : List α} {lo hi : Option Int} (h : HT.sIx xs.length 0 lo = 0 ∧ HT.sIx xs.length xs.length hi = xs.length) : cutD xs lo hi = xs := by
  unfold cutD
  rw [h.1, h.2, List.drop_zero, Nat.sub_zero, List.take_length]
theorem sims_tup : SimSl c (rSlA c.K) fSlT := by
  intro as H μ v x lo hi st rx σ W Q h
  unfold fSlT at h
  split at h
  · cases rx with
    | @tup a xs ds h1 h2 =>
      refine ⟨a, xs, rfl, h1.sq, fun e => ?_, fun _ p hp => ?_⟩
      · rw [h2.length] at e
        rw [cutD_whole e] at h
        exact h _ as H .refl st (.tup h1 h2)
      · exact h _ as _ (ext_new hp) (st.tup hp) (.tup (.inl upd_same) ((cut_rel h2 lo hi).mono (ext_new hp)))
  · exact h.elim
def fSlL : F3 := fun x lo hi μ => match lstAt μ x with
  | some ds => allocR (.lst (cutD ds lo hi)) μ
  | none => .stuck
theorem sims_lst : SimSl c (rSlL c.K) fSlL := by
  intro as H μ v x lo hi st rx σ W Q h
  unfold fSlL at h
  split at h
  · rename_i ds hd
    obtain ⟨a, xs, rfl, h1, h2⟩ := lstAt_of st rx hd
    exact ⟨a, xs, rfl, h1, fun p hp => h _ _ _ (ext_alloc hp) (st.alloc hp ⟨_, upd_same, (cut_rel h2 lo hi).mono (ext_alloc hp)⟩) (rel_alloc st)⟩
  · exact h.elim

/-! ### more operators -/
def fAddS : F2 := fun x y μ => match x, y with
  | .str i, .str j => if i.length + j.length ≤ sizeLine then .ok (.str (i ++ j)) μ else .stuck
  | _, _ => .stuck
theorem simr_addS : SimR c (fun x y H Q => ∃ i j, x = .str i ∧ y = .str j ∧ i.length + j.length ≤ sizeLine ∧ Q (.str (i ++ j)) H) fAddS := by
  intro as H μ v w x y st rx ry σ W Q h
  unfold fAddS at h
  split at h
  · split at h
    · rename_i hz
      cases rx
      cases ry
      exact ⟨_, _, rfl, rfl, hz, h _ as H .refl st (.str _)⟩
    · exact h.elim
  · exact h.elim
def fCatT : F2 := fun x y μ => match x, y with
  | .tup a, .tup b => if a.length + b.length ≤ sizeLine then .ok (.tup (a ++ b)) μ else .stuck
  | _, _ => .stuck
theorem simr_catT : SimR c (rCatA c.K) fCatT := by
  intro as H μ v w x y st rx ry σ W Q h
  unfold fCatT at h
  split at h
  · rename_i da db
    split at h
    · rename_i hz
      cases rx with
      | @tup a xs _ h1 h2 =>
        cases ry with
        | @tup b ys _ h3 h4 =>
          refine ⟨a, b, xs, ys, rfl, rfl, h1.sq, h3.sq, by rw [h2.length, h4.length]; exact hz, fun e => ?_, fun _ e => ?_, fun _ _ p hp => ?_⟩
          · subst e
            have hd : da = [] := by cases h2; rfl
            subst hd
            exact h _ as H .refl st (.tup h3 h4)
          · subst e
            have hd : db = [] := by cases h4; rfl
            subst hd
            rw [List.append_nil] at h
            exact h _ as H .refl st (.tup h1 h2)
          · exact h _ as _ (ext_new hp) (st.tup hp) (.tup (.inl upd_same) ((h2.append h4).mono (ext_new hp)))
    · exact h.elim
  · exact h.elim
/-- two changeable lists joined -/
def celL (μ : Store) : Dat → Option (List Dat)
  | .cell k => match μ[k]? with
    | some (.lst ds) => some ds
    | _ => none
  | _ => none
theorem celL_of {v : V} {d : Dat} {ds : List Dat} (st : StH c as H μ) (r : Rel c as H v d) (h : celL μ d = some ds) : ∃ k a xs, d = .cell k ∧ v = .ref a ∧ μ[k]? = some (.lst ds) ∧ as[k]? = some a ∧ H a = some (.lst xs) ∧ RelAll c as H xs ds := by
  unfold celL at h
  split at h
  · split at h
    · rename_i ds' hk
      cases h
      cases r with
      | cell ha =>
        obtain ⟨xs, h1, h2⟩ := st.cell_at hk ha
        exact ⟨_, _, xs, rfl, rfl, hk, ha, h1, h2⟩
    · cases h
  · cases h
def fCat : F2 := fun x y μ => match celL μ x, celL μ y with
  | some a, some b => if a.length + b.length ≤ sizeLine then allocR (.lst (a ++ b)) μ else .stuck
  | _, _ => .stuck
theorem simr_cat : SimR c rCat fCat := by
  intro as H μ v w x y st rx ry σ W Q h
  unfold fCat at h
  split at h
  · rename_i da db ea eb
    split at h
    · rename_i hz
      obtain ⟨_, a, xs, _, rfl, _, _, h1, h2⟩ := celL_of st rx ea
      obtain ⟨_, b, ys, _, rfl, _, _, h3, h4⟩ := celL_of st ry eb
      exact ⟨a, b, xs, ys, rfl, rfl, h1, h3, by rw [h2.length, h4.length]; exact hz, fun p hp => h _ _ _ (ext_alloc hp) (st.alloc hp ⟨_, upd_same, (h2.append h4).mono (ext_alloc hp)⟩) (rel_alloc st)⟩
    · exact h.elim
  · exact h.elim
theorem RelAll.rep {vs : List V} {ds : List Dat} (r : RelAll c as H vs ds) : ∀ n : Nat, RelAll c as H (List.replicate n vs).flatten (List.replicate n ds).flatten
  | 0 => .nil
  | n + 1 => by
    rw [List.replicate_succ, List.replicate_succ, List.flatten_cons, List.flatten_cons]
    exact r.append (RelAll.rep r n)
def fRepT : F2 := fun x y μ => match x, y with
  | .tup ds, .int k => if ds.length ≠ 0 ∧ 2 ≤ k ∧ k ≤ 1000 ∧ ds.length ≤ 1000 then .ok (.tup (List.replicate k.toNat ds).flatten) μ else .stuck
  | _, _ => .stuck
theorem simr_repT : SimR c (rRepT c.K) fRepT := by
  intro as H μ v w x y st rx ry σ W Q h
  unfold fRepT at h
  split at h
  · split at h
    · rename_i hz
      cases ry
      cases rx with
      | @tup a xs ds h1 h2 =>
        have hl := h2.length
        refine ⟨a, _, xs, rfl, rfl, h1.sq, fun e => ?_, hz.2.1, hz.2.2.1, by omega, fun p hp => ?_⟩
        · subst e
          exact hz.1 (by rw [← hl]; rfl)
        · exact h _ as _ (ext_new hp) (st.tup hp) (.tup (.inl upd_same) ((h2.rep _).mono (ext_new hp)))
    · exact h.elim
  · exact h.elim
end
end Nh

namespace Nh
open PySem PySem.Spec PyProof.Rows L2
section
variable {c : Cfg} {as as' : List Addr} {H H' : Hp} {σ : L2.St} {δ : Env} {μ : Store} {α β γ ε : Type} {W : WX}
/-! ### built-in calls -/
abbrev FA := List Dat → Store → Res Dat
def SimC (c : Cfg) (r : List V → Hp → VK → Prop) (f : FA) : Prop :=
  ∀ as H μ vs ds, StH c as H μ → RelAll c as H vs ds → ∀ σ W Q, Want c (Rel c) (f ds μ) as H σ Q W → r vs H Q
def mCB (f : FA) (a : M (List Dat)) : M Dat := fun δ μ => (a δ μ).bind fun ds μ1 => f ds μ1
theorem sim_cb {r : List V → Hp → VK → Prop} {f : FA} {t : TA} {a : M (List Dat)} (hr : SimC c r f) (h : SimA c W t a) : SimE c W (tCB r t) (mCB f a) := by
  intro as H σ δ μ st env Q w
  refine h as H σ δ μ st env _ ((want_bind (R1 := RelAll c) w).imp ?_)
  rintro vs H1 ⟨as1, μ1, ds, e, s1, rs, w1⟩
  exact hr as1 H1 μ1 vs ds s1 rs σ W Q w1
theorem rel1 {vs : List V} {d : Dat} (r : RelAll c as H vs [d]) : ∃ v, vs = [v] ∧ Rel c as H v d := by
  cases r with
  | cons h t => cases t; exact ⟨_, rfl, h⟩
theorem rel2 {vs : List V} {d e : Dat} (r : RelAll c as H vs [d, e]) : ∃ v w, vs = [v, w] ∧ Rel c as H v d ∧ Rel c as H w e := by
  cases r with
  | cons h t =>
    cases t with
    | cons h2 t2 => cases t2; exact ⟨_, _, rfl, h, h2⟩
def lenD (μ : Store) (d : Dat) : Option Nat := match d with
  | .str y => if y.length ≤ sizeLine then some y.length else none
  | .tup ds => some ds.length
  | d => (lstAt μ d).map List.length
theorem lenD_of {v : V} {d : Dat} {n : Nat} (st : StH c as H μ) (r : Rel c as H v d) (h : lenD μ d = some n) : LenV c.K v H n := by
  unfold lenD at h
  split at h
  · split at h
    · rename_i hy
      cases r
      exact ⟨hy, (Option.some.inj h).symm⟩
    · cases h
  · cases r with
    | tup h1 h2 => exact .inr ⟨_, h1.sq, by rw [h2.length]; exact (Option.some.inj h).symm⟩
  · cases hd : lstAt μ d with
    | none => rw [hd] at h; cases h
    | some ds =>
      rw [hd] at h
      obtain ⟨a, xs, rfl, h1, h2⟩ := lstAt_of st r hd
      exact .inl ⟨xs, h1, by rw [h2.length]; exact (Option.some.inj h).symm⟩
def fLen : FA := fun ds μ => match ds with
  | [d] => match lenD μ d with
    | some n => .ok (.int n) μ
    | none => .stuck
  | _ => .stuck
theorem simc_len : SimC c (fun xs H Q => ∃ x n, xs = [x] ∧ LenV c.K x H n ∧ Q (.int n) H) fLen := by
  intro as H μ vs ds st rs σ W Q h
  unfold fLen at h
  split at h
  · split at h
    · rename_i n hn
      obtain ⟨v, rfl, r⟩ := rel1 rs
      exact ⟨v, n, rfl, lenD_of st r hn, h _ as H .refl st (.int _)⟩
    · exact h.elim
  · exact h.elim
def seqD (μ : Store) (d : Dat) : Option (List Dat) := match d with
  | .tup ds => some ds
  | d => lstAt μ d
theorem seqD_of {v : V} {d : Dat} {ds : List Dat} (st : StH c as H μ) (r : Rel c as H v d) (h : seqD μ d = some ds) : ∃ a xs, v = .ref a ∧ (SqL c.K H a xs ∨ SqT c.K H a xs) ∧ RelAll c as H xs ds := by
  unfold seqD at h
  split at h
  · cases h
    cases r with
    | tup h1 h2 => exact ⟨_, _, rfl, .inr h1.sq, h2⟩
  · obtain ⟨a, xs, e, h1, h2⟩ := lstAt_of st r h
    exact ⟨a, xs, e, .inl h1, h2⟩
def fLenQ : FA := fun ds μ => match ds with
  | [d] => match seqD μ d with
    | some es => .ok (.int es.length) μ
    | none => .stuck
  | _ => .stuck
theorem simc_lenQ : SimC c (fun xs H Q => ∃ p ys, xs = [.ref p] ∧ (SqL c.K H p ys ∨ SqT c.K H p ys) ∧ Q (.int ys.length) H) fLenQ := by
  intro as H μ vs ds st rs σ W Q h
  unfold fLenQ at h
  split at h
  · split at h
    · rename_i es hn
      obtain ⟨v, rfl, r⟩ := rel1 rs
      obtain ⟨a, xs, rfl, h1, h2⟩ := seqD_of st r hn
      refine ⟨a, xs, rfl, h1, ?_⟩
      rw [h2.length]
      exact h _ as H .refl st (.int _)
    · exact h.elim
  · exact h.elim
def blsD : List Dat → Option (List Bool)
  | [] => some []
  | .bl b :: r => (blsD r).map (b :: ·)
  | _ :: _ => none
theorem blsD_of : ∀ {ds : List Dat} {bs : List Bool} {vs : List V}, blsD ds = some bs → RelAll c as H vs ds → vs = bs.map V.bl
  | [], _, _, h, r => by cases h; cases r; rfl
  | .bl b :: ds, bs, _, h, r => by
    cases r with
    | cons h1 t =>
      cases h1
      unfold blsD at h
      cases e : blsD ds with
      | none => rw [e] at h; cases h
      | some q =>
        rw [e] at h
        cases h
        rw [blsD_of e t]
        rfl
  | .non :: _, _, _, h, _ => by cases h
  | .int _ :: _, _, _, h, _ => by cases h
  | .str _ :: _, _, _, h, _ => by cases h
  | .tup _ :: _, _, _, h, _ => by cases h
  | .cell _ :: _, _, _, h, _ => by cases h
  | .ro _ :: _, _, _, h, _ => by cases h
  | .ty _ :: _, _, _, h, _ => by cases h
  | .cls _ :: _, _, _, h, _ => by cases h
def fAll : FA := fun ds μ => match ds with
  | [d] => match (lstAt μ d).bind blsD with
    | some bs => .ok (.bl (bs.all id)) μ
    | none => .stuck
  | _ => .stuck
def fAny : FA := fun ds μ => match ds with
  | [d] => match (lstAt μ d).bind blsD with
    | some bs => .ok (.bl (bs.any id)) μ
    | none => .stuck
  | _ => .stuck
theorem simc_all : SimC c (rAll c.K) fAll := by
  intro as H μ vs ds st rs σ W Q h
  unfold fAll at h
  split at h
  · rename_i d
    split at h
    · rename_i bs hb
      obtain ⟨v, rfl, r⟩ := rel1 rs
      cases hd : lstAt μ d with
      | none => rw [hd] at hb; cases hb
      | some es =>
        rw [hd] at hb
        obtain ⟨a, xs, rfl, h1, h2⟩ := lstAt_of st r hd
        have e := blsD_of hb h2
        subst e
        exact ⟨a, bs, rfl, h1, h _ as H .refl st (.bl _)⟩
    · exact h.elim
  · exact h.elim
theorem simc_any : SimC c (rAny c.K) fAny := by
  intro as H μ vs ds st rs σ W Q h
  unfold fAny at h
  split at h
  · rename_i d
    split at h
    · rename_i bs hb
      obtain ⟨v, rfl, r⟩ := rel1 rs
      cases hd : lstAt μ d with
      | none => rw [hd] at hb; cases hb
      | some es =>
        rw [hd] at hb
        obtain ⟨a, xs, rfl, h1, h2⟩ := lstAt_of st r hd
        have e := blsD_of hb h2
        subst e
        exact ⟨a, bs, rfl, h1, h _ as H .refl st (.bl _)⟩
    · exact h.elim
  · exact h.elim
/-- the built-in type of a datum -/
def kindD (μ : Store) : Dat → Option String
  | .non => some "NoneType"
  | .bl _ => some "bool"
  | .int _ => some "int"
  | .str _ => some "str"
  | .tup _ => some "tuple"
  | .ro _ => some "list"
  | .cell k => match μ[k]? with
    | some (.lst _) => some "list"
    | some (.dict _) => some "dict"
    | _ => none
  | _ => none
theorem kindD_of {v : V} {d : Dat} {n : String} (st : StH c as H μ) (r : Rel c as H v d) (h : kindD μ d = some n) : TyX c.K H v (.type n) := by
  cases r with
  | non => cases h; exact .base .non
  | bl b => cases h; exact .base (.bl b)
  | int i => cases h; exact .base (.int i)
  | str y => cases h; exact .base (.str y)
  | tup h1 h2 =>
    cases h
    rcases h1 with h1 | ⟨_, o, h1, h3⟩
    · exact .base (.tup h1)
    · exact .kTuple h1 h3
  | ro h1 =>
    cases h
    rcases h1 with ⟨o, h1⟩ | ⟨_, o, h1, h3⟩
    · exact .base (.frz h1)
    · exact .kList h1 h3
  | @cell k a ha =>
    dsimp only [kindD] at h
    split at h
    · rename_i ds hk
      cases h
      obtain ⟨xs, h1, h2⟩ := st.cell_at hk ha
      exact .base (.lst h1)
    · rename_i kvs hk
      cases h
      obtain ⟨xs, h1, h2⟩ := st.cell_at hk ha
      exact .base (.dK h1)
    · cases h
  | ty n => cases h
  | cls n => cases h
def fIsi : FA := fun ds μ => match ds with
  | [d, .ty n] => match (kindD μ d).bind fun k => kitB k n with
    | some b => .ok (.bl b) μ
    | none => .stuck
  | _ => .stuck
theorem simc_isi : SimC c (rIsi c.K) fIsi := by
  intro as H μ vs ds st rs σ W Q h
  unfold fIsi at h
  split at h
  · rename_i d n
    split at h
    · rename_i b hb
      obtain ⟨v, w, rfl, r, rn⟩ := rel2 rs
      cases rn
      cases hd : kindD μ d with
      | none => rw [hd] at hb; cases hb
      | some kd =>
        rw [hd] at hb
        exact ⟨v, .ty n, .type kd, .type n, b, rfl, .ty n, kindD_of st r hd, kit_ty hb, h _ as H .refl st (.bl _)⟩
    · exact h.elim
  · exact h.elim
def fMax2 : FA := fun ds μ => match ds with
  | [.int i, .int j] => .ok (.int (if j > i then j else i)) μ
  | _ => .stuck
theorem simc_max2 : SimC c (fun xs H Q => ∃ i j, xs = [.int i, .int j] ∧ Q (.int (if j > i then j else i)) H) fMax2 := by
  intro as H μ vs ds st rs σ W Q h
  unfold fMax2 at h
  split at h
  · obtain ⟨v, w, rfl, r, rn⟩ := rel2 rs
    cases r
    cases rn
    exact ⟨_, _, rfl, h _ as H .refl st (.int _)⟩
  · exact h.elim
def fMin2 : FA := fun ds μ => match ds with
  | [.int i, .int j] => .ok (.int (if j < i then j else i)) μ
  | _ => .stuck
theorem simc_min2 : SimC c (fun xs H Q => ∃ i j, xs = [.int i, .int j] ∧ Q (.int (if j < i then j else i)) H) fMin2 := by
  intro as H μ vs ds st rs σ W Q h
  unfold fMin2 at h
  split at h
  · obtain ⟨v, w, rfl, r, rn⟩ := rel2 rs
    cases r
    cases rn
    exact ⟨_, _, rfl, h _ as H .refl st (.int _)⟩
  · exact h.elim
def fInt1 : FA := fun ds μ => match ds with
  | [.int i] => .ok (.int i) μ
  | [.bl b] => .ok (.int (if b then 1 else 0)) μ
  | _ => .stuck
theorem simc_int1 : SimC c (fun xs H Q => (∃ i, xs = [.int i] ∧ Q (.int i) H) ∨ ∃ k, xs = [.bl k] ∧ Q (.int (if k then 1 else 0)) H) fInt1 := by
  intro as H μ vs ds st rs σ W Q h
  unfold fInt1 at h
  split at h
  · obtain ⟨v, rfl, r⟩ := rel1 rs
    cases r
    exact .inl ⟨_, rfl, h _ as H .refl st (.int _)⟩
  · obtain ⟨v, rfl, r⟩ := rel1 rs
    cases r
    exact .inr ⟨_, rfl, h _ as H .refl st (.int _)⟩
  · exact h.elim
def fTupleOf : FA := fun ds μ => match ds with
  | [d] => match seqD μ d with
    | some es => .ok (.tup es) μ
    | none => .stuck
  | _ => .stuck
theorem simc_tupleOf : SimC c (fun xs H Q => ∃ p ys, xs = [.ref p] ∧ ((SqL c.K H p ys ∧ ∀ l, H l = none → Q (.ref l) (upd H l (.tup ys))) ∨ (SqT c.K H p ys ∧ Q (.ref p) H))) fTupleOf := by
  intro as H μ vs ds st rs σ W Q h
  unfold fTupleOf at h
  split at h
  · rename_i d
    split at h
    · rename_i es he
      obtain ⟨v, rfl, r⟩ := rel1 rs
      unfold seqD at he
      split at he
      · cases he
        cases r with
        | tup h1 h2 => exact ⟨_, _, rfl, .inr ⟨h1.sq, h _ as H .refl st (.tup h1 h2)⟩⟩
      · obtain ⟨a, xs, rfl, h1, h2⟩ := lstAt_of st r he
        exact ⟨a, xs, rfl, .inl ⟨h1, fun p hp => h _ as _ (ext_new hp) (st.tup hp) (.tup (.inl upd_same) (h2.mono (ext_new hp)))⟩⟩
    · exact h.elim
  · exact h.elim
def fListOf : FA := fun ds μ => match ds with
  | [d] => match seqD μ d with
    | some es => allocR (.lst es) μ
    | none => .stuck
  | _ => .stuck
theorem simc_listOf : SimC c (fun xs H Q => ∃ p ys, xs = [.ref p] ∧ (SqL c.K H p ys ∨ SqT c.K H p ys) ∧ ∀ l, H l = none → Q (.ref l) (upd H l (.lst ys))) fListOf := by
  intro as H μ vs ds st rs σ W Q h
  unfold fListOf at h
  split at h
  · split at h
    · rename_i es he
      obtain ⟨v, rfl, r⟩ := rel1 rs
      obtain ⟨a, xs, rfl, h1, h2⟩ := seqD_of st r he
      exact ⟨a, xs, rfl, h1, fun p hp => h _ _ _ (ext_alloc hp) (st.alloc hp ⟨_, upd_same, h2.mono (ext_alloc hp)⟩) (rel_alloc st)⟩
    · exact h.elim
  · exact h.elim
/-! ### methods of texts -/
def SimM1 (c : Cfg) (r : V → List V → Hp → VK → Prop) (f : F2) : Prop :=
  ∀ as H μ z w y, StH c as H μ → Rel c as H w y → ∀ σ W Q, Want c (Rel c) (f (.str z) y μ) as H σ Q W → r (.str z) [w] H Q
def mM1 (f : F2) (a b : M Dat) : M Dat := fun δ μ => (a δ μ).bind fun x μ1 => match x with
  | .str z => (b δ μ1).bind fun y μ2 => f (.str z) y μ2
  | _ => .stuck
theorem sim_m1 {r : V → List V → Hp → VK → Prop} {f : F2} {ta tb : TE} {a b : M Dat} (hr : SimM1 c r f) (ha : SimE c W ta a) (hb : SimE c W tb b) : SimE c W (tM1 r ta tb) (mM1 f a b) := by
  intro as H σ δ μ st env Q w
  refine ha as H σ δ μ st env _ ((want_bind (R1 := Rel c) w).imp ?_)
  rintro v H1 ⟨as1, μ1, x, e, s1, rx, w1⟩
  split at w1
  · cases rx
    refine ⟨⟨_, rfl⟩, hb as1 H1 σ δ μ1 s1 (env.mono e) _ ((want_bind (R1 := Rel c) w1).imp ?_)⟩
    rintro u H2 ⟨as2, μ2, y, e2, s2, ry, w2⟩
    exact hr as2 H2 μ2 _ u y s2 ry σ W Q w2
  · exact w1.elim
def fEndswith : F2 := fun x y μ => match x, y with
  | .str a, .str b => .ok (.bl (Txt.endswith a b)) μ
  | _, _ => .stuck
theorem simm_endswith : SimM1 c (fun x xs H Q => ∃ a b, x = .str a ∧ xs = [.str b] ∧ Q (.bl (Txt.endswith a b)) H) fEndswith := by
  intro as H μ z w y st ry σ W Q h
  cases ry with
  | str b => exact ⟨_, _, rfl, rfl, h _ as H .refl st (.bl _)⟩
  | _ => exact False.elim h
theorem relStrs : ∀ ys : List Str, RelAll c as H (ys.map V.str) (ys.map Dat.str)
  | [] => .nil
  | y :: r => .cons (.str y) (relStrs r)
def fSplit : F2 := fun x y μ => match x, y with
  | .str a, .str b => if (b.length == 0) = false ∧ a.length + 2 ≤ sizeLine then allocR (.lst ((Txt.split a b).map Dat.str)) μ else .stuck
  | _, _ => .stuck
theorem simm_split : SimM1 c (fun x xs H Q => ∃ a b, x = .str a ∧ xs = [.str b] ∧ (b.length == 0) = false ∧ a.length + 2 ≤ sizeLine ∧ rNewStrs (Txt.split a b) H Q) fSplit := by
  intro as H μ z w y st ry σ W Q h
  cases ry with
  | str b =>
    dsimp only [fSplit] at h
    split at h
    · rename_i hz
      exact ⟨_, _, rfl, rfl, hz.1, hz.2, fun p hp => h _ _ _ (ext_alloc hp) (st.alloc hp ⟨_, upd_same, relStrs _⟩) (rel_alloc st)⟩
    · exact h.elim
  | _ => exact False.elim h
def strsD : List Dat → Option (List Str)
  | [] => some []
  | .str s :: r => (strsD r).map (s :: ·)
  | _ :: _ => none
theorem strsD_of : ∀ {ds : List Dat} {bs : List Str} {vs : List V}, strsD ds = some bs → RelAll c as H vs ds → vs = bs.map V.str
  | [], _, _, h, r => by cases h; cases r; rfl
  | .str b :: ds, bs, _, h, r => by
    cases r with
    | cons h1 t =>
      cases h1
      unfold strsD at h
      cases e : strsD ds with
      | none => rw [e] at h; cases h
      | some q =>
        rw [e] at h
        cases h
        rw [strsD_of e t]
        rfl
  | .non :: _, _, _, h, _ => by cases h
  | .int _ :: _, _, _, h, _ => by cases h
  | .bl _ :: _, _, _, h, _ => by cases h
  | .tup _ :: _, _, _, h, _ => by cases h
  | .cell _ :: _, _, _, h, _ => by cases h
  | .ro _ :: _, _, _, h, _ => by cases h
  | .ty _ :: _, _, _, h, _ => by cases h
  | .cls _ :: _, _, _, h, _ => by cases h
def fJoin : F2 := fun x y μ => match x, (seqD μ y).bind strsD with
  | .str a, some ys => if (ys.map (·.length)).sum + ys.length * a.length ≤ 16777216 then .ok (.str (Txt.join a ys)) μ else .stuck
  | _, _ => .stuck
theorem simm_join : SimM1 c (fun x xs H Q => ∃ a p, ∃ ys : List Str, x = .str a ∧ xs = [.ref p] ∧ (SqL c.K H p (ys.map V.str) ∨ SqT c.K H p (ys.map V.str)) ∧
    (ys.map (·.length)).sum + ys.length * a.length ≤ 16777216 ∧ Q (.str (Txt.join a ys)) H) fJoin := by
  intro as H μ z w y st ry σ W Q h
  unfold fJoin at h
  split at h
  · rename_i a ys e hy
    cases e
    split at h
    · rename_i hz
      cases hd : seqD μ y with
      | none => rw [hd] at hy; cases hy
      | some es =>
        rw [hd] at hy
        obtain ⟨a, xs, rfl, h1, h2⟩ := seqD_of st ry hd
        have e := strsD_of hy h2
        subst e
        exact ⟨_, a, ys, rfl, rfl, h1, hz, h _ as H .refl st (.str _)⟩
    · exact h.elim
  · exact h.elim
/-! ### methods of lists -/
def SimBM (c : Cfg) (r : V → List V → Hp → VK → Prop) (f : Dat → FA) : Prop :=
  ∀ as H μ v x vs ds, StH c as H μ → Rel c as H v x → RelAll c as H vs ds → ∀ σ W Q, Want c (Rel c) (f x ds μ) as H σ Q W → r v vs H Q
def mBM (f : Dat → FA) (a : M Dat) (b : M (List Dat)) : M Dat := fun δ μ => (a δ μ).bind fun x μ1 => if (lstAt μ1 x).isSome = true then (b δ μ1).bind fun ds μ2 => f x ds μ2 else .stuck
theorem sim_bm {r : V → List V → Hp → VK → Prop} {f : Dat → FA} {to : TE} {t : TA} {a : M Dat} {b : M (List Dat)} (hr : SimBM c r f) (ha : SimE c W to a) (hb : SimA c W t b) : SimE c W (tBM c.K "list" r to t) (mBM f a b) := by
  intro as H σ δ μ st env Q w
  refine ha as H σ δ μ st env _ ((want_bind (R1 := Rel c) w).imp ?_)
  rintro v H1 ⟨as1, μ1, x, e, s1, rx, w1⟩
  split at w1
  · rename_i hs
    obtain ⟨ds, hd⟩ := Option.isSome_iff_exists.mp hs
    obtain ⟨p, xs, rfl, h1, _⟩ := lstAt_of s1 rx hd
    refine ⟨.inl ⟨rfl, xs, h1⟩, hb as1 H1 σ δ μ1 s1 (env.mono e) _ ((want_bind (R1 := RelAll c) w1).imp ?_)⟩
    rintro us H2 ⟨as2, μ2, es, e2, s2, rs, w2⟩
    exact hr as2 H2 μ2 _ x us es s2 (rx.mono e2) rs σ W Q w2
  · exact w1.elim
def fAppend : Dat → FA := fun x ds μ => match x, ds with
  | .cell k, [y] => match μ[k]? with
    | some (.lst es) => if es.length < sizeLine then .ok .non (μ.set k (.lst (es ++ [y]))) else .stuck
    | _ => .stuck
  | _, _ => .stuck
theorem simb_append : SimBM c rAppend fAppend := by
  intro as H μ v x vs ds st rx rs σ W Q h
  unfold fAppend at h
  split at h
  · split at h
    · rename_i k y es hk
      split at h
      · rename_i hz
        obtain ⟨u, rfl, ru⟩ := rel1 rs
        cases rx with
        | @cell _ a ha =>
          obtain ⟨xs, h1, h2⟩ := st.cell_at hk ha
          have ee := ext_set (o := .lst (xs ++ [u])) st hk ha
          exact ⟨a, xs, u, rfl, rfl, h1, by rw [h2.length]; exact hz, h _ as _ ee (st.set hk ha ⟨_, upd_same, (h2.append (.cons ru .nil)).mono ee⟩) .non⟩
      · exact h.elim
    · exact h.elim
  · exact h.elim

/-! ### calls of the program's own defs -/
def spM (c : Cfg) (n : Nat) (f : FA) : Sp := fun vs H Q E => vs.length = n ∧ ∃ as μ ds, StH c as H μ ∧ RelAll c as H vs ds ∧ Want c (Rel c) (f ds μ) as H [] Q (fun cls d _ H => E cls d H)
def mCall (n : Nat) (f : FA) (a : M (List Dat)) : M Dat := fun δ μ => (a δ μ).bind fun ds μ1 => if ds.length = n then f ds μ1 else .stuck
theorem sim_call {n : Nat} {f : FA} {E : XK} {t : TA} {a : M (List Dat)} (hW : ∀ cls σ H, E cls none H → W cls none σ H) (h : SimA c W t a) (hE : ∀ k μ', (∀ ds μ, f ds μ ≠ .raise k μ') ∨ ∀ σ cls H, W cls none σ H → E cls none H) :
    SimE c W (tCall (spM c n f) [] E t) (mCall n f a) := by
  intro as H σ δ μ st env Q w
  refine h as H σ δ μ st env _ ((want_bind (R1 := RelAll c) w).imp ?_)
  rintro vs H1 ⟨as1, μ1, ds, e, s1, rs, w1⟩
  split at w1
  · rename_i hl
    rw [List.append_nil]
    refine ⟨by rw [rs.length]; exact hl, as1, μ1, ds, s1, rs, ?_⟩
    cases hf : f ds μ1 with
    | ok x μ' => rw [hf] at w1; exact w1
    | raise k μ' =>
      rw [hf] at w1
      rcases hE k μ' with z | z
      · exact (z ds μ1 hf).elim
      · exact fun a' H' e' s' => z σ _ _ (w1 a' H' e' s')
    | stuck => rw [hf] at w1; exact w1
  · exact w1.elim
/-- a function that raises nothing: a raise counts as no answer -/
def nr (f : FA) : FA := fun ds μ => match f ds μ with
  | .raise _ _ => .stuck
  | r => r
theorem nr_ne (f : FA) (ds : List Dat) (μ : Store) (k : Nat) (μ' : Store) : nr f ds μ ≠ .raise k μ' := by
  unfold nr
  split
  · exact fun h => nomatch h
  · rename_i h
    exact fun e => h k μ' e
theorem sim_call0 {n : Nat} {f : FA} {t : TA} {a : M (List Dat)} (h : SimA c W t a) : SimE c W (tCall (spM c n (nr f)) [] E0 t) (mCall n (nr f) a) :=
  sim_call (fun _ _ _ z => z.elim) h fun k μ' => .inl fun ds μ => nr_ne f ds μ k μ'
theorem sim_callE {n : Nat} {f : FA} {E : XK} {t : TA} {a : M (List Dat)} (h : SimA c (fun cls d _ H => E cls d H) t a) : SimE c (fun cls d _ H => E cls d H) (tCall (spM c n f) [] E t) (mCall n f a) :=
  sim_call (fun _ _ _ z => z) h fun _ _ => .inr fun _ _ _ z => z
/-- a call within a try's body: what is raised is wished for at the slots -/
theorem sim_callS {n : Nat} {f : FA} {t : TA} {a : M (List Dat)} (h : SimA c W t a) : SimE c W (tCallS (spM c n f) (WE W) t) (mCall n f a) := by
  intro as H σ δ μ st env Q w
  refine h as H σ δ μ st env _ ((want_bind (R1 := RelAll c) w).imp ?_)
  rintro vs H1 ⟨as1, μ1, ds, e, s1, rs, w1⟩
  split at w1
  · rename_i hl
    refine ⟨by rw [rs.length]; exact hl, as1, μ1, ds, s1, rs, ?_⟩
    cases hf : f ds μ1 with
    | ok x μ' => rw [hf] at w1; exact w1
    | raise k μ' => rw [hf] at w1; exact w1
    | stuck => rw [hf] at w1; exact w1
  · exact w1.elim
end
end Nh

namespace Nh
open PySem PySem.Spec PyProof.Rows L2
section
variable {c : Cfg} {as as' : List Addr} {H H' : Hp} {σ : L2.St} {δ : Env} {μ : Store} {α β γ ε : Type} {W : WX}
/-! ### in -/
def fInSign : F2 := fun x y μ => match x, y with
  | .str s, .str z => match s.cps.toList with
    | [q] => .ok (.bl (decide (q ∈ z.cps.toList))) μ
    | _ => .stuck
  | _, _ => .stuck
def fNotInSign : F2 := fun x y μ => match x, y with
  | .str s, .str z => match s.cps.toList with
    | [q] => .ok (.bl (!decide (q ∈ z.cps.toList))) μ
    | _ => .stuck
  | _, _ => .stuck
theorem str_one {s : Str} {q : Nat} (h : s.cps.toList = [q]) : s = ⟨#[q]⟩ := by
  obtain ⟨a⟩ := s
  have e : a = [q].toArray := by
    rw [← Array.toArray_toList (xs := a)]
    exact congrArg List.toArray h
  rw [e]
theorem simr_inSign : SimR c (fun x y H Q => ∃ (c : Nat) (z : Str), x = .str ⟨#[c]⟩ ∧ y = .str z ∧ Q (.bl (decide (c ∈ z.cps.toList))) H) fInSign := by
  intro as H μ v w x y st rx ry σ W Q h
  unfold fInSign at h
  split at h
  · split at h
    · rename_i hq
      cases rx
      cases ry
      rw [str_one hq]
      exact ⟨_, _, rfl, rfl, h _ as H .refl st (.bl _)⟩
    · exact h.elim
  · exact h.elim
theorem simr_notInSign : SimR c (fun x y H Q => ∃ (c : Nat) (z : Str), x = .str ⟨#[c]⟩ ∧ y = .str z ∧ Q (.bl (!decide (c ∈ z.cps.toList))) H) fNotInSign := by
  intro as H μ v w x y st rx ry σ W Q h
  unfold fNotInSign at h
  split at h
  · split at h
    · rename_i hq
      cases rx
      cases ry
      rw [str_one hq]
      exact ⟨_, _, rfl, rfl, h _ as H .refl st (.bl _)⟩
    · exact h.elim
  · exact h.elim
def toVs : List Dat → Option (List V)
  | [] => some []
  | d :: r => match toV d, toVs r with
    | some v, some vs => some (v :: vs)
    | _, _ => none
theorem toV_flat {d : Dat} {v : V} (h : toV d = some v) : flatV v = true := by
  cases d <;> first | (cases h; rfl) | cases h
theorem toVs_of : ∀ {ds : List Dat} {us vs : List V}, toVs ds = some us → RelAll c as H vs ds → vs = us ∧ us.all flatV = true
  | [], _, _, h, r => by cases h; cases r; exact ⟨rfl, rfl⟩
  | d :: ds, us, _, h, r => by
    cases r with
    | cons h1 t =>
      unfold toVs at h
      split at h
      · rename_i u us' e1 e2
        cases h
        obtain ⟨e3, e4⟩ := toVs_of e2 t
        rw [h1.toV e1, e3]
        exact ⟨rfl, by rw [List.all_cons, toV_flat e1, e4]; rfl⟩
      · cases h
def fIn (neg : Bool) : F2 := fun x y μ => match toV x, (seqD μ y).bind toVs with
  | some u, some us => .ok (.bl (if neg then !inV u us else inV u us)) μ
  | _, _ => .stuck
theorem simr_in (neg : Bool) : SimR c (rIn c.K neg) (fIn neg) := by
  intro as H μ v w x y st rx ry σ W Q h
  unfold fIn at h
  split at h
  · rename_i u us e1 e2
    cases hd : seqD μ y with
    | none => rw [hd] at e2; cases e2
    | some es =>
      rw [hd] at e2
      obtain ⟨a, xs, rfl, h1, h2⟩ := seqD_of st ry hd
      obtain ⟨rfl, hf⟩ := toVs_of e2 h2
      obtain rfl := rx.toV e1
      exact ⟨a, xs, rfl, h1, toV_flat e1, hf, h _ as H .refl st (.bl _)⟩
  · exact h.elim
/-! ### is -/
def isNonD : Dat → Bool
  | .non => true
  | _ => false
def fIsN : F2 := fun x y μ => match y with
  | .non => .ok (.bl (isNonD x)) μ
  | _ => .stuck
def fNotN : F2 := fun x y μ => match y with
  | .non => .ok (.bl (!isNonD x)) μ
  | _ => .stuck
theorem rel_non {v : V} {d : Dat} (r : Rel c as H v d) : (decide (v = .non)) = isNonD d := by
  cases r <;> rfl
theorem simr_isN : SimR c (fun x y H Q => y = .non ∧ Q (.bl (decide (x = .non))) H) fIsN := by
  intro as H μ v w x y st rx ry σ W Q h
  unfold fIsN at h
  split at h
  · cases ry
    refine ⟨rfl, ?_⟩
    rw [rel_non rx]
    exact h _ as H .refl st (.bl _)
  · exact h.elim
theorem simr_notN : SimR c (fun x y H Q => y = .non ∧ Q (.bl (!decide (x = .non))) H) fNotN := by
  intro as H μ v w x y st rx ry σ W Q h
  unfold fNotN at h
  split at h
  · cases ry
    refine ⟨rfl, ?_⟩
    rw [rel_non rx]
    exact h _ as H .refl st (.bl _)
  · exact h.elim
def fIsB : F2 := fun x y μ => match x, y with
  | .bl a, .bl b => .ok (.bl (decide (a = b))) μ
  | _, _ => .stuck
def fNotB : F2 := fun x y μ => match x, y with
  | .bl a, .bl b => .ok (.bl (!decide (a = b))) μ
  | _, _ => .stuck
theorem simr_isB : SimR c rIsB fIsB := by
  intro as H μ v w x y st rx ry σ W Q h
  unfold fIsB at h
  split at h
  · cases rx
    cases ry
    exact ⟨_, _, rfl, rfl, h _ as H .refl st (.bl _)⟩
  · exact h.elim
theorem simr_notB : SimR c rNotB fNotB := by
  intro as H μ v w x y st rx ry σ W Q h
  unfold fNotB at h
  split at h
  · cases rx
    cases ry
    exact ⟨_, _, rfl, rfl, h _ as H .refl st (.bl _)⟩
  · exact h.elim
def mUn (f : F1) (a : M Dat) : M Dat := fun δ μ => (a δ μ).bind fun x μ1 => f x μ1
def fNeg : F1 := fun x μ => match x with
  | .int i => .ok (.int (-i)) μ
  | _ => .stuck
theorem sim_neg {t : TE} {a : M Dat} (h : SimE c W t a) : SimE c W (tUn (rU fun i => .int (-i)) t) (mUn fNeg a) := by
  intro as H σ δ μ st env Q w
  refine h as H σ δ μ st env _ ((want_bind (R1 := Rel c) w).imp ?_)
  rintro v H1 ⟨as1, μ1, x, e, s1, r, w1⟩
  unfold fNeg at w1
  split at w1
  · cases r
    exact ⟨_, rfl, w1 _ as1 H1 .refl s1 (.int _)⟩
  · exact w1.elim
/-! ### == of data at any depth -/
def pyAll (f : Dat → Option PyData) : List Dat → Option (List PyData)
  | [] => some []
  | d :: r => match f d, pyAll f r with
    | some x, some xs => some (x :: xs)
    | _, _ => none
def py (μ : Store) : Nat → Dat → Option PyData
  | 0, _ => none
  | n + 1, d => match d with
    | .non => some .none
    | .bl b => some (.bool b)
    | .int i => some (.int i)
    | .str s => some (.str s)
    | .tup ds => (pyAll (py μ n) ds).map .tuple
    | .ro ns => some (.list (ns.map .int))
    | .cell k => match μ[k]? with
      | some (.lst ds) => (pyAll (py μ n) ds).map .list
      | _ => none
    | _ => none
theorem pyAll_of {f : Dat → Option PyData} (hf : ∀ {v : V} {d : Dat} {e : PyData}, Rel c as H v d → f d = some e → Dp c.K H v e) : ∀ {ds : List Dat} {vs : List V} {es : List PyData}, RelAll c as H vs ds → pyAll f ds = some es → DpAll c.K H vs es
  | [], _, _, r, h => by cases h; cases r; exact .nil
  | d :: ds, _, _, r, h => by
    cases r with
    | cons h1 t =>
      unfold pyAll at h
      split at h
      · rename_i x xs e1 e2
        cases h
        exact .cons (hf h1 e1) (pyAll_of hf t e2)
      · cases h
theorem dpInts : ∀ ns : List Int, DpAll c.K H (ns.map V.int) (ns.map PyData.int)
  | [] => .nil
  | n :: r => .cons (.int n) (dpInts r)
theorem py_of (st : StH c as H μ) : ∀ (n : Nat) {v : V} {d : Dat} {e : PyData}, Rel c as H v d → py μ n d = some e → Dp c.K H v e
  | 0, _, _, _, _, h => by cases h
  | n + 1, v, d, e, r, h => by
    cases r with
    | non => cases h; exact .non
    | bl b => cases h; exact .bl b
    | int i => cases h; exact .int i
    | str s => cases h; exact .str s
    | @tup a xs ds h1 h2 =>
      have h' : (pyAll (py μ n) ds).map PyData.tuple = some e := h
      cases q : pyAll (py μ n) ds with
      | none => rw [q] at h'; cases h'
      | some es =>
        rw [q] at h'
        cases h'
        exact .tup h1.sq (pyAll_of (fun r h => py_of st n r h) h2 q)
    | ro h1 => cases h; exact .lst h1.sq (dpInts _)
    | @cell k a ha =>
      dsimp only [py] at h
      split at h
      · rename_i ds hk
        obtain ⟨xs, h1, h2⟩ := st.cell_at hk ha
        cases q : pyAll (py μ n) ds with
        | none => rw [q] at h; cases h
        | some es =>
          rw [q] at h
          cases h
          exact .lst (SqL.of h1) (pyAll_of (fun r h => py_of st n r h) h2 q)
      · cases h
    | ty n => cases h
    | cls n => cases h
def fEqD : F2 := fun x y μ => match py μ 12 x, py μ 12 y with
  | some a, some b => if (SeqAt.shaped a && SeqAt.shaped b) = true then .ok (.bl (PyData.eqv a b)) μ else .stuck
  | _, _ => .stuck
def fNeD : F2 := fun x y μ => match py μ 12 x, py μ 12 y with
  | some a, some b => if (SeqAt.shaped a && SeqAt.shaped b) = true then .ok (.bl (!PyData.eqv a b)) μ else .stuck
  | _, _ => .stuck
theorem simr_eqD : SimR c (rEqD c.K) fEqD := by
  intro as H μ v w x y st rx ry σ W Q h
  unfold fEqD at h
  split at h
  · rename_i a b e1 e2
    split at h
    · rename_i hz
      obtain ⟨z1, z2⟩ := Bool.and_eq_true_iff.mp hz
      exact ⟨a, b, py_of st 12 rx e1, py_of st 12 ry e2, z1, z2, h _ as H .refl st (.bl _)⟩
    · exact h.elim
  · exact h.elim
theorem simr_neD : SimR c (rNeD c.K) fNeD := by
  intro as H μ v w x y st rx ry σ W Q h
  unfold fNeD at h
  split at h
  · rename_i a b e1 e2
    split at h
    · rename_i hz
      obtain ⟨z1, z2⟩ := Bool.and_eq_true_iff.mp hz
      exact ⟨a, b, py_of st 12 rx e1, py_of st 12 ry e2, z1, z2, h _ as H .refl st (.bl _)⟩
    · exact h.elim
  · exact h.elim
/-! ### what is walked -/
structure Src where
  n : Nat
  get : Nat → Store → Option Dat
  fin : Store → Bool
def JRel (c : Cfg) (as : List Addr) (H : Hp) (J : It) (s : Src) : Prop := ∀ as' H' μ', Ext as H as' H' → StH c as' H' μ' →
  (∀ i d, i < s.n → s.get i μ' = some d → J.go i H' ∧ ∀ x H2, J.yld i H' x H2 → H2 = H' ∧ Rel c as' H' x d) ∧ (s.fin μ' = true → J.stop s.n H')
theorem JRel.mono {J : It} {s : Src} (e : Ext as H as' H') (h : JRel c as H J s) : JRel c as' H' J s := fun a h2 m e2 st => h a h2 m (e.trans e2) st
abbrev SimI (c : Cfg) (W : WX) (t : TI) (m : M Src) : Prop := Sim c W (JRel c) t m
def srcT (ds : List Dat) : Src := ⟨ds.length, fun i _ => ds[i]?, fun _ => true⟩
def srcR (lo : Int) (n : Nat) : Src := ⟨n, fun i _ => some (.int (lo + i)), fun _ => true⟩
def srcS (z : Str) : Src := ⟨z.cps.size, fun i _ => (z.cps[i]?).map fun q => .str ⟨#[q]⟩, fun _ => true⟩
def srcL (k n : Nat) : Src := ⟨n, fun i μ => (celL μ (.cell k)).bind (·[i]?), fun μ => match celL μ (.cell k) with
  | some ds => decide (ds.length ≤ n)
  | none => false⟩
theorem jrel_tup {a : Addr} {xs : List V} {ds : List Dat} (h1 : RoT c.K H a xs) (h2 : RelAll c as H xs ds) : JRel c as H (Itt c.K a) (srcT ds) := fun as' H' μ' e st => by
  refine ⟨fun i d hi hg => ?_, fun _ => ⟨xs, (h1.mono e).sq, by rw [h2.length]; exact Nat.le_refl _⟩⟩
  obtain ⟨v, h3, h4⟩ := (h2.mono e).get (show ds[i]? = some d from hg)
  refine ⟨⟨xs, v, (h1.mono e).sq, h3⟩, fun x H2 y => ?_⟩
  obtain ⟨rfl, q⟩ := y
  have e1 := q xs (h1.mono e).sq
  rw [h3] at e1
  cases e1
  exact ⟨rfl, h4⟩
theorem jrel_ro {a : Addr} {xs : List V} {ds : List Dat} (h1 : RoL c.K H a xs) (h2 : RelAll c as H xs ds) : JRel c as H (Itl c.K a) (srcT ds) := fun as' H' μ' e st => by
  refine ⟨fun i d hi hg => ?_, fun _ => ⟨xs, (h1.mono e).sq, by rw [h2.length]; exact Nat.le_refl _⟩⟩
  obtain ⟨v, h3, h4⟩ := (h2.mono e).get (show ds[i]? = some d from hg)
  refine ⟨⟨xs, v, (h1.mono e).sq, h3⟩, fun x H2 y => ?_⟩
  obtain ⟨rfl, q⟩ := y
  have e1 := q xs (h1.mono e).sq
  rw [h3] at e1
  cases e1
  exact ⟨rfl, h4⟩
theorem jrel_lst {a : Addr} {k n : Nat} (ha : as[k]? = some a) : JRel c as H (Itl c.K a) (srcL k n) := fun as' H' μ' e st => by
  have ha' := e.pre _ _ ha
  refine ⟨fun i d hi hg => ?_, fun hf => ?_⟩
  · have hg' : (celL μ' (.cell k)).bind (·[i]?) = some d := hg
    cases hd : celL μ' (.cell k) with
    | none => rw [hd] at hg'; cases hg'
    | some ds =>
      rw [hd] at hg'
      obtain ⟨k', b, xs, ek, ev, _, _, h1, h2⟩ := celL_of st (.cell ha' : Rel c as' H' (.ref a) (.cell k)) hd
      cases ev
      obtain ⟨v, h3, h4⟩ := h2.get (show ds[i]? = some d from hg')
      refine ⟨⟨xs, v, SqL.of h1, h3⟩, fun x H2 y => ?_⟩
      obtain ⟨rfl, q⟩ := y
      have e1 := q xs (SqL.of h1)
      rw [h3] at e1
      cases e1
      exact ⟨rfl, h4⟩
  · have hf' : (match celL μ' (.cell k) with
      | some ds => decide (ds.length ≤ n)
      | none => false) = true := hf
    split at hf'
    · rename_i ds hd
      obtain ⟨k', b, xs, ek, ev, _, _, h1, h2⟩ := celL_of st (.cell ha' : Rel c as' H' (.ref a) (.cell k)) hd
      cases ev
      exact ⟨xs, SqL.of h1, by rw [h2.length]; exact of_decide_eq_true hf'⟩
    · cases hf'
def miList (a : M Dat) : M Src := fun δ μ => (a δ μ).bind fun x μ1 => match x with
  | .cell k => match celL μ1 (.cell k) with
    | some ds => .ok (srcL k ds.length) μ1
    | none => .stuck
  | .ro ns => .ok (srcT (ns.map .int)) μ1
  | _ => .stuck
theorem simi_list {t : TE} {a : M Dat} (h : SimE c W t a) : SimI c W (iList c.K t) (miList a) := by
  intro as H σ δ μ st env Q w
  refine h as H σ δ μ st env _ ((want_bind (R1 := Rel c) w).imp ?_)
  rintro v H1 ⟨as1, μ1, x, e, s1, r, w1⟩
  split at w1
  · split at w1
    · rename_i ds hd
      obtain ⟨k', b, xs, ek, ev, _, ha, h1, h2⟩ := celL_of s1 r hd
      subst ev
      cases ek
      exact ⟨b, rfl, ⟨xs, SqL.of h1⟩, w1 _ as1 H1 .refl s1 (jrel_lst ha)⟩
    · exact w1.elim
  · cases r with
    | ro h1 => exact ⟨_, rfl, ⟨_, h1.sq⟩, w1 _ as1 H1 .refl s1 (jrel_ro h1 (relInts _))⟩
  · exact w1.elim
def miTup (a : M Dat) : M Src := fun δ μ => (a δ μ).bind fun x μ1 => match x with
  | .tup ds => .ok (srcT ds) μ1
  | _ => .stuck
theorem simi_tup {t : TE} {a : M Dat} (h : SimE c W t a) : SimI c W (iTup c.K t) (miTup a) := by
  intro as H σ δ μ st env Q w
  refine h as H σ δ μ st env _ ((want_bind (R1 := Rel c) w).imp ?_)
  rintro v H1 ⟨as1, μ1, x, e, s1, r, w1⟩
  split at w1
  · cases r with
    | tup h1 h2 => exact ⟨_, rfl, ⟨_, h1.sq⟩, w1 _ as1 H1 .refl s1 (jrel_tup h1 h2)⟩
  · exact w1.elim
def miStr (a : M Dat) : M Src := fun δ μ => (a δ μ).bind fun x μ1 => match x with
  | .str z => .ok (srcS z) μ1
  | _ => .stuck
theorem simi_str {t : TE} {a : M Dat} (h : SimE c W t a) : SimI c W (iStr t) (miStr a) := by
  intro as H σ δ μ st env Q w
  refine h as H σ δ μ st env _ ((want_bind (R1 := Rel c) w).imp ?_)
  rintro v H1 ⟨as1, μ1, x, e, s1, r, w1⟩
  split at w1
  · rename_i z
    cases r
    refine ⟨_, rfl, w1 _ as1 H1 .refl s1 fun as' H' μ' e' st' => ⟨fun i d hi hg => ⟨hi, fun x H2 y => ?_⟩, fun _ => Nat.le_refl _⟩⟩
    obtain ⟨rfl, q, hq, rfl⟩ := y
    have hg' : (z.cps[i]?).map (fun q => Dat.str ⟨#[q]⟩) = some d := hg
    rw [hq] at hg'
    cases hg'
    exact ⟨rfl, .str _⟩
  · exact w1.elim
theorem jrel_range {lo : Int} {n : Nat} : JRel c as H (Itr lo n) (srcR lo n) := fun as' H' μ' e st => by
  refine ⟨fun i d hi hg => ⟨hi, fun x H2 y => ?_⟩, fun _ => Nat.le_refl _⟩
  obtain ⟨rfl, rfl⟩ := y
  have hg' : some (Dat.int (lo + i)) = some d := hg
  cases hg'
  exact ⟨rfl, .int _⟩
def miRange1 (a : M (List Dat)) : M Src := fun δ μ => (a δ μ).bind fun ds μ1 => match ds with
  | [.int j] => if -(2 ^ 62) ≤ j ∧ j < 2 ^ 62 then .ok (srcR 0 j.toNat) μ1 else .stuck
  | _ => .stuck
theorem simi_range1 {t : TA} {a : M (List Dat)} (h : SimA c W t a) : SimI c W (iRng1 t) (miRange1 a) := by
  intro as H σ δ μ st env Q w
  refine h as H σ δ μ st env _ ((want_bind (R1 := RelAll c) w).imp ?_)
  rintro vs H1 ⟨as1, μ1, ds, e, s1, rs, w1⟩
  split at w1
  · split at w1
    · rename_i hz
      obtain ⟨v, rfl, r⟩ := rel1 rs
      cases r
      exact ⟨_, rfl, hz.1, hz.2, w1 _ as1 H1 .refl s1 jrel_range⟩
    · exact w1.elim
  · exact w1.elim
def miRange2 (a : M (List Dat)) : M Src := fun δ μ => (a δ μ).bind fun ds μ1 => match ds with
  | [.int i, .int j] => if -(2 ^ 62) ≤ i ∧ i < 2 ^ 62 ∧ -(2 ^ 62) ≤ j ∧ j < 2 ^ 62 then .ok (srcR i (j - i).toNat) μ1 else .stuck
  | _ => .stuck
theorem simi_range2 {t : TA} {a : M (List Dat)} (h : SimA c W t a) : SimI c W (iRng2 t) (miRange2 a) := by
  intro as H σ δ μ st env Q w
  refine h as H σ δ μ st env _ ((want_bind (R1 := RelAll c) w).imp ?_)
  rintro vs H1 ⟨as1, μ1, ds, e, s1, rs, w1⟩
  split at w1
  · split at w1
    · rename_i hz
      obtain ⟨v, u, rfl, r, r2⟩ := rel2 rs
      cases r
      cases r2
      exact ⟨_, _, rfl, hz, w1 _ as1 H1 .refl s1 jrel_range⟩
    · exact w1.elim
  · exact w1.elim
/-! ### targets -/
abbrev MG := Dat → Env → Option Env
def SimG (c : Cfg) (g : TG) (m : MG) : Prop := ∀ as H σ δ v d δ', EnvR c as H σ δ → Rel c as H v d → m d δ = some δ' → ∀ Q : L2.St → Hp → Prop, (∀ σ', EnvR c as H σ' δ' → Q σ' H) → g v σ H Q
def mgName (i : Nat) : MG := fun d δ => some (δ.set i (some d))
theorem simg_name (i : Nat) : SimG c (gName i) (mgName i) := by
  intro as H σ δ v d δ' env r h Q q
  cases h
  exact q _ (env.set i r)
def mgNames : List Nat → List Dat → Env → Option Env
  | [], [], δ => some δ
  | i :: r, d :: ds, δ => mgNames r ds (δ.set i (some d))
  | _, _, _ => none
def gNames : List Nat → TGs
  | [] => gNil
  | i :: r => gCons (gName i) (gNames r)
theorem simg_names : ∀ (is : List Nat) {σ : L2.St} {δ δ' : Env} {vs : List V} {ds : List Dat}, EnvR c as H σ δ → RelAll c as H vs ds → mgNames is ds δ = some δ' → ∀ Q : L2.St → Hp → Prop, (∀ σ', EnvR c as H σ' δ' → Q σ' H) → gNames is vs σ H Q
  | [], σ, δ, δ', vs, ds, env, r, h, Q, q => by
    cases r with
    | nil => cases h; exact ⟨rfl, q _ env⟩
    | cons _ _ => cases h
  | i :: is, σ, δ, δ', vs, ds, env, r, h, Q, q => by
    cases r with
    | nil => cases h
    | cons h1 t => exact ⟨_, _, rfl, simg_names is (env.set i h1) t h Q q⟩
def mgTup (is : List Nat) : MG := fun d δ => match d with
  | .tup ds => if ds.length = is.length then mgNames is ds δ else none
  | _ => none
theorem simg_tup (is : List Nat) : SimG c (gTup c.K is.length (gNames is)) (mgTup is) := by
  intro as H σ δ v d δ' env r h Q q
  unfold mgTup at h
  split at h
  · split at h
    · rename_i hl
      cases r with
      | tup h1 h2 => exact ⟨_, _, rfl, h1.sq, by rw [h2.length]; exact hl, simg_names is env h2 h Q q⟩
    · cases h
  · cases h
/-! ### comprehensions -/
def wipeD (δ : Env) : List Nat → Env
  | [] => δ
  | v :: vs => (wipeD δ vs).set v none
theorem EnvR.wipe (env : EnvR c as H σ δ) : ∀ vs : List Nat, EnvR c as H (wipe σ vs) (wipeD δ vs)
  | [] => env
  | v :: vs => (EnvR.wipe env vs).setN v
theorem set_comm_none {α : Type} (l : List α) (i j : Nat) (x y : α) (h : i ≠ j) : (l.set i x).set j y = (l.set j y).set i x := List.set_comm _ _ h
theorem wipe_set_mem (x : Option V) : ∀ (vs : List Nat) (σ : L2.St) (i : Nat), i ∈ vs → wipe (σ.set i x) vs = wipe σ vs
  | [], _, _, h => by simp at h
  | v :: vs, σ, i, h => by
    show (wipe (σ.set i x) vs).set v none = (wipe σ vs).set v none
    by_cases hv : i ∈ vs
    · rw [wipe_set_mem x vs σ i hv]
    · have e : i = v := by simpa [hv] using h
      subst e
      have comm : ∀ (ws : List Nat) (τ : L2.St), i ∉ ws → wipe (τ.set i x) ws = (wipe τ ws).set i x := by
        intro ws
        induction ws with
        | nil => intro τ _; rfl
        | cons u us ih =>
          intro τ hu
          have h1 : i ≠ u := fun z => hu (z ▸ List.mem_cons_self)
          show (wipe (τ.set i x) us).set u none = ((wipe τ us).set u none).set i x
          rw [ih τ (fun z => hu (List.mem_cons_of_mem _ z)), List.set_comm _ _ h1]
      rw [comm vs σ hv, List.set_set]
theorem wipe_wipe (vs : List Nat) (σ : L2.St) : ∀ ws : List Nat, (∀ w ∈ ws, w ∈ vs) → wipe (wipe σ ws) vs = wipe σ vs
  | [], _ => rfl
  | w :: ws, h => by
    show wipe ((wipe σ ws).set w none) vs = wipe σ vs
    rw [wipe_set_mem none vs _ w (h w List.mem_cons_self), wipe_wipe vs σ ws fun u hu => h u (List.mem_cons_of_mem _ hu)]
/-- a target that stores within vs alone -/
def GW (g : TG) (vs : List Nat) : Prop := ∀ v σ H (Q : L2.St → Hp → Prop), g v σ H Q → g v σ H fun σ2 H2 => wipe σ2 vs = wipe σ vs ∧ Q σ2 H2
theorem gw_name {i : Nat} {vs : List Nat} (h : i ∈ vs) : GW (gName i) vs := fun v σ H Q q => ⟨wipe_set_mem _ vs σ i h, q⟩
theorem gw_names {vs : List Nat} : ∀ (is : List Nat), (∀ i ∈ is, i ∈ vs) → ∀ (xs : List V) (σ : L2.St) (H : Hp) (Q : L2.St → Hp → Prop), gNames is xs σ H Q → gNames is xs σ H fun σ2 H2 => wipe σ2 vs = wipe σ vs ∧ Q σ2 H2
  | [], _, xs, σ, H, Q, q => ⟨q.1, rfl, q.2⟩
  | i :: is, h, xs, σ, H, Q, q => by
    obtain ⟨v, r, e, q⟩ := q
    refine ⟨v, r, e, ?_⟩
    have z := gw_names is (fun j hj => h j (List.mem_cons_of_mem _ hj)) r (σ.set i (some v)) H Q q
    rw [wipe_set_mem _ vs σ i (h i List.mem_cons_self)] at z
    exact z
theorem gw_tup {vs : List Nat} (is : List Nat) {K : PySem.W.Frag} {n : Nat} (h : ∀ i ∈ is, i ∈ vs) : GW (gTup K n (gNames is)) vs := fun v σ H Q q => by
  obtain ⟨a, xs, e1, e2, e3, q⟩ := q
  exact ⟨a, xs, e1, e2, e3, gw_names is h xs σ H Q q⟩
def nrR (r : Res α) : Res α := match r with
  | .raise _ _ => .stuck
  | r => r
theorem want_nr {R : List Addr → Hp → β → α → Prop} {r : Res α} {Q : β → Hp → Prop} {W W' : WX} (w : Want c R (nrR r) as H σ Q W) {σ' : L2.St} : Want c R r as H σ' Q W' := by
  cases r with
  | ok x μ' => exact w
  | raise n μ' => exact w.elim
  | stuck => exact w
def lcLoop (s : Src) (g : MG) (tt : M Bool) (te : M Dat) (δ : Env) (k : Nat) : Nat → Nat → Store → Res Unit
  | 0, _, μ => if s.fin μ = true then .ok () μ else .stuck
  | r + 1, i, μ => match (s.get i μ).bind fun d => g d δ with
    | none => .stuck
    | some δ1 => (nrR (tt δ1 μ)).bind fun b μ1 => if b = true then (nrR (te δ1 μ1)).bind fun y μ2 => match μ2[k]? with
        | some (.lst acc) => if acc.length < sizeLine then lcLoop s g tt te δ k r (i + 1) (μ2.set k (.lst (acc ++ [y]))) else .stuck
        | _ => .stuck
      else lcLoop s g tt te δ k r (i + 1) μ1
def mLc (src : M Src) (g : MG) (tt : M Bool) (te : M Dat) (vs : List Nat) : M Dat := fun δ μ => (src δ μ).bind fun s μ1 =>
  (lcLoop s g tt te (wipeD δ vs) μ1.length s.n 0 (μ1 ++ [.lst []])).bind fun _ μ2 => .ok (.cell μ1.length) μ2
def mYes : M Bool := fun _ μ => .ok true μ
theorem sim_yes : SimT c W tYes mYes := fun as H σ δ μ st env Q w => w _ as H .refl st rfl
theorem sim_lc {wi : TI} {g : TG} {tt : TT} {te : TE} {vs : List Nat} {src : M Src} {mg : MG} {mt : M Bool} {me : M Dat} (hi : SimI c W wi src) (hg : SimG c g mg) (hw : GW g vs) (ht : SimT c W tt mt) (he : SimE c W te me) :
    SimE c W (tLc wi g tt te vs) (mLc src mg mt me vs) := by
  intro as H σ δ μ st env Q w
  refine hi as H σ δ μ st env _ ((want_bind (R1 := JRel c) w).imp ?_)
  rintro J H1 ⟨as1, μ1, s, e, s1, jr, w1⟩ D hD
  have env1 := env.mono e
  have eD : Ext as1 H1 (as1 ++ [D]) (upd H1 D (.lst [])) := ext_alloc hD
  have sD := s1.alloc (o := .lst []) (x := .lst []) hD ⟨[], upd_same, .nil⟩
  have aD : (as1 ++ [D])[μ1.length]? = some D := by rw [← s1.len, List.getElem?_concat_length]
  have w2 := want_bind (R1 := fun _ _ (_ : Unit) (_ : Unit) => True) (Want.mono eD w1)
  refine ⟨fun i m H2 => m = s.n - i ∧ i ≤ s.n ∧ ∃ as2 μ2, Ext as1 H1 as2 H2 ∧ StH c as2 H2 μ2 ∧ as2[μ1.length]? = some D ∧
    Want c (fun _ _ (_ : Unit) (_ : Unit) => True) (lcLoop s mg mt me (wipeD δ vs) μ1.length (s.n - i) i μ2) as2 H2 σ (fun _ H3 => Q (.ref D) H3) W, ⟨s.n, rfl, Nat.zero_le _, as1 ++ [D], _, eD, sD, aD, ?_⟩, ?_⟩
  · refine w2.imp ?_
    rintro _ H3 ⟨as3, μ3, _, e3, s3, _, w3⟩
    exact w3 _ as3 H3 .refl s3 (.cell (e3.pre _ _ aD))
  · rintro i m H2 ⟨rfl, hin, as2, μ2, e2, s2, a2, wl⟩
    obtain ⟨jg, js⟩ := jr as2 H2 μ2 e2 s2
    by_cases hlt : i < s.n
    · obtain ⟨r, hr⟩ : ∃ r, s.n - i = r + 1 := ⟨s.n - i - 1, by omega⟩
      rw [hr] at wl
      unfold lcLoop at wl
      split at wl
      · exact wl.elim
      · rename_i δ1 hd
        cases hq : s.get i μ2 with
        | none => rw [hq] at hd; cases hd
        | some d =>
          rw [hq] at hd
          obtain ⟨g1, g2⟩ := jg i d hlt hq
          refine .inr ⟨g1, fun H3 => (fun i m H2 => m = s.n - i ∧ i ≤ s.n ∧ ∃ as2 μ2, Ext as1 H1 as2 H2 ∧ StH c as2 H2 μ2 ∧ as2[μ1.length]? = some D ∧
            Want c (fun _ _ (_ : Unit) (_ : Unit) => True) (lcLoop s mg mt me (wipeD δ vs) μ1.length (s.n - i) i μ2) as2 H2 σ (fun _ H3 => Q (.ref D) H3) W) (i + 1) (s.n - (i + 1)) H3, fun H3 z => ⟨s.n - (i + 1), by omega, z⟩, fun x H3 hy => ?_⟩
          obtain ⟨rfl, rx⟩ := g2 x H3 hy
          have env2 := (env1.mono e2).wipe vs
          have key : ∀ Q' : L2.St → Hp → Prop, (∀ σ2, EnvR c as2 H3 σ2 δ1 → Q' σ2 H3) → g x (wipe σ vs) H3 fun σ2 H4 => wipe σ2 vs = wipe σ vs ∧ Q' σ2 H4 := fun Q' q => by
            have z := hw x (wipe σ vs) H3 Q' (hg as2 H3 (wipe σ vs) (wipeD δ vs) x d δ1 env2 rx hd Q' q)
            rw [wipe_wipe vs σ vs fun _ z => z] at z
            exact z
          have hr' : s.n - (i + 1) = r := by omega
          refine key _ fun σ2 envs => ?_
          refine ht as2 H3 σ2 δ1 μ2 s2 envs _ ((want_nr (want_bind (R1 := fun _ _ b d => b = d) wl)).imp ?_)
          rintro b H5 ⟨as5, μ5, b', e5, s5, rfl, w5⟩
          cases b with
          | false => exact ⟨rfl, hlt, as5, μ5, e2.trans e5, s5, e5.pre _ _ a2, by rw [hr']; exact w5⟩
          | true =>
            refine iteT ?_
            rw [if_pos rfl] at w5
            refine he as5 H5 σ2 δ1 μ5 s5 (envs.mono e5) _ ((want_nr (want_bind (R1 := Rel c) w5)).imp ?_)
            rintro y H6 ⟨as6, μ6, dy, e6, s6, ry, w6⟩
            split at w6
            · rename_i acc hk
              split at w6
              · rename_i hz
                have a6 := e6.pre _ _ (e5.pre _ _ a2)
                obtain ⟨xs, h1, h2⟩ := s6.cell_at hk a6
                have ee := ext_set (o := .lst (xs ++ [y])) s6 hk a6
                refine ⟨xs, h1, by rw [h2.length]; exact hz, rfl, hlt, as6, _, ((e2.trans e5).trans e6).trans ee, s6.set (y := .lst (acc ++ [dy])) hk a6 ⟨_, upd_same, (h2.append (.cons ry .nil)).mono ee⟩, a6, ?_⟩
                rw [hr']
                exact w6.mono ee
              · exact w6.elim
            · exact w6.elim
    · have ei : i = s.n := by omega
      subst ei
      rw [Nat.sub_self] at wl
      unfold lcLoop at wl
      split at wl
      · rename_i hf
        exact .inl ⟨js hf, wl () as2 H2 .refl s2 trivial⟩
      · exact wl.elim
end
end Nh

namespace Nh
open PySem PySem.Spec PyProof.Rows L2
/-- what a statement gives -/
inductive SRes where
  | nx (δ : Env) (μ : Store) | rt (d : Dat) (μ : Store) | bk (δ : Env) (μ : Store) | ct (δ : Env) (μ : Store) | raise (n : Nat) (δ : Env) (μ : Store) | stuck
abbrev MS := Env → Store → SRes
def Res.toS {α : Type} (r : Res α) (δ : Env) (f : α → Store → SRes) : SRes := match r with
  | .ok x μ => f x μ
  | .raise n μ => .raise n δ μ
  | .stuck => .stuck
section
variable {c : Cfg} {as as' : List Addr} {H H' : Hp} {σ : L2.St} {δ : Env} {μ : Store} {α β γ ε : Type} {W : WX} {D D' : Ends}
def WantS (c : Cfg) (r : SRes) (as : List Addr) (H : Hp) (D : Ends) (W : WX) : Prop := match r with
  | .nx δ' μ' => ∀ σ' as' H', Ext as H as' H' → StH c as' H' μ' → EnvR c as' H' σ' δ' → D.nx σ' H'
  | .rt d μ' => ∀ v as' H', Ext as H as' H' → StH c as' H' μ' → Rel c as' H' v d → D.rt v H'
  | .bk δ' μ' => ∀ σ' as' H', Ext as H as' H' → StH c as' H' μ' → EnvR c as' H' σ' δ' → D.bk σ' H'
  | .ct δ' μ' => ∀ σ' as' H', Ext as H as' H' → StH c as' H' μ' → EnvR c as' H' σ' δ' → D.ct σ' H'
  | .raise n δ' μ' => ∀ σ' as' H', Ext as H as' H' → StH c as' H' μ' → EnvR c as' H' σ' δ' → W (.ref (c.cl n)) none σ' H'
  | .stuck => False
theorem WantS.mono {r : SRes} (e : Ext as H as' H') (w : WantS c r as H D W) : WantS c r as' H' D W := by
  cases r with
  | nx δ' μ' => exact fun s a h q => w s a h (e.trans q)
  | rt d μ' => exact fun s a h q => w s a h (e.trans q)
  | bk δ' μ' => exact fun s a h q => w s a h (e.trans q)
  | ct δ' μ' => exact fun s a h q => w s a h (e.trans q)
  | raise n δ' μ' => exact fun s a h q => w s a h (e.trans q)
  | stuck => exact w
def SimS (c : Cfg) (W : WX) (t : TS) (m : MS) : Prop := ∀ as H σ δ μ, StH c as H μ → EnvR c as H σ δ → ∀ D, WantS c (m δ μ) as H D W → t D σ H
theorem want_toS {R : List Addr → Hp → β → α → Prop} {r : Res α} {f : α → Store → SRes} (env : EnvR c as H σ δ) (h : WantS c (r.toS δ f) as H D W) :
    Want c R r as H σ (fun v H1 => ∃ as1 μ1 x, Ext as H as1 H1 ∧ StH c as1 H1 μ1 ∧ R as1 H1 v x ∧ WantS c (f x μ1) as1 H1 D W) W := by
  cases r with
  | ok x μ' => exact fun v a q e s r => ⟨a, μ', x, e, s, r, WantS.mono (r := f x μ') e h⟩
  | raise n μ' => exact fun a q e s => h σ a q e s (env.mono e)
  | stuck => exact h
def msNext : MS := fun δ μ => .nx δ μ
theorem sims_next : SimS c W tNext msNext := fun as H σ δ μ st env D w => w σ as H .refl st env
def msSeq (a b : MS) : MS := fun δ μ => match a δ μ with
  | .nx δ' μ' => b δ' μ'
  | r => r
theorem sims_seq {t u : TS} {a b : MS} (ha : SimS c W t a) (hb : SimS c W u b) : SimS c W (tSeq t u) (msSeq a b) := by
  intro as H σ δ μ st env D w
  refine ha as H σ δ μ st env { D with nx := u D } ?_
  unfold msSeq at w
  cases hr : a δ μ with
  | nx δ' μ' =>
    rw [hr] at w
    exact fun σ' as' H' e s env' => hb as' H' σ' δ' μ' s env' D (w.mono e)
  | rt d μ' => rw [hr] at w; exact w
  | bk δ' μ' => rw [hr] at w; exact w
  | ct δ' μ' => rw [hr] at w; exact w
  | raise n δ' μ' => rw [hr] at w; exact w
  | stuck => rw [hr] at w; exact w
def msBreak : MS := fun δ μ => .bk δ μ
def msCont : MS := fun δ μ => .ct δ μ
theorem sims_break : SimS c W tBreak msBreak := fun as H σ δ μ st env D w => w σ as H .refl st env
theorem sims_cont : SimS c W tCont msCont := fun as H σ δ μ st env D w => w σ as H .refl st env
def msDrop (a : M Dat) : MS := fun δ μ => (a δ μ).toS δ fun _ μ1 => .nx δ μ1
theorem sims_drop {t : TE} {a : M Dat} (h : SimE c W t a) : SimS c W (tDrop t) (msDrop a) := by
  intro as H σ δ μ st env D w
  refine h as H σ δ μ st env _ ((want_toS (R := Rel c) env w).imp ?_)
  rintro v H1 ⟨as1, μ1, x, e, s1, r, w1⟩
  exact w1 σ as1 H1 .refl s1 (env.mono e)
def msRet (a : M Dat) : MS := fun δ μ => (a δ μ).toS δ fun d μ1 => .rt d μ1
theorem sims_ret {t : TE} {a : M Dat} (h : SimE c W t a) : SimS c W (tRet t) (msRet a) := by
  intro as H σ δ μ st env D w
  refine h as H σ δ μ st env _ ((want_toS (R := Rel c) env w).imp ?_)
  rintro v H1 ⟨as1, μ1, x, e, s1, r, w1⟩
  exact w1 v as1 H1 .refl s1 r
def msRetN : MS := fun _ μ => .rt .non μ
theorem sims_retN : SimS c W tRetN msRetN := fun as H σ δ μ st env D w => w .non as H .refl st .non
def msIf (q : M Bool) (a b : MS) : MS := fun δ μ => (q δ μ).toS δ fun k μ1 => if k = true then a δ μ1 else b δ μ1
theorem sims_if {q : TT} {t u : TS} {mq : M Bool} {a b : MS} (hq : SimT c W q mq) (ha : SimS c W t a) (hb : SimS c W u b) : SimS c W (tIfS q t u) (msIf mq a b) := by
  intro as H σ δ μ st env D w
  refine hq as H σ δ μ st env _ ((want_toS (R := fun _ _ b d => b = d) env w).imp ?_)
  rintro k H1 ⟨as1, μ1, x, e, s1, rfl, w1⟩
  cases k with
  | true => exact iteT (ha as1 H1 σ δ μ1 s1 (env.mono e) D w1)
  | false => exact iteF (hb as1 H1 σ δ μ1 s1 (env.mono e) D w1)
def msAsg (a : M Dat) (g : MG) : MS := fun δ μ => (a δ μ).toS δ fun d μ1 => match g d δ with
  | some δ' => .nx δ' μ1
  | none => .stuck
theorem sims_asg {t : TE} {g : TG} {a : M Dat} {m : MG} (h : SimE c W t a) (hg : SimG c g m) : SimS c W (tAsg t g) (msAsg a m) := by
  intro as H σ δ μ st env D w
  refine h as H σ δ μ st env _ ((want_toS (R := Rel c) env w).imp ?_)
  rintro v H1 ⟨as1, μ1, x, e, s1, r, w1⟩
  split at w1
  · rename_i δ' hd
    exact hg as1 H1 σ δ v x δ' (env.mono e) r hd _ fun σ' env' => w1 σ' as1 H1 .refl s1 env'
  · exact w1.elim
/-- d[k] = v -/
def msDPut (a b v : M Dat) : MS := fun δ μ => (v δ μ).toS δ fun z μ1 => (a δ μ1).toS δ fun x μ2 => (b δ μ2).toS δ fun y μ3 => match x, keyD y with
  | .cell k, some q => match μ3[k]? with
    | some (.dict kvs) => if kvs.length < sizeLine then .nx δ (μ3.set k (.dict (putD kvs q z))) else .stuck
    | _ => .stuck
  | _, _ => .stuck
theorem sims_dput {ta tb tv : TE} {a b v : M Dat} (ha : SimE c W ta a) (hb : SimE c W tb b) (hv : SimE c W tv v) : SimS c W (sDPut ta tb tv) (msDPut a b v) := by
  intro as H σ δ μ st env D w
  refine hv as H σ δ μ st env _ ((want_toS (R := Rel c) env w).imp ?_)
  rintro z H1 ⟨as1, μ1, dz, e1, s1, rz, w1⟩
  have env1 := env.mono e1
  refine ha as1 H1 σ δ μ1 s1 env1 _ ((want_toS (R := Rel c) env1 w1).imp ?_)
  rintro x H2 ⟨as2, μ2, dx, e2, s2, rx, w2⟩
  have env2 := env1.mono e2
  refine hb as2 H2 σ δ μ2 s2 env2 _ ((want_toS (R := Rel c) env2 w2).imp ?_)
  rintro y H3 ⟨as3, μ3, dy, e3, s3, ry, w3⟩
  split at w3
  · rename_i k q hq
    split at w3
    · rename_i kvs hk
      split at w3
      · rename_i hz
        have rx3 := rx.mono e3
        cases rx3 with
        | cell ha3 =>
          obtain ⟨ps, h1, h2⟩ := s3.cell_at hk ha3
          have ey := keyD_of ry hq
          subst ey
          have rz3 := rz.mono (e2.trans e3)
          have ee := ext_set (o := .dK (putK ps q z)) s3 hk ha3
          exact ⟨_, _, rfl, DPut.k h1 (by rw [h2.length]; exact hz), w3 σ as3 _ ee (s3.set (y := .dict (putD kvs q dz)) hk ha3 ⟨_, upd_same, (h2.put rz3).mono ee⟩) ((env2.mono e3).mono ee)⟩
      · exact w3.elim
    · exact w3.elim
  · exact w3.elim
/-- xs[i] = v -/
def mgSub (a b : M Dat) (v : M Dat) : MS := fun δ μ => (v δ μ).toS δ fun z μ1 => (a δ μ1).toS δ fun x μ2 => (b δ μ2).toS δ fun y μ3 => match x, y with
  | .cell k, .int i => match μ3[k]? with
    | some (.lst ds) => match ixN ds.length i with
      | some j => .nx δ (μ3.set k (.lst (ds.set j z)))
      | none => .stuck
    | _ => .stuck
  | _, _ => .stuck
theorem sims_sub {ta tb tv : TE} {a b v : M Dat} (ha : SimE c W ta a) (hb : SimE c W tb b) (hv : SimE c W tv v) : SimS c W (tAsg tv (gSub ta tb rSetL)) (mgSub a b v) := by
  intro as H σ δ μ st env D w
  refine hv as H σ δ μ st env _ ((want_toS (R := Rel c) env w).imp ?_)
  rintro z H1 ⟨as1, μ1, dz, e1, s1, rz, w1⟩
  have env1 := env.mono e1
  refine ha as1 H1 σ δ μ1 s1 env1 _ ((want_toS (R := Rel c) env1 w1).imp ?_)
  rintro x H2 ⟨as2, μ2, dx, e2, s2, rx, w2⟩
  have env2 := env1.mono e2
  refine hb as2 H2 σ δ μ2 s2 env2 _ ((want_toS (R := Rel c) env2 w2).imp ?_)
  rintro y H3 ⟨as3, μ3, dy, e3, s3, ry, w3⟩
  split at w3
  · rename_i k i
    split at w3
    · rename_i ds hk
      split at w3
      · rename_i j hj
        cases ry
        have rx3 := rx.mono e3
        cases rx3 with
        | cell ha3 =>
          obtain ⟨xs, h1, h2⟩ := s3.cell_at hk ha3
          have rz3 := rz.mono (e2.trans e3)
          have ee := ext_set (o := .lst (xs.set j z)) s3 hk ha3
          exact ⟨_, xs, i, j, rfl, rfl, h1, by rw [h2.length]; exact hj, w3 σ as3 _ ee (s3.set (y := .lst (ds.set j dz)) hk ha3 ⟨_, upd_same, (RelAll.set rz3 j h2).mono ee⟩) ((env2.mono e3).mono ee)⟩
      · exact w3.elim
    · exact w3.elim
  · exact w3.elim
/-! ### loops -/
def forLoop (s : Src) (g : MG) (b : MS) : Nat → Nat → Env → Store → SRes
  | 0, _, δ, μ => if s.fin μ = true then .nx δ μ else .stuck
  | r + 1, i, δ, μ => match (s.get i μ).bind fun d => g d δ with
    | none => .stuck
    | some δ1 => match b δ1 μ with
      | .nx δ' μ' => forLoop s g b r (i + 1) δ' μ'
      | .ct δ' μ' => forLoop s g b r (i + 1) δ' μ'
      | .bk δ' μ' => .nx δ' μ'
      | r => r
def msFor (src : M Src) (g : MG) (b : MS) : MS := fun δ μ => (src δ μ).toS δ fun s μ1 => forLoop s g b s.n 0 δ μ1
theorem sims_for {wi : TI} {g : TG} {tb : TS} {src : M Src} {mg : MG} {b : MS} (hi : SimI c W wi src) (hg : SimG c g mg) (hb : SimS c W tb b) : SimS c W (tFor wi g tb) (msFor src mg b) := by
  intro as H σ δ μ st env D w
  refine hi as H σ δ μ st env _ ((want_toS (R := JRel c) env w).imp ?_)
  rintro J H1 ⟨as1, μ1, s, e1, s1, jr, w1⟩
  have env1 := env.mono e1
  refine ⟨fun i m σ2 H2 => m = s.n - i ∧ i ≤ s.n ∧ ∃ as2 μ2 δ2, Ext as1 H1 as2 H2 ∧ StH c as2 H2 μ2 ∧ EnvR c as2 H2 σ2 δ2 ∧ WantS c (forLoop s mg b (s.n - i) i δ2 μ2) as2 H2 D W,
    ⟨s.n, rfl, Nat.zero_le _, as1, μ1, δ, .refl, s1, env1, w1⟩, ?_⟩
  rintro i m σ2 H2 ⟨rfl, hin, as2, μ2, δ2, e2, s2, env2, wl⟩
  obtain ⟨jg, js⟩ := jr as2 H2 μ2 e2 s2
  by_cases hlt : i < s.n
  · obtain ⟨r, hr⟩ : ∃ r, s.n - i = r + 1 := ⟨s.n - i - 1, by omega⟩
    have hr' : s.n - (i + 1) = r := by omega
    rw [hr] at wl
    unfold forLoop at wl
    split at wl
    · exact wl.elim
    · rename_i δ1 hd
      cases hq : s.get i μ2 with
      | none => rw [hq] at hd; cases hd
      | some d =>
        rw [hq] at hd
        obtain ⟨g1, g2⟩ := jg i d hlt hq
        refine .inr ⟨g1, fun σ3 H3 => s.n - (i + 1) = s.n - (i + 1) ∧ i + 1 ≤ s.n ∧ ∃ as2 μ2 δ2, Ext as1 H1 as2 H3 ∧ StH c as2 H3 μ2 ∧ EnvR c as2 H3 σ3 δ2 ∧ WantS c (forLoop s mg b (s.n - (i + 1)) (i + 1) δ2 μ2) as2 H3 D W,
          fun σ3 H3 z => ⟨s.n - (i + 1), by omega, z⟩, fun x H3 hy => ?_⟩
        obtain ⟨rfl, rx⟩ := g2 x H3 hy
        refine hg as2 H3 σ2 δ2 x d δ1 env2 rx hd _ fun σ3 env3 => ?_
        refine hb as2 H3 σ3 δ1 μ2 s2 env3 _ ?_
        cases hbr : b δ1 μ2 with
        | nx δ' μ' =>
          rw [hbr] at wl
          exact fun σ' as' H' e s' env' => ⟨rfl, hlt, as', μ', δ', e2.trans e, s', env', by rw [hr']; exact WantS.mono (r := forLoop s mg b r (i + 1) δ' μ') e wl⟩
        | ct δ' μ' =>
          rw [hbr] at wl
          exact fun σ' as' H' e s' env' => ⟨rfl, hlt, as', μ', δ', e2.trans e, s', env', by rw [hr']; exact WantS.mono (r := forLoop s mg b r (i + 1) δ' μ') e wl⟩
        | bk δ' μ' => rw [hbr] at wl; exact wl
        | rt d' μ' => rw [hbr] at wl; exact wl
        | raise n δ' μ' => rw [hbr] at wl; exact wl
        | stuck => rw [hbr] at wl; exact wl
  · have ei : i = s.n := by omega
    subst ei
    rw [Nat.sub_self] at wl
    unfold forLoop at wl
    split at wl
    · rename_i hf
      exact .inl ⟨js hf, wl σ2 as2 H2 .refl s2 env2⟩
    · exact wl.elim
def whLoop (q : M Bool) (b : MS) : Nat → Env → Store → SRes
  | 0, _, _ => .stuck
  | r + 1, δ, μ => (q δ μ).toS δ fun k μ1 => if k = true then match b δ μ1 with
      | .nx δ' μ' => whLoop q b r δ' μ'
      | .ct δ' μ' => whLoop q b r δ' μ'
      | .bk δ' μ' => .nx δ' μ'
      | r => r
    else .nx δ μ1
def msWhile (n : Nat) (q : M Bool) (b : MS) : MS := fun δ μ => whLoop q b n δ μ
theorem sims_while (n : Nat) {tq : TT} {tb : TS} {q : M Bool} {b : MS} (hq : SimT c W tq q) (hb : SimS c W tb b) : SimS c W (tWhile tq tb) (msWhile n q b) := by
  intro as H σ δ μ st env D w
  refine ⟨fun m σ2 H2 => ∃ as2 μ2 δ2, Ext as H as2 H2 ∧ StH c as2 H2 μ2 ∧ EnvR c as2 H2 σ2 δ2 ∧ WantS c (whLoop q b m δ2 μ2) as2 H2 D W, ⟨n, as, μ, δ, .refl, st, env, w⟩, ?_⟩
  rintro m σ2 H2 ⟨as2, μ2, δ2, e2, s2, env2, wl⟩
  cases m with
  | zero => exact wl.elim
  | succ r =>
    unfold whLoop at wl
    refine hq as2 H2 σ2 δ2 μ2 s2 env2 _ ((want_toS (R := fun _ _ b d => b = d) env2 wl).imp ?_)
    rintro k H3 ⟨as3, μ3, _, e3, s3, rfl, w3⟩
    have env3 := env2.mono e3
    cases k with
    | false => exact iteF (w3 σ2 as3 H3 .refl s3 env3)
    | true =>
      refine iteT ⟨fun σ4 H4 => ∃ as2 μ2 δ2, Ext as H as2 H4 ∧ StH c as2 H4 μ2 ∧ EnvR c as2 H4 σ4 δ2 ∧ WantS c (whLoop q b r δ2 μ2) as2 H4 D W, fun σ4 H4 z => ⟨r, Nat.lt_succ_self r, z⟩, ?_⟩
      rw [if_pos rfl] at w3
      refine hb as3 H3 σ2 δ2 μ3 s3 env3 _ ?_
      cases hbr : b δ2 μ3 with
      | nx δ' μ' =>
        rw [hbr] at w3
        exact fun σ' as' H' e s' env' => ⟨as', μ', δ', (e2.trans e3).trans e, s', env', WantS.mono (r := whLoop q b r δ' μ') e w3⟩
      | ct δ' μ' =>
        rw [hbr] at w3
        exact fun σ' as' H' e s' env' => ⟨as', μ', δ', (e2.trans e3).trans e, s', env', WantS.mono (r := whLoop q b r δ' μ') e w3⟩
      | bk δ' μ' => rw [hbr] at w3; exact w3
      | rt d' μ' => rw [hbr] at w3; exact w3
      | raise n δ' μ' => rw [hbr] at w3; exact w3
      | stuck => rw [hbr] at w3; exact w3
/-! ### raise -/
def msRaise (n : Nat) : MS := fun δ μ => .raise n δ μ
theorem sims_raise (n : Nat) : SimS c W (fun _ σ H => W (.ref (c.cl n)) none σ H) (msRaise n) := fun as H σ δ μ st env D w => w σ as H .refl st env
/-! ### a def -/
def startD (N : Nat) (ds : List Dat) : Env := ds.map some ++ List.replicate (N - ds.length) none
def runB (N : Nat) (b : MS) : FA := fun ds μ => match b (startD N ds) μ with
  | .nx _ μ' => .ok .non μ'
  | .rt d μ' => .ok d μ'
  | .raise n _ μ' => .raise n μ'
  | _ => .stuck
theorem env_start {N : List Str} {vs : List V} {ds : List Dat} (r : RelAll c as H vs ds) : EnvR c as H (L2.start N vs) (startD N.length ds) := by
  unfold L2.start startD
  refine ⟨by simp [r.length], fun i d h => ?_⟩
  by_cases hi : i < ds.length
  · rw [List.getElem?_append_left (by simpa using hi), List.getElem?_map] at h
    rw [List.getElem?_append_left (by simpa [r.length] using hi), List.getElem?_map]
    cases hd : ds[i]? with
    | none => rw [hd] at h; cases h
    | some d' =>
      rw [hd] at h
      cases h
      obtain ⟨v, h1, h2⟩ := r.get hd
      exact ⟨v, by rw [h1]; rfl, h2⟩
  · rw [List.getElem?_append_right (by simpa using Nat.le_of_not_lt hi), List.getElem?_replicate] at h
    split at h <;> cases h
section
variable {P : Program} {w : World} {K : PySem.W.Frag} {mg : Str → Option Value} {base : Heap}
theorem want_run {N : List Str} {b : MS} {vs : List V} {ds : List Dat} {t : TS} {Q : VK} {E : XK} (hb : SimS c (fun cls d _ H => E cls d H) t b) (st : StH c as H μ) (rs : RelAll c as H vs ds)
    (h : Want c (Rel c) (runB N.length b ds μ) as H [] Q fun cls d _ H => E cls d H) : t { nx := fun _ H' => Q .non H', rt := Q } (L2.start N vs) H := by
  refine hb as H (L2.start N vs) _ μ st (env_start rs) _ ?_
  unfold runB at h
  cases hr : b (startD N.length ds) μ with
  | nx δ' μ' => rw [hr] at h; exact fun σ' as' H' e s _ => h .non as' H' e s .non
  | rt d μ' => rw [hr] at h; exact h
  | bk δ' μ' => rw [hr] at h; exact h.elim
  | ct δ' μ' => rw [hr] at h; exact h.elim
  | raise n δ' μ' => rw [hr] at h; exact fun σ' as' H' e s _ => h as' H' e s
  | stuck => rw [hr] at h; exact h.elim
/-- a def that may raise -/
theorem fn_simX {x qual : Str} {st : Stmt} {f : Addr} {fd : FuncData} {N ps : List Str} {k n : Nat} {b : MS} (F : Fun K x qual st f fd) (S : FnScope N ps (defScope st)) (hn : n = ps.length)
    (hbody : ∀ (cdv : Value) (A : Around) (outer : List PySem.Env) (s : Shared) (H : Hp) (E : XK), Room k (A.deeper (envOfC qual (defScope st) s.heap.objs.size f cdv)) →
      ∃ t, PSs (cxOf (L2.CX P w) P w K mg base N qual (defScope st) f cdv A outer s H E) (defBody st) t ∧ SimS c (fun cls d _ H => E cls d H) t b) :
    FnOk P w K mg base (L2.CX P w) (k + 1) f fd ps (spM c n (runB N.length b)) := by
  refine F.okX S (fun vs H Q E h => h.1.trans hn) (fun cdv A outer s H vs Q E hr h => ?_)
  obtain ⟨t, h1, h2⟩ := hbody cdv A outer s H E hr
  obtain ⟨_, as, μ, ds, st, rs, w⟩ := h
  exact ⟨t, h1, want_run h2 st rs w⟩
theorem want_nrE {R : List Addr → Hp → β → α → Prop} {f : FA} {ds : List Dat} {Q : VK} {W W' : WX} (w : Want c (Rel c) (nr f ds μ) as H σ Q W) : Want c (Rel c) (f ds μ) as H σ Q W' := by
  unfold nr at w
  cases h : f ds μ with
  | ok x μ' => rw [h] at w; exact w
  | raise n μ' => rw [h] at w; exact w.elim
  | stuck => rw [h] at w; exact w
/-- a def that raises nothing -/
theorem fn_sim0 {x qual : Str} {st : Stmt} {f : Addr} {fd : FuncData} {N ps : List Str} {k n : Nat} {b : MS} (F : Fun K x qual st f fd) (S : FnScope N ps (defScope st)) (hn : n = ps.length)
    (hbody : ∀ (cdv : Value) (A : Around) (outer : List PySem.Env) (s : Shared) (H : Hp) (E : XK), Room k (A.deeper (envOfC qual (defScope st) s.heap.objs.size f cdv)) →
      ∃ t, PSs (cxOf CX0 P w K mg base N qual (defScope st) f cdv A outer s H E).nox (defBody st) t ∧ SimS c (fun _ _ _ _ => False) t b) :
    FnOk P w K mg base CX0 (k + 1) f fd ps (spM c n (nr (runB N.length b))) := by
  refine F.ok S (fun vs H Q E h => h.1.trans hn) (fun cdv A outer s H vs Q E hr h => ?_)
  obtain ⟨t, h1, h2⟩ := hbody cdv A outer s H E hr
  obtain ⟨_, as, μ, ds, st, rs, w⟩ := h
  exact ⟨t, h1, want_run (E := fun _ _ _ => False) h2 st rs (want_nrE (R := Rel c) w)⟩
end
end
end Nh

namespace Nh
open PySem PySem.Spec PyProof.Rows L2
def ExOd (cls : Value) (d : Option Addr) (a : Addr) : HO := .ext fun h => ∃ oe vs, h.get? a = some oe ∧ Zc cls d oe ∧ oe.data = .fields vs
section
variable {X : Cx} {pins : List (Addr × Obj)} {σ : L2.St} {H : Hp} {s : Shared}
/-- behind an except suite the exception is an object that we know -/
theorem inv_keep {a : Addr} {oe : Obj} {cls : Value} {d : Option Addr} (J : Inv (X.suite a ((a, oe) :: (X.pn ++ pins))) [] σ H s) (ok : X.Ok) (hz : Zc cls d oe) (hd : ∃ vs, oe.data = .fields vs)
    (hex : X.ex = []) (fresh : X.s_0.heap.get? a = none) (apart : ∀ p ∈ X.pn ++ pins, p.1 ≠ a) : Inv X pins σ (upd H a (ExOd cls d a)) s := by
  obtain ⟨vs, hv⟩ := hd
  have I := J.unsuite ok
  obtain ⟨ga, na, nl, nf, _⟩ := J.pin (a, oe) (List.mem_append_left _ List.mem_cons_self)
  have other : ∀ {b : Addr} {o : HO}, H b = some o → b ≠ a := fun e => ne_of_none e na
  refine ⟨ok, I.os, I.bare, ⟨I.base.keep, I.base.slot, ?free, I.base.there, ?tups, ?frzs, ?tbls⟩, I.loc, I.cell, ?frame, ?cells, ?pins, ?hok, I.len⟩
  case free =>
    intro b o e n hb
    have ne : b ≠ a := by
      rintro rfl
      rw [fresh] at e
      cases e
    rw [upd_ne ne]
    exact I.base.free b o e n hb
  case tups =>
    intro b xs e
    have q := I.base.tups b xs e
    rw [upd_ne (other q)]
    exact q
  case frzs =>
    intro b o u e
    have q := I.base.frzs b o u e
    rw [upd_ne (other q)]
    exact q
  case tbls =>
    intro b ps e
    obtain ⟨more, q⟩ := I.base.tbls b ps e
    exact ⟨more, by rw [upd_ne (other q)]; exact q⟩
  case frame =>
    rw [upd_ne (fun z => nl z.symm)]
    exact I.free
  case cells =>
    intro x c e
    have ne : c ≠ a := by
      rintro rfl
      obtain ⟨v, o, ho, hw⟩ := I.cell x c e
      rw [ga] at ho
      cases ho
      rw [hv] at hw
      cases hw
    rw [upd_ne ne]
    exact I.freeC x c e
  case pins =>
    intro p hp
    obtain ⟨q1, q2, q3, q4, q5⟩ := I.pin p hp
    exact ⟨q1, by rw [upd_ne (apart p hp)]; exact q2, q3, q4, q5⟩
  case hok =>
    intro b o e
    by_cases hb : b = a
    · subst hb
      rw [upd_same] at e
      cases e
      exact ⟨⟨oe, vs, ga, hz, hv⟩, ⟨oe, ga⟩, fun h1 h2 z k => by
        obtain ⟨o1, v1, e1, z1, d1⟩ := z
        exact ⟨o1, v1, k _ e1, z1, d1⟩⟩
    · rw [upd_ne hb] at e
      exact (I.hok b o e).stay (fun _ _ _ q => q) (fun _ q => by rw [upd_ne (other q)]; exact q) fun _ _ q => by rw [upd_ne (other q)]; exact q
/-- what «except x as n: suite» wishes of an exception, which is kept: slot i is n's -/
def wKeep (K : PySem.W.Frag) (cv : Value) (i : Nat) (ts : Addr → Value → Option Addr → TS) (Wout : WX) (D : Ends) : WX := fun cls d σ H =>
  ∃ b, PySem.W.exmOne K cls cv = some b ∧ (b = true → ∀ a, H a = none → ts a cls d
    ⟨fun σ1 H1 => H1 a = none → D.nx (σ1.set i none) (upd H1 a (ExOd cls d a)), D.rt, fun σ1 H1 => D.bk (σ1.set i none) H1, fun σ1 H1 => D.ct (σ1.set i none) H1⟩ (σ.set i (some (.ref a))) H) ∧
    (b = false → Wout cls d σ H)
variable {x n : Str} {cv : Value} {i : Nat} {body suite : List Stmt} {st0 : Stmt} {np pos hpos : Pos} {tb : WX → TS} {ts : Addr → Value → Option Addr → TS} {Wout : WX}
theorem ps_try_keep (hstk : X.stack = X.env :: X.outer) (hfrm : X.env.frame = some X.env.locals) (hex : X.ex = []) (hN : X.N.Nodup) (hi : X.N[i]? = some n) (hln : X.env.kindOf n = some .local) (hcl : Names X x cv) (tk : Takes X Wout)
    (hbody : ∀ (W : WX) (pn : List (Addr × Obj)) (xe : Value → Shared → Prop), Takes (X.tr pn xe) W → PassesOwn (model X.prog X.w) X.A X.env xe → PSs (X.tr pn xe) body (tb W))
    (hsuite : ∀ (a : Addr) (oe : Obj) (cls : Value) (d : Option Addr) (pn : List (Addr × Obj)), Zc cls d oe → (∃ vs, oe.data = .fields vs) → PSs (X.suite a ((a, oe) :: pn)) (st0 :: suite) (ts a cls d)) :
    PS X (.Try body [.ExceptHandler (some (.Name x np)) (some n) (st0 :: suite) hpos] [] [] pos) (fun D σ H => tb (wKeep X.K cv i ts Wout D) D σ H) := by
  constructor
  intro pins s σ H D I h
  have ok := I.ok
  have frames : X.A.frames = some (X.env :: X.outer) := ok.frames.trans (congrArg some hstk)
  apply wpAny_Try_except
  have run := (hbody (wKeep X.K cv i ts Wout D) (X.pn ++ pins) (fun e s₁ => wpAny (model X.prog X.w) X.A (noteFrame e X.env)
    (fun _ s₂ => wpAny (model X.prog X.w) X.A (setFlight e none)
      (fun _ s₃ => wpAny (model X.prog X.w) X.A (handleBy e X.env [.ExceptHandler (some (.Name x np)) (some n) (st0 :: suite) hpos]) (SP X pins D) X.xe s₃) X.xe s₂) X.xe s₁)
    (fun u s' flying => ?caught) PassesOwn.looking).run [] s σ H D (I.toTry _) h
  refine wpAny_mono run (fun f s1 q => ?ended) fun _ _ z => z
  case ended =>
    cases f with
    | next =>
      obtain ⟨σ1, H1, J, q⟩ := q
      exact wpAny_execs_nil ⟨σ1, H1, J.ofTry ok, q⟩
    | brk =>
      obtain ⟨σ1, H1, J, q⟩ := q
      exact ⟨σ1, H1, J.ofTry ok, q⟩
    | cont =>
      obtain ⟨σ1, H1, J, q⟩ := q
      exact ⟨σ1, H1, J.ofTry ok, q⟩
    | ret u =>
      obtain ⟨v, σ1, H1, J, r, q⟩ := q
      exact ⟨v, σ1, H1, J.ofTry ok, r, q⟩
  case caught =>
    obtain ⟨a, G, sI, pins2, τ, L, cls, d, rfl, Jt, ground, up, sky, na, hos, gens, b, hmatch, yes, no⟩ := flying
    have J : Inv X pins τ L sI := Jt.ofTry ok
    have sky2 : Sky G (X.env :: X.outer) a (Zc cls d) X.env.locals s'.heap := hstk ▸ sky
    show wpAny (model X.prog X.w) X.A (noteFrame (.ref a) X.env) _ _ _
    refine sky2.land Zc.steady frames hfrm fun g3 fl3 up3 => ?_
    have J3 : Inv X pins τ L { s' with heap := g3 } := J.landed ground fl3.1 (up.trans up3) hos gens
    have apartF : a ∉ frs (X.env :: X.outer) := fun hm => by
      obtain ⟨oe, vs, he, _, hw⟩ := fl3.there
      obtain ⟨_, o2, e2, nofields⟩ := fl3.2.2.1.mem hm
      rw [he] at e2
      cases e2
      exact nofields _ hw
    have notLocals : a ≠ X.env.locals := fun z => apartF (List.mem_filterMap.mpr ⟨X.env, List.mem_cons_self, by rw [hfrm, z]⟩)
    have notOuter : a ∉ X.fs := fun hm => by
      obtain ⟨e, he, q⟩ := List.mem_filterMap.mp hm
      exact apartF (List.mem_filterMap.mpr ⟨e, List.mem_cons_of_mem _ he, q⟩)
    have unborn : sI.heap.get? a = none := by
      cases q : sI.heap.get? a with
      | none => rfl
      | some o =>
        have z := ground a o q (by rw [hstk]; exact apartF)
        rw [fl3.2.1] at z
        cases z
    have fresh : X.s_0.heap.get? a = none := by
      cases q : X.s_0.heap.get? a with
      | none => rfl
      | some o =>
        obtain ⟨o2, z⟩ := J.base.there a o q (by rw [hex]; exact List.not_mem_nil)
        rw [unborn] at z
        cases z
    have apart : ∀ p ∈ X.pn ++ pins, p.1 ≠ a := fun p hp z => by
      have q := (J.pin p hp).1
      rw [z, unborn] at q
      cases q
    obtain ⟨oe3, vs3, he3, hz3, hd3⟩ := fl3.there
    have S3 := J3.suite he3 hd3 na notLocals notOuter
    refine wpAny_handleBy_cons (codeAny_handlers_test ?_) fun z => nomatch z
    have kind : PySem.W.Looks (model X.prog X.w) g3 (typeOf (.ref a)) cls := fun A Q E t k q => wpAny_typeOf_ref (k _ _ he3) (by rw [hz3.1]; exact q)
    have test : ∀ {Q : Value → Shared → Prop} {E : Value → Shared → Prop}, Q cv { s' with heap := g3 } → wpAny (model X.prog X.w) (X.A.mark (some (.ref a))) (eval (.Name x np) X.env) Q E { s' with heap := g3 } := by
      intro Q E q
      obtain ⟨hg, hdb, hm | ⟨hm, hv, hnn⟩⟩ := hcl
      · exact ld_glob (X := X.suite a ((a, oe3) :: (X.pn ++ pins))) S3 hg hm q hdb
      · exact ld_blt (X := X.suite a ((a, oe3) :: (X.pn ++ pins))) S3 hg hm hv q hnn hdb
    refine test ((PySem.W.exm_one (M := model X.prog X.w) J3.kIn kind hmatch).here ?_)
    cases b with
    | true =>
      refine codeAny_handlers_suite_as (HandSPX.lands_againZ fl3 fun g4 fl4 up4 => ?_)
      have J4 : Inv X pins τ L { s' with heap := g4 } := J.landed ground fl4.1 ((up.trans up3).trans up4) hos gens
      obtain ⟨oe4, vs4, he4, hz4, hd4⟩ := fl4.there
      have S4 := J4.suite he4 hd4 na notLocals notOuter
      refine store_ok (X := X.suite a ((a, oe4) :: (X.pn ++ pins))) (v := .ref a) S4 hN hi (.inl hln) rfl (fun s5 S5 => ?_) (.inr hln)
      refine wpAny_mono ((hsuite a oe4 cls d (X.pn ++ pins) hz4 ⟨_, hd4⟩).run [] s5 _ L _ S5 (yes rfl a na)) (fun f s6 q => ?_) fun _ _ z => False.elim z
      have fin : ∀ {τ6 : L2.St} {L6 : Hp} {Q : Shared → Prop}, Inv (X.suite a ((a, oe4) :: (X.pn ++ pins))) [] τ6 L6 s6 → (∀ s7, Inv X pins (τ6.set i none) L6 s7 → Q s7) →
          wpAny (model X.prog X.w) X.A (do bindName X.env n .none; unbindBehindTheSuite X.env n hpos) (fun _ s7 => Q s7) X.xe s6 := fun S hq => gone_ok (S.unsuite ok) hN hi hln hq
      cases f with
      | next =>
        obtain ⟨τ6, L6, S6, q6⟩ := q
        have nL : L6 a = none := (S6.pin (a, oe4) (List.mem_append_left _ List.mem_cons_self)).2.1
        exact gone_ok (inv_keep S6 ok hz4 ⟨_, hd4⟩ hex fresh apart) hN hi hln fun s7 J7 => ⟨_, _, J7, q6 nL⟩
      | brk =>
        obtain ⟨τ6, L6, S6, q6⟩ := q
        exact fin S6 fun s7 J7 => ⟨_, _, J7, q6⟩
      | cont =>
        obtain ⟨τ6, L6, S6, q6⟩ := q
        exact fin S6 fun s7 J7 => ⟨_, _, J7, q6⟩
      | ret u =>
        obtain ⟨v6, τ6, L6, S6, r6, q6⟩ := q
        exact fin S6 fun s7 J7 => ⟨_, _, _, J7, r6, q6⟩
    | false =>
      show wpAny _ X.A (handleBy (.ref a) X.env []) _ _ _
      refine wpAny_handleBy_nil ?_
      obtain ⟨k1, k2, k3, oe, vs, T, oT, ts', he, hz, hd, h1, hr⟩ := id fl3
      unfold PySem.passOn
      refine wpAny_bind (wpAny_field he hd h1 ?_)
      have hT : ¬ ((Value.ref T == Value.none) = true) := by simp
      rw [if_neg hT]
      have fin : wpAny (model X.prog X.w) X.A (setFlight (.ref a) X.env.frame) (fun _ s4 => wpAny (model X.prog X.w) X.A (throw (.ref a) : Sem Flow) (SP X pins D) X.xe s4) X.xe { s' with heap := g3 } := by
        rw [hfrm]
        refine HandSPX.setFlight_upZ fl3 fun g4 held up4 => wpAny_throw (tk _ _ ?_)
        exact ⟨a, G, sI, pins, τ, L, cls, d, rfl, J, ground, (up.trans up3).trans up4, .inr (.inr (hstk.symm ▸ held)), na, hos, gens, no rfl⟩
      first
        | exact wpAny_bind (wpAny_pure (wpAny_bind fin))
        | exact wpAny_bind fin
end
end Nh

namespace Nh
open PySem PySem.Spec PyProof.Rows L2
/-! ### isinstance of data and of kept exceptions -/
inductive TyE (K : PySem.W.Frag) (H : Hp) : V → Value → Prop where
  | x {v : V} {t : Value} (h : TyX K H v t) : TyE K H v t
  | exc {a B : Addr} (h : H a = some (ExOd (.ref B) none a)) (k : ExcC K B) : TyE K H (.ref a) (.ref B)
section
variable {X : Cx} {pins : List (Addr × Obj)} {σ : L2.St} {H : Hp} {s : Shared}
theorem kit_ofE {v : V} {u t : Value} (I : Inv X pins σ H s) (rv : RelV v u) (ty : TyE X.K H v t) : ∃ P : Heap → Prop, PySem.W.KitX X.K u t P ∧ P s.heap ∧ u ≠ .builtin "__main__.__loader__#opaque" := by
  cases ty with
  | x h => exact kit_of I rv h
  | @exc a B h k =>
    obtain rfl : u = Value.ref a := rv
    obtain ⟨⟨oe, vs, ge, hz, hv⟩, _, _⟩ := (show ObjOk X.prog X.w H s.heap a (ExOd (.ref B) none a) from I.hok a _ h)
    obtain ⟨oc, od, oda, osl⟩ := oe
    obtain ⟨z1, z2⟩ := hz
    dsimp only at z1 z2 hv
    subst z1 z2 hv
    exact ⟨_, PySem.W.handS_kitx_exc k.hg k.hk k.hs k.hd k.ha k.hn k.ht k.hm, (show PySem.W.InstAt s.heap a _ B none from ⟨ge, rfl, rfl, trivial⟩), fun z => nomatch z⟩
end
def rIsA (K : PySem.W.Frag) : List V → Hp → VK → Prop := fun xs H Q =>
  (∃ (v k : V) (t u : Value) (b : Bool), xs = [v, k] ∧ ClsV k u ∧ TyE K H v t ∧ PySem.W.kitOne K t u = some b ∧ Q (.bl b) H) ∨
  ∃ (v : V) (tp : Addr) (cs : List V) (t : Value) (us : List Value) (b : Bool), xs = [v, .ref tp] ∧ SqT K H tp cs ∧ Paired ClsV cs us ∧ TyE K H v t ∧ PySem.W.kitAny K t us = some b ∧ Q (.bl b) H
theorem call_isA {X : Cx} : CallR X (.builtin "isinstance") (rIsA X.K) := by
  intro pins s σ H xs us Q I r h
  rcases h with ⟨v, k, t, u, b, rfl, kc, ty, e, q⟩ | ⟨v, tp, cs, t, ws, b, rfl, hT, kc, ty, e, q⟩
  · obtain ⟨u1, u2, rfl, r1, r2⟩ := vals2 r
    obtain rfl := kc.eq r2
    obtain ⟨P, Z, p, hx⟩ := kit_ofE I r1 ty
    exact PySem.W.kia_one Z I.kIn p e hx fun tk => ⟨.bl b, H, I.tok tk, rfl, q⟩
  · obtain ⟨u1, u2, rfl, r1, r2⟩ := vals2 r
    cases (show u2 = Value.ref tp from r2)
    obtain ⟨P, Z, p, hx⟩ := kit_ofE I r1 ty
    obtain ⟨its, rv, ⟨o, h1, h2, n, h3⟩, _⟩ := I.tuple hT
    have e3 := ClsV.all kc rv
    subst e3
    obtain ⟨oc, od, dt, sl⟩ := o
    dsimp only at h2 h3
    subst h2 h3
    exact PySem.W.kia_tup Z I.kIn p h1 e hx fun tk => ⟨.bl b, H, I.tok tk, rfl, q⟩
/-- what is known of the program's classes -/
structure Tab where
  sub : Nat → Nat → Option Bool
  subTy : Nat → String → Option Bool
  kc : String → Nat → Option Bool
structure TabOk (c : Cfg) (tb : Tab) : Prop where
  sub : ∀ n m b, tb.sub n m = some b → PySem.W.kitOne c.K (.ref (c.cl n)) (.ref (c.cl m)) = some b
  subTy : ∀ n m b, tb.subTy n m = some b → PySem.W.kitOne c.K (.ref (c.cl n)) (.type m) = some b
  kc : ∀ n m b, tb.kc n m = some b → PySem.W.kitOne c.K (.type n) (.ref (c.cl m)) = some b
  exc : ∀ n, tb.sub n n = some true → ExcC c.K (c.cl n)
section
variable {c : Cfg} {as as' : List Addr} {H H' : Hp} {σ : L2.St} {δ : Env} {μ : Store} {W : WX} {tb : Tab}
def tyD (μ : Store) : Dat → Option (Sum String Nat)
  | .cell k => match μ[k]? with
    | some (.exc n) => some (.inr n)
    | _ => (kindD μ (.cell k)).map .inl
  | d => (kindD μ d).map .inl
def tyVal (c : Cfg) : Sum String Nat → Value
  | .inl k => .type k
  | .inr n => .ref (c.cl n)
def tabHas (tb : Tab) : Sum String Nat → Bool
  | .inl _ => true
  | .inr n => tb.sub n n == some true
theorem tyD_of {v : V} {d : Dat} {t : Sum String Nat} (ok : TabOk c tb) (st : StH c as H μ) (r : Rel c as H v d) (h : tyD μ d = some t) (hb : tabHas tb t = true) : TyE c.K H v (tyVal c t) := by
  have plain : ∀ {d : Dat} {t : Sum String Nat}, Rel c as H v d → (kindD μ d).map Sum.inl = some t → TyE c.K H v (tyVal c t) := by
    intro d t r h
    cases hk : kindD μ d with
    | none => rw [hk] at h; cases h
    | some k => rw [hk] at h; cases h; exact .x (kindD_of st r hk)
  unfold tyD at h
  split at h
  · split at h
    · rename_i k n hk
      cases h
      cases r with
      | cell ha =>
        have e := st.cell_at hk ha
        exact .exc e (ok.exc n (by simpa [tabHas] using hb))
    · exact plain r h
  · exact plain r h
def oneD (tb : Tab) (t : Sum String Nat) : Dat → Option Bool
  | .ty s => match t with
    | .inl k => kitB k s
    | .inr n => tb.subTy n s
  | .cls m => match t with
    | .inl k => tb.kc k m
    | .inr n => tb.sub n m
  | _ => none
theorem oneD_of {v : V} {d : Dat} {t : Sum String Nat} {b : Bool} (ok : TabOk c tb) (r : Rel c as H v d) (h : oneD tb t d = some b) : ∃ u, ClsV v u ∧ PySem.W.kitOne c.K (tyVal c t) u = some b := by
  cases r with
  | ty n =>
    refine ⟨.type n, .ty n, ?_⟩
    cases t with
    | inl k => exact kit_ty h
    | inr m => exact ok.subTy m n b h
  | cls m =>
    refine ⟨.ref (c.cl m), .own _, ?_⟩
    cases t with
    | inl k => exact ok.kc k m b h
    | inr n => exact ok.sub n m b h
  | _ => cases h
def anyD (tb : Tab) (t : Sum String Nat) : List Dat → Option Bool
  | [] => some false
  | d :: r => match oneD tb t d, anyD tb t r with
    | some a, some b => some (a || b)
    | _, _ => none
theorem anyD_of {t : Sum String Nat} (ok : TabOk c tb) : ∀ {ds : List Dat} {vs : List V} {b : Bool}, RelAll c as H vs ds → anyD tb t ds = some b → ∃ us, Paired ClsV vs us ∧ PySem.W.kitAny c.K (tyVal c t) us = some b
  | [], _, _, r, h => by cases h; cases r; exact ⟨[], .nil, kitAny_nil⟩
  | d :: ds, _, b, r, h => by
    cases r with
    | cons h1 t1 =>
      unfold anyD at h
      split at h
      · rename_i p q e1 e2
        cases h
        obtain ⟨u, k1, k2⟩ := oneD_of ok h1 e1
        obtain ⟨us, k3, k4⟩ := anyD_of ok t1 e2
        refine ⟨u :: us, .cons k1 k3, kitAny_cons k2 (fun hp => ?_) fun hp => ?_⟩
        · subst hp
          exact k4
        · subst hp
          rfl
      · cases h
def fIsA (tb : Tab) : FA := fun ds μ => match ds with
  | [d, .tup cs] => match tyD μ d with
    | some t => if tabHas tb t = true then match anyD tb t cs with
      | some b => .ok (.bl b) μ
      | none => .stuck else .stuck
    | none => .stuck
  | [d, k] => match tyD μ d with
    | some t => if tabHas tb t = true then match oneD tb t k with
      | some b => .ok (.bl b) μ
      | none => .stuck else .stuck
    | none => .stuck
  | _ => .stuck
theorem simc_isA (ok : TabOk c tb) : SimC c (rIsA c.K) (fIsA tb) := by
  intro as H μ vs ds st rs σ W Q h
  unfold fIsA at h
  split at h
  · split at h
    · rename_i t ht
      split at h
      · rename_i hb
        split at h
        · rename_i b hy
          obtain ⟨v, w, rfl, r, rn⟩ := rel2 rs
          cases rn with
          | tup h1 h2 =>
            obtain ⟨us, k3, k4⟩ := anyD_of ok h2 hy
            exact .inr ⟨v, _, _, tyVal c t, us, b, rfl, h1.sq, k3, tyD_of ok st r ht hb, k4, h _ as H .refl st (.bl _)⟩
        · exact h.elim
      · exact h.elim
    · exact h.elim
  · split at h
    · rename_i t ht
      split at h
      · rename_i hb
        split at h
        · rename_i b hy
          obtain ⟨v, w, rfl, r, rn⟩ := rel2 rs
          obtain ⟨u, k1, k2⟩ := oneD_of ok rn hy
          exact .inl ⟨v, w, tyVal c t, u, b, rfl, k1, tyD_of ok st r ht hb, k2, h _ as H .refl st (.bl _)⟩
        · exact h.elim
      · exact h.elim
    · exact h.elim
  · exact h.elim
/-! ### try: body; except x as n: suite, the exception kept -/
/-- the clause names class m; its name has slot i; the suite stores it in slot j -/
def msTry (tb : Tab) (m i j : Nat) (b : MS) : MS := fun δ μ => match b δ μ with
  | .raise n δ' μ' => match tb.sub n m with
    | some true => if i < δ'.length then .nx (((δ'.set i (some (.cell μ'.length))).set j (some (.cell μ'.length))).set i none) (μ' ++ [.exc n]) else .stuck
    | some false => .raise n δ' μ'
    | none => .stuck
  | r => r
theorem sims_try {m i j : Nat} {tbd : WX → TS} {b : MS} (hs : ∀ n k, tb.sub n m = some k → PySem.W.exmOne c.K (.ref (c.cl n)) (.ref (c.cl m)) = some k) (hb : ∀ W, SimS c W (tbd W) b) :
    SimS c W (fun D σ H => tbd (wKeep c.K (.ref (c.cl m)) i (fun _ _ _ => tAsg (tVar i) (gName j)) W D) D σ H) (msTry tb m i j b) := by
  intro as H σ δ μ st env D w
  refine hb _ as H σ δ μ st env D ?_
  unfold msTry at w
  cases hr : b δ μ with
  | nx δ' μ' => rw [hr] at w; exact w
  | rt d μ' => rw [hr] at w; exact w
  | bk δ' μ' => rw [hr] at w; exact w
  | ct δ' μ' => rw [hr] at w; exact w
  | stuck => rw [hr] at w; exact w
  | raise n δ' μ' =>
    rw [hr] at w
    intro σ1 as1 H1 e1 s1 env1
    dsimp only at w
    split at w
    · rename_i hk
      split at w
      · rename_i hlt
        refine ⟨true, hs n true hk, fun _ a na => ?_, fun z => absurd z.symm Bool.false_ne_true⟩
        have hi1 : i < σ1.length := by rw [env1.len]; exact hlt
        refine ⟨.ref a, by rw [List.getElem?_set_self hi1], fun nb => ?_⟩
        have ea : Ext as1 H1 (as1 ++ [a]) (upd H1 a (ExOd (.ref (c.cl n)) none a)) := ext_alloc na
        have sa := s1.alloc (o := ExOd (.ref (c.cl n)) none a) (x := .exc n) na upd_same
        have ra : Rel c (as1 ++ [a]) (upd H1 a (ExOd (.ref (c.cl n)) none a)) (.ref a) (.cell μ'.length) := rel_alloc s1
        exact w _ _ _ (e1.trans ea) sa ((((env1.mono ea).set i ra).set j ra).setN i)
      · exact w.elim
    · rename_i hk
      exact ⟨false, hs n false hk, (fun z => absurd z Bool.false_ne_true), fun _ => w σ1 as1 H1 e1 s1 env1⟩
    · exact w.elim
end
end Nh

namespace Nh
open PySem PySem.Spec PyProof.Rows L2
/-- a text some times over -/
def rMulS : R2 := fun x y H Q => ∃ (z : Str) (n : Int), x = .str z ∧ y = .int n ∧ (0 ≤ n ∧ n ≤ 1000 ∧ z.length ≤ 1000) ∧ Q (.str (Txt.mul z n)) H
theorem mulOk_small {z : Str} {n : Int} (h : 0 ≤ n ∧ n ≤ 1000 ∧ z.length ≤ 1000) : MulOk z n := by
  obtain ⟨h0, h1, h2⟩ := h
  refine ⟨?_, fun hn _ => ?_, fun hn _ => ?_⟩
  · rw [decide_eq_false (by omega : ¬ n < -(2 ^ 63 : Int)), decide_eq_false (by omega : ¬ n ≥ 2 ^ 63)]
    rfl
  · have hz : (z.length : Int) ≤ 1000 := by omega
    have hq : (1000 : Int) ≤ (2 ^ 63 - 1) / n := by
      refine (Int.le_ediv_iff_mul_le (by omega)).mpr ?_
      omega
    omega
  · unfold Builtin.Str.tooLong
    have hm : z.length * n.toNat ≤ 1000 * 1000 := Nat.mul_le_mul h2 (by omega)
    have hs : sizeLine = 16777216 := sizeLine_eq
    simp only [decide_eq_false_iff_not, Nat.not_lt, gt_iff_lt]
    omega
theorem op_mulS {X : Cx} : OpR X (binaryOp .Mult) rMulS := by
  intro pins s σ H x y v u Q I rx ry h
  obtain ⟨z, n, rfl, rfl, hok, q⟩ := h
  obtain ⟨t, rfl⟩ := rx
  obtain ⟨t2, rfl⟩ := ry
  exact PySem.SB.mul (mulOk_small hok) fun t' k => ⟨.str _, H, I.tok k, ⟨t', rfl⟩, q⟩
section
variable {c : Cfg}
def fMulS : F2 := fun x y μ => match x, y with
  | .str z, .int n => if 0 ≤ n ∧ n ≤ 1000 ∧ z.length ≤ 1000 then .ok (.str (Txt.mul z n)) μ else .stuck
  | _, _ => .stuck
theorem simr_mulS : SimR c rMulS fMulS := by
  intro as H μ v w x y st rx ry σ W Q h
  unfold fMulS at h
  split at h
  · split at h
    · rename_i hz
      cases rx
      cases ry
      exact ⟨_, _, rfl, rfl, hz, h _ as H .refl st (.str _)⟩
    · exact h.elim
  · exact h.elim
end
end Nh

namespace Nh
open PySem PySem.Spec PyProof.Rows L2
/-! ### isinstance and except over own classes, from what the top has written -/
theorem kit_one {K : PySem.W.Frag} {A C : Addr} {b : Bool} (ci : PySem.W.isClsIn K C = true) (ty : PySem.W.typeIn K (.ref C) = some (.type "type")) (self : PySem.W.subIn K (.ref C) (.ref C) = some true)
    (s : PySem.W.subIn K (.ref A) (.ref C) = some b) : PySem.W.kitOne K (.ref A) (.ref C) = some b := by
  unfold PySem.W.kitOne
  by_cases e : ((Value.ref A) == (Value.ref C)) = true
  · rw [if_pos e]
    have e2 : A = C := Value.ref.inj (beq_iff_eq.mp e)
    subst e2
    exact self.symm.trans s
  · rw [if_neg e]
    show (if ((PySem.W.clsIn K C).isSome && PySem.W.typeIn K (.ref C) == some (.type "type")) = true then PySem.W.subIn K (.ref A) (.ref C) else none) = some b
    have ci' : (PySem.W.clsIn K C).isSome = true := ci
    rw [ci', ty, if_pos (by rfl)]
    exact s
theorem exm_one_ {K : PySem.W.Frag} {A C : Addr} {b : Bool} (bs : PySem.W.subIn K (.ref C) (.type "BaseException") = some true) (ci : PySem.W.isClsIn K C = true) (ty : PySem.W.typeIn K (.ref C) = some (.type "type"))
    (s : PySem.W.subIn K (.ref A) (.ref C) = some b) : PySem.W.exmOne K (.ref A) (.ref C) = some b := by
  unfold PySem.W.exmOne
  rw [bs, if_pos (by rfl)]
  show (if ((PySem.W.clsIn K C).isSome && PySem.W.typeIn K (.ref C) == some (.type "type")) = true then PySem.W.subIn K (.ref A) (.ref C) else none) = some b
  have ci' : (PySem.W.clsIn K C).isSome = true := ci
  rw [ci', ty, if_pos (by rfl)]
  exact s
theorem kit_val {K : PySem.W.Frag} {A : Addr} {t : String} {b : Bool} (s : PySem.W.subIn K (.ref A) (.type t) = some b) (hm : PySem.W.kitMeta t = true) : PySem.W.kitOne K (.ref A) (.type t) = some b := by
  unfold PySem.W.kitOne
  have ne : ¬ ((Value.ref A == Value.type t) = true) := fun e => Value.noConfusion (beq_iff_eq.mp e)
  rw [if_neg ne]
  show (if PySem.W.kitMeta t = true then PySem.W.subIn K (.ref A) (.type t) else none) = some b
  rw [if_pos hm]
  exact s
/-! ### the law itself -/
theorem fn_mono {P : Program} {w : World} {K : PySem.W.Frag} {mg : Str → Option Value} {base : Heap} {CX : CXT} {k : Nat} {f : Addr} {fd : FuncData} {ps : List Str} {sp sp' : Sp}
    (F : FnOk P w K mg base CX k f fd ps sp) (h : ∀ vs H Q E, sp' vs H Q E → sp vs H Q E) (hl : ∀ vs H Q E, sp' vs H Q E → vs.length = 1 → True) : FnOk P w K mg base CX k f fd ps sp' :=
  ⟨fun vs H Q E z => F.len vs H Q E (h vs H Q E z), fun A outer s H args us vs Q E hr e0 hb r z => F.run A outer s H args us vs Q E hr e0 hb r (h vs H Q E z)⟩
def spLaw (K : PySem.W.Frag) : Sp := fun vs H Q _ => ∃ (a : Addr) (ns : List Int), vs = [.ref a] ∧ ns.length ≤ 63 ∧ Only H ∧ SqL K H a (ns.map V.int) ∧ ∀ H', Q (.bl true) H'
theorem sp_law (c : Cfg) (f : FA) (law : ∀ ns : List Int, ns.length ≤ 63 → ∃ μ, f [.ro ns] [] = .ok (.bl true) μ) {vs : List V} {H : Hp} {Q : VK} {E : XK} (h : spLaw c.K vs H Q E) : spM c 1 f vs H Q E := by
  obtain ⟨a, ns, rfl, hl, hO, hS, q⟩ := h
  obtain ⟨μ, e⟩ := law ns hl
  have ro : RoL c.K H a (ns.map V.int) := by
    rcases hS with (z | z) | z
    · rcases hO a with y | ⟨o, xs, y⟩
      · rw [y] at z; cases z
      · rw [y] at z; cases z
    · exact .inl z
    · obtain ⟨o, its, n, h1, h2, h3⟩ := id z
      exact .inr ⟨fun _ => .inr z, o, h1, h2⟩
  refine ⟨rfl, [], [], [.ro ns], ⟨List.nodup_nil, rfl, fun k x z => nomatch z⟩, .cons (.ro ro) .nil, ?_⟩
  rw [e]
  intro v as' H' _ _ r
  cases r
  exact q H'
end Nh

namespace Nh
open PySem PySem.Spec PyProof.Rows L2
theorem fm_congr {α β : Type} {f g : α → Option β} : ∀ {l : List α}, (∀ a ∈ l, f a = g a) → l.filterMap f = l.filterMap g
  | [], _ => rfl
  | a :: r, h => by
    rw [List.filterMap_cons, List.filterMap_cons, h a List.mem_cons_self, fm_congr fun b hb => h b (List.mem_cons_of_mem _ hb)]
/-! ### x[::-1] of a tuple, of a list -/
section
variable {prog : Program} {w : World} {A : Around} {E : Value → Shared → Prop} {s : Shared}
theorem back_places (n : Nat) : Builtin.Slice.slicePlaces ((n : Int) - 1) (-1) (-1) = n := by
  unfold Builtin.Slice.slicePlaces
  rw [if_neg (by decide)]
  by_cases h : (n : Int) - 1 > -1
  · rw [if_pos h, show (- -1 : Int) = 1 by decide, Int.ediv_one]
    omega
  · rw [if_neg h]
    omega
theorem back_applied {sl : Addr} {tk : Tok} {n : Nat} {Q : Int × Int × Nat → Shared → Prop} (hs : s.heap.IsSliceOf sl .none .none (.int (-1) tk)) (q : Q ((n : Int) - 1, -1, n) s) :
    wpAny (model prog w) A (Builtin.Slice.sliceApplied (.ref sl) (pure (n : Int))) Q E s := by
  obtain ⟨os, e1, _, e2⟩ := id hs
  unfold Builtin.Slice.sliceApplied Builtin.Slice.sliceFields
  refine wpAny_bind (wpAny_bind (wpAny_field e1 e2 (x := .none) rfl (wpAny_bind (wpAny_field e1 e2 (x := .none) rfl (wpAny_bind (wpAny_field e1 e2 (x := .int (-1) tk) rfl (wpAny_pure ?_)))))))
  refine wpAny_bind (HT.slicePart_ (.int (-1) tk) ?_)
  show wpAny _ _ (if ((-1 : Int) == 0) = true then _ else _) _ _ s
  rw [if_neg (by decide)]
  refine wpAny_bind (HT.slicePart_ .none (wpAny_bind (HT.slicePart_ .none (wpAny_bind (wpAny_pure ?_)))))
  show wpAny _ _ (pure ((n : Int) - 1, (-1 : Int), Builtin.Slice.slicePlaces ((n : Int) - 1) (-1) (-1))) _ _ s
  rw [back_places]
  exact wpAny_pure q
theorem back_pick (xs : Array Value) : ((List.range xs.size).filterMap fun (j : Nat) => xs[(((xs.size : Nat) : Int) - 1 + (j : Int) * (-1)).toNat]?).toArray = xs.toList.reverse.toArray := by
  congr 1
  have e : ∀ j ∈ List.range xs.size, xs[(((xs.size : Nat) : Int) - 1 + (j : Int) * (-1)).toNat]? = xs[xs.size - 1 - j]? := fun j hj => by
    have := List.mem_range.mp hj
    rw [show (((xs.size : Nat) : Int) - 1 + (j : Int) * (-1)).toNat = xs.size - 1 - j by omega]
  have e2 : (List.range xs.size).filterMap (fun (j : Nat) => xs[(((xs.size : Nat) : Int) - 1 + (j : Int) * (-1)).toNat]?) = (List.range xs.size).filterMap (fun j => xs[xs.size - 1 - j]?) := fm_congr e
  rw [e2]
  apply List.ext_getElem?
  intro i
  have e3 : (List.range xs.size).filterMap (fun j => xs[xs.size - 1 - j]?) = (List.range xs.size).map (fun j => (xs[xs.size - 1 - j]?).getD .none) := by
    rw [← List.filterMap_eq_map]
    refine fm_congr fun j hj => ?_
    have := List.mem_range.mp hj
    show xs[xs.size - 1 - j]? = some ((xs[xs.size - 1 - j]?).getD .none)
    rw [Array.getElem?_eq_getElem (by omega)]
    rfl
  rw [e3, List.getElem?_map]
  by_cases hi : i < xs.size
  · rw [List.getElem?_range hi, List.getElem?_reverse (by rw [Array.length_toList]; exact hi), Array.length_toList, Array.getElem?_toList]
    show some ((xs[xs.size - 1 - i]?).getD .none) = _
    rw [Array.getElem?_eq_getElem (by omega)]
    rfl
  · rw [List.getElem?_eq_none (by rw [List.length_range]; omega), List.getElem?_eq_none (by rw [List.length_reverse, Array.length_toList]; omega)]
    rfl
theorem back_tuple {t sl : Addr} {xs : Array Value} {tk : Tok} {Q : Value → Shared → Prop} (ht : IsTup s.heap t xs) (hs : s.heap.IsSliceOf sl .none .none (.int (-1) tk)) (hz : xs.size ≤ sizeLine)
    (q : Q (.ref s.heap.objs.size) { s with heap := s.heap.push { cls := .type "tuple", data := .seq xs.toList.reverse.toArray } }) : wpAny (model prog w) A (getItem (.ref t) (.ref sl)) Q E s := by
  have fit : sizeOk (.seq xs.toList.reverse.toArray) := by
    show xs.toList.reverse.toArray.size ≤ sizeLine
    rw [List.size_toArray, List.length_reverse, Array.length_toList]
    exact hz
  obtain ⟨os, e1, e2, _⟩ := id hs
  have kind : s.TypeIs (.ref sl) "slice" := ⟨os, e1, e2⟩
  unfold getItem
  try with_reducible refine wpAny_holding ?_
  first | refine wpAny_bind (wpAny_pure ?_) | skip
  refine wpAny_bind (wpAny_sequenceKey ht.typeIs (by decide) ?_)
  refine wpAny_bind (wpAny_callSpecial?_slot (name := Str.ofString "__getitem__") ht.typeIs PyProof.Rows.slot_tuple_getitem (wpAny_call_entry PyProof.Rows.slot_tuple_getitem ht.typeIs entry_tuple_getitem ?_ (args_tuple_getitem _ _)))
  show wpAny _ _ (Builtin.Tuple.tupleItemsOf (.ref t) >>= fun _ => _) _ _ s
  refine wpAny_bind (tupleItemsOf_ ht ?_)
  refine wpAny_bind (wpAny_typeOf kind ?_)
  rw [if_pos (by decide)]
  refine wpAny_bind (back_applied hs ?_)
  have no : ¬ ((((xs.size : Nat) : Int) - 1 == 0 && (-1 : Int) == 1 && xs.size == xs.size) = true) := by
    intro z
    rw [Bool.and_eq_true, Bool.and_eq_true] at z
    exact absurd (eq_of_beq z.1.2) (by decide)
  show wpAny _ _ (if (((xs.size : Nat) : Int) - 1 == 0 && (-1 : Int) == 1 && xs.size == xs.size) = true then _ else _) _ _ s
  rw [if_neg no, back_pick]
  first
    | exact wpAny_bind (m := Builtin.Tuple.tupleExact _) (wpAny_newObj_type (wpAny_pure ⟨_, rfl, wpAny_pure q⟩) fit)
    | exact wpAny_bind (m := Builtin.Tuple.tupleExact _) (wpAny_newObj_type (wpAny_bind (wpAny_pure (wpAny_pure ⟨_, rfl, wpAny_pure q⟩))) fit)
    | exact wpAny_bind (wpAny_bind (m := Builtin.Tuple.tupleExact _) (wpAny_newObj_type (wpAny_pure (wpAny_pure ⟨_, rfl, wpAny_pure q⟩)) fit))
    | exact wpAny_bind (wpAny_bind (m := Builtin.Tuple.tupleExact _) (wpAny_newObj_type (wpAny_pure ⟨_, rfl, wpAny_pure q⟩) fit))
end
/-- a reading of x[::-1] -/
def BackR (X : Cx) (r : V → Hp → VK → Prop) : Prop :=
  ∀ (pins : List (Addr × Obj)) (s : Shared) (σ : L2.St) (H : Hp) (x : V) (v : Value) (tk : Tok) (sl : Addr) (Q : VK), Inv X pins σ H s → RelV x v → s.heap.IsSliceOf sl .none .none (.int (-1) tk) → r x H Q →
    ∃ T id, typeLookup (.type T) "__getitem__" = pure (some (.builtin id)) ∧ s.TypeIs v T ∧ wpAny (model X.prog X.w) X.A (getItem v (.ref sl)) (EP X pins σ Q) X.xe s
def tBack (r : V → Hp → VK → Prop) (te : TE) (tl : TO) : TE := fun σ H Q => te σ H fun x H1 => tl σ H1 fun o H2 => o = some (-1) ∧ r x H2 Q
theorem pe_back {X : Cx} {e c : Expr} {p2 pos : Pos} {te : TE} {tl : TO} {r : V → Hp → VK → Prop} (hr : BackR X r) (he : PE X e te) (hc : PO X (some c) tl)
    (hb : ∀ (v : Value) (d : Addr), ∃ ops, subscripted (.Slice none none (some c) p2) false v (.ref d) = operate ops (getItem v (.ref d)) := by intro v d; exact ⟨_, by with_unfolding_all rfl⟩) : PE X (.Subscript e (.Slice none none (some c) p2) pos) (tBack r te tl) := by
  refine ⟨fun pins s σ H Q I h => ?_⟩
  refine Subscript_ (thn (he.run pins s σ H _ I h) fun v s1 ⟨x, H1, I1, r1, q1⟩ => ?_)
  refine wpAny_Slice (wpAny_pure (wpAny_pure ?_))
  refine thn (hc.run pins s1 σ H1 _ I1 q1) fun u s2 ⟨o, H2, I2, pu, ho, q2⟩ => ?_
  subst ho
  cases pu with
  | int _ tk =>
    have I3 : Inv X pins σ H2 { s2 with heap := s2.heap.push { cls := .type "slice", data := .fields #[.none, .none, .int (-1) tk] } } := I2.kept (t' := s2.toks) fun _ _ z => Heap.get?_push_of_some _ z
    obtain ⟨T, id, hT, ht, hg⟩ := hr pins _ σ H2 x v tk s2.heap.objs.size Q I3 r1 (Heap.IsSliceOf.new ..) q2
    obtain ⟨ops, eo⟩ := hb v s2.heap.objs.size
    exact tail_any (ops := ops) ht hT hg eo
def rBackT (K : PySem.W.Frag) : V → Hp → VK → Prop := fun x H Q => ∃ a xs, x = .ref a ∧ SqT K H a xs ∧ ∀ p, H p = none → Q (.ref p) (upd H p (.tup xs.reverse))
def rBackL (K : PySem.W.Frag) : V → Hp → VK → Prop := fun x H Q => ∃ a xs, x = .ref a ∧ SqL K H a xs ∧ ∀ p, H p = none → Q (.ref p) (upd H p (.lst xs.reverse))
theorem vals_back : ∀ {xs : List V} {us : List Value}, Vals xs us → Vals xs.reverse us.reverse
  | _, _, .nil => .nil
  | _, _, .cons h t => by
    rw [List.reverse_cons, List.reverse_cons]
    exact (vals_back t).append (.cons h .nil)
theorem back_tup {X : Cx} : BackR X (rBackT X.K) := by
  intro pins s σ H x v tk sl Q I rx hs h
  obtain ⟨a, xs, rfl, hx, q⟩ := h
  cases rx
  obtain ⟨us, r, ht, hz⟩ := I.tuple hx
  have hl : us.length = xs.length := r.length.symm
  refine ⟨"tuple", _, PyProof.Rows.slot_tuple_getitem.lookup, ht.typeIs, ?_⟩
  refine back_tuple ht hs (by rw [List.size_toArray, hl]; exact hz) ?_
  exact ⟨.ref s.heap.objs.size, _, I.laid (t' := s.toks) (o := .tup xs.reverse) (fun _ _ z => Heap.get?_push_of_some _ z) (Nat.le_refl _) ⟨by rw [List.length_reverse]; exact hz, _, vals_back r, IsTup.new _ _⟩, rfl, q _ (I.hok.fresh (Nat.le_refl _))⟩
theorem back_lst {X : Cx} : BackR X (rBackL X.K) := by
  intro pins s σ H x v tk sl Q I rx hs h
  obtain ⟨a, xs, rfl, hx, q⟩ := h
  cases rx
  obtain ⟨us, r, hl, hz⟩ := I.list hx
  have hn : us.length = xs.length := r.length.symm
  refine ⟨"list", _, slot_list_getitem.lookup, hl.isList.typeIs, ?_⟩
  refine wpAny_getItem_list_slice hl.isList hs .none .none (.int (-1) tk) (by decide) ?_ (by rw [List.size_toArray, hn]; exact hz)
  rw [PySem.W.krv_pick]
  exact ⟨.ref s.heap.objs.size, _, I.laid (t' := s.toks) (o := .lst xs.reverse) (fun _ _ z => Heap.get?_push_of_some _ z) (Nat.le_refl _) ⟨by rw [List.length_reverse]; exact hz, _, 0, vals_back r, Heap.get?_push_size _ rfl⟩, rfl, q _ (I.hok.fresh (Nat.le_refl _))⟩
/-! ### as plain functions -/
section
variable {c : Cfg} {W : WX} {as as' : List Addr} {H H' : Hp} {μ : Store}
theorem RelAll.back {vs : List V} {ds : List Dat} (r : RelAll c as H vs ds) : RelAll c as H vs.reverse ds.reverse := by
  induction vs generalizing ds with
  | nil => cases r; exact .nil
  | cons v vs ih =>
    cases r with
    | cons h t =>
      rw [List.reverse_cons, List.reverse_cons]
      exact (ih t).append (.cons h .nil)
def mBack (f : F1) (a : M Dat) (l : M (Option Int)) : M Dat := fun δ μ => (a δ μ).bind fun x μ1 => (l δ μ1).bind fun o μ2 => if o = some (-1) then f x μ2 else .stuck
def SimB (c : Cfg) (r : V → Hp → VK → Prop) (f : F1) : Prop := ∀ as H μ v x, StH c as H μ → Rel c as H v x → ∀ σ W Q, Want c (Rel c) (f x μ) as H σ Q W → r v H Q
theorem sim_back {r : V → Hp → VK → Prop} {f : F1} {te : TE} {tl : TO} {a : M Dat} {l : M (Option Int)} (hr : SimB c r f) (ha : SimE c W te a) (hl : SimO c W tl l) : SimE c W (tBack r te tl) (mBack f a l) := by
  intro as H σ δ μ st env Q w
  refine ha as H σ δ μ st env _ ((want_bind (R1 := Rel c) w).imp ?_)
  rintro v H1 ⟨as1, μ1, x, e, s1, rx, w1⟩
  refine hl as1 H1 σ δ μ1 s1 (env.mono e) _ ((want_bind (R1 := fun _ _ b d => b = d) w1).imp ?_)
  rintro o H2 ⟨as2, μ2, y, e2, s2, ry, w2⟩
  subst ry
  split at w2
  · rename_i ho
    exact ⟨ho, hr as2 H2 μ2 v x s2 (rx.mono e2) σ W Q w2⟩
  · exact w2.elim
def fBackT : F1 := fun x μ => match x with
  | .tup ds => .ok (.tup ds.reverse) μ
  | _ => .stuck
theorem simb_backT : SimB c (rBackT c.K) fBackT := by
  intro as H μ v x st rx σ W Q h
  unfold fBackT at h
  split at h
  · cases rx with
    | tup h1 h2 => exact ⟨_, _, rfl, h1.sq, fun p hp => h _ as _ (ext_new hp) (st.tup hp) (.tup (.inl upd_same) ((RelAll.back h2).mono (ext_new hp)))⟩
  · exact h.elim
def fBackL : F1 := fun x μ => match lstAt μ x with
  | some ds => allocR (.lst ds.reverse) μ
  | none => .stuck
theorem simb_backL : SimB c (rBackL c.K) fBackL := by
  intro as H μ v x st rx σ W Q h
  unfold fBackL at h
  split at h
  · rename_i ds hd
    obtain ⟨a, xs, rfl, h1, h2⟩ := lstAt_of st rx hd
    exact ⟨a, xs, rfl, h1, fun p hp => h _ _ _ (ext_alloc hp) (st.alloc hp ⟨_, upd_same, (RelAll.back h2).mono (ext_alloc hp)⟩) (rel_alloc st)⟩
  · exact h.elim
/-! ### xs.insert(i, y) -/
def rIns : V → List V → Hp → VK → Prop := fun x vs H Q => ∃ (l : Addr) (xs : List V) (i : Int) (y : V), x = .ref l ∧ vs = [.int i, y] ∧ H l = some (.lst xs) ∧ xs.length < sizeLine ∧ 0 ≤ i ∧ i < 2 ^ 63 ∧
  Q .non (upd H l (.lst (xs.take i.toNat ++ [y] ++ xs.drop i.toNat)))
def fInsert : Dat → FA := fun x ds μ => match x, ds with
  | .cell k, [.int i, y] => match μ[k]? with
    | some (.lst es) => if es.length < sizeLine ∧ 0 ≤ i ∧ i < 2 ^ 63 then .ok .non (μ.set k (.lst (es.take i.toNat ++ [y] ++ es.drop i.toNat))) else .stuck
    | _ => .stuck
  | _, _ => .stuck
theorem simb_insert : SimBM c rIns fInsert := by
  intro as H μ v x vs ds st rx rs σ W Q h
  unfold fInsert at h
  split at h
  · rename_i k i y
    split at h
    · rename_i es hk
      split at h
      · rename_i hz
        obtain ⟨u1, u2, rfl, r1, r2⟩ := rel2 rs
        cases r1
        cases rx with
        | @cell _ a ha =>
          obtain ⟨xs, h1, h2⟩ := st.cell_at hk ha
          have ee := ext_set (o := .lst (xs.take i.toNat ++ [u2] ++ xs.drop i.toNat)) st hk ha
          exact ⟨a, xs, i, u2, rfl, rfl, h1, by rw [h2.length]; exact hz.1, hz.2.1, hz.2.2, h _ as _ ee (st.set hk ha ⟨_, upd_same, (((h2.take _).append (.cons r2 .nil)).append (h2.drop _)).mono ee⟩) .non⟩
      · exact h.elim
    · exact h.elim
  · exact h.elim
end
end Nh

namespace Nh
open PySem PySem.Spec PySem.W PyProof.Rows PySem.SeqAt PySem.Calls
section
variable {prog : Program} {w : World} {A : Around} {E : Value → Shared → Prop} {s : Shared}
theorem call_tup_lt {l b : Addr} {us vs : Array Value} {e r : Nat → Bool} {Q : Value → Shared → Prop} (hl : s.heap.IsTuple l us) (hb : s.heap.IsTuple b vs)
    (he : ∀ j (h1 : j < us.size) (h2 : j < vs.size), EqAt A.in1 s us[j] vs[j] (e j)) (hr : ∀ j (h1 : j < us.size) (h2 : j < vs.size), e j = false → RcLt A.in1 s us[j] vs[j] (r j))
    (q : Q (.bool (firstLt e r (decide (us.size < vs.size)) (List.range (min us.size vs.size)))) s) : wpAny (model prog w) A (call (.builtin "tuple.__lt__") [.ref l, .ref b]) Q E s := by
  obtain ⟨⟨c1, d1, x1, s1⟩, o1, k1, n1, z1⟩ := id hl
  obtain ⟨⟨c2, d2, x2, s2⟩, o2, k2, n2, z2⟩ := id hb
  dsimp only at k1 z1 k2 z2
  subst k1 z1 k2 z2
  exact call_meets F.slot_tuple_lt ⟨_, o1, rfl⟩ F.entry_tuple_lt (F.args_tuple_lt_2 _ _) (tuple_ltAt l b us vs n1 n2 d1 d2 s1 s2 e r) ⟨o1, o2, he, hr, q⟩
/-- tuples that are alike, one against the other, in either way of comparing -/
theorem oneLt_tups {f : Bool} {xs ys : List PyData} {a b : Value} {as bs : List Addr} {Q : Bool → Shared → Prop} (ra : Reads s.heap a (.tuple xs) as) (rb : Reads s.heap b (.tuple ys) bs) (h : alike (.tuple xs) (.tuple ys) = true)
    (hu : A.units + min (PyData.depth (.tuple xs)) (PyData.depth (.tuple ys)) < cLine) (q : Q (dataLt (.tuple xs) (.tuple ys)) s) : wpAny (model prog w) A (oneLt' f a b) Q E s := by
  cases f with
  | false => exact oneLt_alike (fun z => nomatch z) ra rb h (fun z => nomatch z) hu q
  | true =>
    have hal : alikeAll xs ys = true := by simpa [alike] using h
    cases ra with
    | @tuple l o us n _ _ h1 h2 h3 h4 =>
      cases rb with
      | @tuple l' o' vs n' _ _ k1 k2 k3 k4 =>
        have e1 : us.size = xs.length := by simpa using ReadsAll.length _ _ _ h4
        have e2 : vs.size = ys.length := by simpa using ReadsAll.length _ _ _ k4
        rw [dataLt_tuple, ← firstLt_toks xs ys hal, ← e1, ← e2] at q
        rw [oneLt'_eq]
        simp only [if_true]
        refine wpAny_bind (wpAny_cRoomFor (room_here hu) ?_)
        refine wpAny_bind (wpAny_callSpecialIfBound?_slot (T := "tuple") ⟨_, h1, h2⟩ F.slot_tuple_lt (call_tup_lt (e := pairEq xs ys) (r := fun j => dataLt (xs.getD j .none) (ys.getD j .none)) ⟨_, h1, h2, _, h3⟩ ⟨_, k1, k2, _, k3⟩ (fun j j1 j2 => ?_) (fun j j1 j2 hj => ?_) ?_))
        · have z := eqAt_alikeAll xs ys A.in1 s us.toList vs.toList _ _ h4 k4 hal (room_in hu) j (by simpa using j1) (by simpa using j2)
          simpa using z
        · have z := rcLt_alikeAll xs ys A.in1 s us.toList vs.toList _ _ h4 k4 hal (room_in hu) j (by simpa using j1) (by simpa using j2) hj
          simpa using z
        · exact wpAny_truthy_bool q
theorem mapM_each {M : Model} {α β : Type} {f : α → Sem β} {g : α → β} : ∀ (l : List α) {Q : List β → Shared → Prop}, (∀ v ∈ l, ∀ (Q' : β → Shared → Prop), Q' (g v) s → wpAny M A (f v) Q' E s) → Q (l.map g) s → wpAny M A (l.mapM f) Q E s
  | [], _, _, q => by
    rw [List.mapM_nil]
    exact wpAny_pure q
  | v :: l, Q, hf, q => by
    rw [List.mapM_cons]
    refine wpAny_bind (hf v List.mem_cons_self _ (wpAny_bind ?_))
    exact mapM_each l (Q := fun bs s' => wpAny M A (pure (g v :: bs)) Q E s') (fun u hu => hf u (List.mem_cons_of_mem _ hu)) (wpAny_pure q)
def firstIn (h : Heap) : Value → Option Value
  | .ref a => match h.get? a with
    | some o => match o.data with
      | .seq xs _ => xs[0]?
      | _ => none
    | none => none
  | _ => none
theorem first_here {M : Model} {a : Addr} {o : Obj} {us : Array Value} {n : Nat} {Q : Option Value → Shared → Prop} (ho : s.heap.get? a = some o) (hc : o.cls = .type "tuple") (hd : o.data = .seq us n) (q : Q (firstIn s.heap (.ref a)) s) :
    wpAny M A (firstOfTuple' (.ref a)) Q E s := by
  rw [kas_first_eq]
  refine wpAny_bind (wpAny_typeOf ⟨o, ho, hc⟩ ?_)
  rw [if_neg (by decide)]
  refine wpAny_bind (listItems_at ho hd (wpAny_pure ?_))
  unfold firstIn at q
  dsimp only at q
  rw [ho] at q
  dsimp only at q
  rw [hd] at q
  exact q
theorem kind_tups {M : Model} {vs : List Value} {Q : SortKind → Shared → Prop} (h2 : 2 ≤ vs.length) (ht : ∀ v ∈ vs, ∃ a o us n, v = .ref a ∧ s.heap.get? a = some o ∧ o.cls = .type "tuple" ∧ o.data = .seq us n) (he : ∃ v ∈ vs, firstIn s.heap v = none)
    (q : Q (if ((vs.map (firstIn s.heap))[0]?.bind id).isSome = true then general' else oneType') s) : wpAny M A (keyKind' vs.toArray) Q E s := by
  rw [keyKind'_eq, List.mapM_toArray, map_eq_pure_bind]
  refine wpAny_bind (wpAny_bind (mapM_each (g := firstIn s.heap) vs (fun v hv Q' q' => ?_) (wpAny_pure ?_)))
  · obtain ⟨a, o, us, n, rfl, h1, h3, h4⟩ := ht v hv
    exact first_here h1 h3 h4 q'
  · have no : ¬ ((vs.map (firstIn s.heap)).toArray.all fun x => x.isSome) = true := by
      intro z
      obtain ⟨v, hv, e⟩ := he
      simp only [List.all_toArray, List.all_map, List.all_eq_true] at z
      have := z v hv
      simp only [Function.comp_apply, e] at this
      cases this
    rw [if_neg no]
    have e0 : (vs.map (firstIn s.heap)).toArray[0]? = (vs.map (firstIn s.heap))[0]? := by simp
    rw [e0]
    by_cases hf : ((vs.map (firstIn s.heap))[0]?.bind id).isSome = true
    · rw [if_pos hf] at q ⊢
      exact wpAny_pure q
    · rw [if_neg hf] at q ⊢
      rw [oneTypeOnly'_eq, List.mapM_toArray, map_eq_pure_bind]
      refine wpAny_bind (wpAny_bind (wpAny_bind (mapM_each (g := fun _ => Value.type "tuple") vs (fun v hv Q' q' => ?_) (wpAny_pure ?_))))
      · obtain ⟨a, o, us, n, rfl, h1, h3, h4⟩ := ht v hv
        exact wpAny_typeOf ⟨o, h1, h3⟩ q'
      · obtain ⟨v0, r, rfl⟩ : ∃ v0 r, vs = v0 :: r := by
          cases vs with
          | nil => simp at h2
          | cons v0 r => exact ⟨v0, r, rfl⟩
        have ea : ((v0 :: r).map fun _ => Value.type "tuple").toArray[0]? = some (Value.type "tuple") := by simp
        have eb : (((v0 :: r).map fun _ => Value.type "tuple").toArray.all fun x => x == Value.type "tuple") = true := by
          simp only [List.all_toArray, List.all_map, List.all_eq_true]
          intro _ _
          exact beq_self_eq_true (Value.type "tuple")
        rw [ea]
        simp only [eb, if_true]
        exact wpAny_pure (wpAny_pure q)
theorem reads_tup {h : Heap} {v : Value} {xs : List PyData} {as : List Addr} (r : Reads h v (.tuple xs) as) : ∃ a o us n, v = .ref a ∧ h.get? a = some o ∧ o.cls = .type "tuple" ∧ o.data = .seq us n ∧ us.size = xs.length := by
  cases r with
  | @tuple a o us n _ _ h1 h2 h3 h4 => exact ⟨a, o, us, n, rfl, h1, h2, h3, by simpa using ReadsAll.length _ _ _ h4⟩
theorem each_right {α β : Type} {R : α → β → Prop} : ∀ {vs : List α} {ds : List β}, EachIs R vs ds → ∀ {d : β}, d ∈ ds → ∃ v, v ∈ vs ∧ R v d
  | _, _, .nil, _, h => nomatch h
  | _, _, .cons (a := v) hr t, d, h => by
    rcases List.mem_cons.mp h with rfl | h
    · exact ⟨v, List.mem_cons_self, hr⟩
    · obtain ⟨u, hu, r⟩ := each_right t h
      exact ⟨u, List.mem_cons_of_mem _ hu, r⟩
theorem sorts_tups {vs : List Value} {ds : List PyData} (e : EachIs (fun v d => ∃ as, Reads s.heap v d as) vs ds) (hal : AllAlike ds) (ht : ∀ d ∈ ds, ∃ xs, d = .tuple xs) (hu : ∀ d, d ∈ ds → A.units + d.depth < cLine) : SortsAt prog w A s (dataKind s.heap ds) vs := by
  by_cases hne : ∀ d ∈ ds, d ≠ .tuple []
  · refine SortsAt.data e hal (.inl fun d hd => ?_) hu
    obtain ⟨xs, rfl⟩ := ht d hd
    cases xs with
    | nil => exact (hne _ hd rfl).elim
    | cons x r => exact ⟨x, r, rfl⟩
  · have room : ∀ {d d' : PyData}, d ∈ ds → A.units + min d.depth d'.depth < cLine := fun {d d'} hd => Nat.lt_of_le_of_lt (Nat.add_le_add_left (Nat.min_le_left _ _) _) (hu d hd)
    refine ⟨fun v hv => ?_, if ((vs.map (firstIn s.heap))[0]?.bind id).isSome = true then general' else oneType', ?_, fun h2 E Q q => ?_⟩
    · obtain ⟨d, hd, as, r⟩ := e.left v hv
      exact ⟨_, dataKind_some hal hd r⟩
    · intro E x y a b Q ha hb q
      obtain ⟨d, as, hd, ra, rfl⟩ := dataKind_inv ha
      obtain ⟨d', as', hd', rb, rfl⟩ := dataKind_inv hb
      have hdd := hal d hd d' hd'
      have hroom := room (d' := d') hd
      obtain ⟨xs, rfl⟩ := ht d hd
      obtain ⟨ys, rfl⟩ := ht d' hd'
      split
      · exact oneLt_tups (f := false) ra rb hdd hroom q
      · rw [keyLt'_oneType]
        exact oneLt_tups (f := true) ra rb hdd hroom q
    · refine kind_tups h2 (fun v hv => ?_) ?_ q
      · obtain ⟨d, hd, as, r⟩ := e.left v hv
        obtain ⟨xs, rfl⟩ := ht d hd
        obtain ⟨a, o, us, n, h1, h3, h4, h5, _⟩ := reads_tup r
        exact ⟨a, o, us, n, h1, h3, h4, h5⟩
      · have hex : ∃ d ∈ ds, d = .tuple [] := Classical.byContradiction fun z => hne fun d hd ed => z ⟨d, hd, ed⟩
        obtain ⟨d, hd, rfl⟩ := hex
        obtain ⟨v, hv, as, r⟩ := each_right e hd
        obtain ⟨a, o, us, n, rfl, h3, h4, h5, h6⟩ := reads_tup r
        refine ⟨_, hv, ?_⟩
        unfold firstIn
        dsimp only
        rw [h3]
        dsimp only
        rw [h5]
        exact Array.getElem?_eq_none (by rw [h6]; exact Nat.le_refl _)
end
end Nh

namespace Nh
open PySem PySem.Spec PySem.W PyProof.Rows PySem.SeqAt L2
/-- a heap without one object -/
def hole (h : Heap) (k : Addr) : Heap := { h with objs := h.objs.setIfInBounds k ⟨.none, none, .freed, #[]⟩ }
theorem hole_at (h : Heap) (k : Addr) : (hole h k).get? k = none := by
  unfold hole Heap.get?
  dsimp only
  by_cases hk : k < h.objs.size
  · rw [Array.getElem?_setIfInBounds_self_of_lt hk]
  · rw [Array.getElem?_eq_none (by rw [Array.size_setIfInBounds]; exact Nat.le_of_not_lt hk)]
theorem hole_ne {h : Heap} {k b : Addr} (hb : b ≠ k) : (hole h k).get? b = h.get? b := by
  unfold hole Heap.get?
  dsimp only
  rw [Array.getElem?_setIfInBounds_ne hb.symm]
theorem hole_old {h : Heap} {k b : Addr} {o : Obj} (e : (hole h k).get? b = some o) : b ≠ k ∧ h.get? b = some o := by
  by_cases hb : b = k
  · subst hb
    rw [hole_at] at e
    cases e
  · rw [hole_ne hb] at e
    exact ⟨hb, e⟩
/-- a def called of each, one behind the other -/
def keysT (sp : Sp) : List V → Hp → (List V → Hp → Prop) → Prop
  | [], H, G => G [] H
  | x :: r, H, G => sp [x] H (fun k H1 => keysT sp r H1 fun ks H2 => G (k :: ks) H2) L2.E0
def sortedBy {α : Type} (ds : List PyData) (xs : List α) : List α := ((ds.zip xs).mergeSort (dataLe false Prod.fst)).map Prod.snd
def rSortKey (K : PySem.W.Frag) (f : Addr) (sp : Sp) : List V → List V → Hp → VK → Prop := fun vs zs H Q => ∃ (a : Addr) (xs : List V), vs = [.ref a] ∧ zs = [.ref f] ∧ SqL K H a xs ∧
  keysT sp xs H fun ks H2 => ∃ ds, DpAll K H2 ks ds ∧ AllAlike ds ∧ (∀ d ∈ ds, ∃ ys, d = .tuple ys) ∧ (∀ d ∈ ds, d.depth ≤ 8) ∧ ∀ p, H2 p = none → Q (.ref p) (upd H2 p (.lst (sortedBy ds xs)))
section
variable {X : Cx} {pins : List (Addr × Obj)} {σ : L2.St} {H : Hp} {s : Shared}
theorem fp_again {H' : Hp} {b : Addr} (f : FpOk X pins H b) (n : H' b = none) : FpOk X pins H' b := ⟨n, f.2⟩
theorem each_reads (I : L2.Inv X pins σ H s) : ∀ {ks : List V} {us : List Value} {ds : List PyData}, Vals ks us → DpAll X.K H ks ds → EachIs (fun v d => ∃ as, Reads s.heap v d as) us ds
  | _, _, _, .nil, h => by
    cases h
    exact .nil
  | _, _, _, .cons r t, h => by
    cases h with
    | cons h1 h2 => exact .cons (Dp.reads I _ _ _ h1 r) (each_reads I t h2)
theorem dpAll_len {K : PySem.W.Frag} : ∀ {ks : List V} {ds : List PyData}, DpAll K H ks ds → ks.length = ds.length
  | _, _, .nil => rfl
  | _, _, .cons _ t => by rw [List.length_cons, List.length_cons, dpAll_len t]
theorem vals_zip : ∀ {ds : List PyData} {xs : List V} {vs : List Value}, Vals xs vs → ds.length = xs.length → EachIs (fun v (b : PyData × V) => RelV b.2 v) vs (ds.zip xs)
  | [], _, _, .nil, _ => .nil
  | d :: ds, _, _, .cons r t, h => .cons r (vals_zip t (by simpa using h))
  | [], _, _, .cons r t, h => by simp at h
  | d :: ds, _, _, .nil, h => by simp at h
theorem vals_of_each : ∀ {vs : List Value} {bs : List (PyData × V)}, EachIs (fun v (b : PyData × V) => RelV b.2 v) vs bs → Vals (bs.map Prod.snd) vs
  | _, _, .nil => .nil
  | _, _, .cons r t => .cons r (vals_of_each t)
theorem sort_rest {k : Nat} {f : Addr} {fd : FuncData} {p : Str} {sp : Sp} (F : FnOk X.prog X.w X.K X.mg X.base CX0 k f fd [p] sp) (hr : Room k X.A.in1.in1) (hb : Binds X.K fd [p] []) (I : L2.Inv X pins σ H s) {a kS : Addr} {e1 : Nat}
    (fa : FpOk X pins H a) (fk : FpOk X pins H kS) (hka : kS ≠ a) (na : s.heap.get? a = some (seqObj "list" #[] e1)) (nk : s.heap.get? kS = some (seqObj "list" #[] 0)) {xs : List V} {vs : List Value} (rv : Vals xs vs) (hz : xs.length ≤ sizeLine) {Q : VK} {E : Value → Shared → Prop}
    (q : keysT sp xs H fun ks H2 => ∃ ds, DpAll X.K H2 ks ds ∧ AllAlike ds ∧ (∀ d ∈ ds, ∃ ys, d = .tuple ys) ∧ (∀ d ∈ ds, d.depth ≤ 8) ∧ ∀ p, H2 p = none → Q (.ref p) (upd H2 p (.lst (sortedBy ds xs)))) :
    wpAny (model X.prog X.w) X.A.in1.in1 (ksk_rest a (.ref f) false vs.toArray e1 (.ref kS)) (fun r s' => r = .done (.ret .none) ∧ EP X pins σ Q (.ref a) s') E s := by
  have hlen := rv.length
  unfold ksk_rest
  refine wpAny_bind (wpAny_rule ?_)
  first
    | rw [List.forIn_toArray]
    | (rw [← Array.forIn_toList]; simp only [List.toList_toArray])
    | rw [← Array.forIn_toList]
  generalize hG : (fun (ks : List V) (H2 : Hp) => ∃ ds, DpAll X.K H2 ks ds ∧ AllAlike ds ∧ (∀ d ∈ ds, ∃ ys, d = PyData.tuple ys) ∧ (∀ d ∈ ds, d.depth ≤ 8) ∧ ∀ p, H2 p = none → Q (.ref p) (upd H2 p (.lst (sortedBy ds xs)))) = G at q
  refine wpAny_bind (ksk_fold (fun i s' => ∃ (Hi : Hp) (ks : List V) (kA : Array Value) (e : Nat), L2.Inv X pins σ Hi s' ∧ Hi a = none ∧ Hi kS = none ∧ s'.heap.get? kS = some (seqObj "list" kA e) ∧ s'.heap.get? a = some (seqObj "list" #[] e1) ∧ Vals ks kA.toList ∧ kA.size = i ∧
      keysT sp (xs.drop i) Hi fun rest H2 => G (ks ++ rest) H2) vs 0 s ⟨H, [], #[], 0, I, fa.1, fk.1, nk, na, .nil, rfl, q⟩ ?turn ?done)
  case turn =>
    rintro j x s' hx ⟨Hi, ks, kA, e, Ii, ha, hk, nk', na', rk, hsz, qk⟩
    simp only [Nat.zero_add] at hsz qk ⊢
    have hj : j < vs.length := (List.getElem?_eq_some_iff.mp hx).1
    have hj' : j < xs.length := by omega
    have hxy : RelV xs[j] x := by
      have e2 : vs[j]'hj = x := (List.getElem?_eq_some_iff.mp hx).2
      have := rv.get (i := j) (x := xs[j]) (List.getElem?_eq_getElem hj')
      obtain ⟨u, h1, h2⟩ := this
      rw [List.getElem?_eq_getElem hj] at h1
      cases h1
      rw [← e2]
      exact h2
    rw [List.drop_eq_getElem_cons hj'] at qk
    have Ip : L2.Inv X (pins ++ [(a, seqObj "list" #[] e1), (kS, seqObj "list" kA e)]) σ Hi s' := Ii.pins_of fun z hm => by
      rcases List.mem_append.mp hm with hm | hm
      · exact Ii.pin z (List.mem_append_right _ hm)
      · simp only [List.mem_cons, List.not_mem_nil, or_false] at hm
        rcases hm with rfl | rfl
        · exact ⟨na', ha, fa.2.1, fa.2.2.1, fun v z => nomatch z⟩
        · exact ⟨nk', hk, fk.2.1, fk.2.2.1, fun v z => nomatch z⟩
    refine wpAny_bind (wpAny_attempt (wpAny_mono (wpAny_call (Q := EP X (pins ++ [(a, seqObj "list" #[] e1), (kS, seqObj "list" kA e)]) σ fun k H1 => keysT sp (xs.drop (j + 1)) H1 fun rest H2 => G (ks ++ k :: rest) H2) (E := fun _ _ => False)
      (codeAny_mono (F.run X.A.in1.in1 X.stack s' Hi ⟨[x], []⟩ [x] [xs[j]] _ L2.E0 hr Ip.env0.in1.in1 (hb s' [x] Ip.kIn rfl) (.cons hxy .nil) qk) fun r s'' hq => ?_)) (fun u s'' hu => ?_) fun _ _ z => z.elim))
    · cases r with
      | error z => exact False.elim hq
      | ok fl =>
        cases fl with
        | ret u => exact Ip.after hq
        | next => exact False.elim hq
        | brk => exact False.elim hq
        | cont => exact False.elim hq
    · obtain ⟨v, H1, I1, ru, qv⟩ := hu
      obtain ⟨ga, ha1, _⟩ := I1.pin (a, seqObj "list" #[] e1) (by simp)
      obtain ⟨gk, hk1, _⟩ := I1.pin (kS, seqObj "list" kA e) (by simp)
      dsimp only at ga ha1 gk hk1
      try dsimp only
      have sb := Heap.SameBut.update s''.heap kS (Obj.mapSeq (·.push u))
      obtain ⟨c2, hc2⟩ : ∃ c2, (s''.heap.update kS (Obj.mapSeq (·.push u))).get? kS = some (seqObj "list" (kA.push u) c2) := ⟨_, get?_update_seq gk (·.push u)⟩
      have hzA : kA.size ≤ sizeLine := by omega
      refine wpAny_bind (listUpdate_at gk rfl ?_ hzA (Nat.le_trans (Nat.le_of_eq (Array.size_push ..)) (Nat.succ_le_succ hzA)))
      have fk1 := fp_again fk hk1
      refine wpAny_pure ⟨rfl, H1, ks ++ [v], kA.push u, c2, I1.unpinned.turned (it := kS) (t' := s''.toks) (fun b o hbk eo => (sb.2 b hbk).trans eo) hk1 fk1.2.1 fk1.2.2.2.1 fk1.2.2.2.2.1 fk1.2.2.2.2.2, ha1, hk1, hc2, (sb.2 a hka.symm).trans ga, ?_, ?_, ?_⟩
      · rw [Array.toList_push]
        exact rk.append (.cons ru .nil)
      · rw [Array.size_push, hsz]
      · simp only [List.append_assoc, List.singleton_append]
        exact qv
  case done =>
    rintro s' ⟨Hn, ks, kA, e, In, ha, hk, nk', na', rk, hsz, qk⟩
    simp only [Nat.zero_add] at hsz qk
    rw [List.drop_eq_nil_of_le (by omega)] at qk
    have qk' : G ks Hn := by
      have z : G (ks ++ []) Hn := qk
      rwa [List.append_nil] at z
    rw [← hG] at qk'
    obtain ⟨ds, hd, hal, ht, hdep, hq⟩ := qk'
    try dsimp only
    refine wpAny_bind (listItems_at nk' rfl ?_)
    have hkl : kA.toList.length = ks.length := rk.length.symm
    have hdl : ds.length = xs.length := by
      have := dpAll_len hd
      rw [Array.length_toList] at hkl
      omega
    have er := each_reads In rk hd
    have S : SortsAt X.prog X.w X.A.in1.in1 s' (dataKind s'.heap ds) kA.toList := sorts_tups er hal ht fun d hm => by
      have := hdep d hm
      have := hr.un
      omega
    refine keyH_end (h₁ := hole s'.heap kS) (fun b o _ z => (hole_old z).2) (hole_at _ _) nk' na' hka S (by omega) (by omega) fun h3 tk3 c k3 n3 => ⟨rfl, ?_⟩
    have KO : KeyedOut false ((ds.zip xs).map Prod.fst) vs (sortVals (dataKind s'.heap ds) false kA.toList vs) := by
      rw [List.map_fst_zip (by omega)]
      exact ⟨s'.heap, kA.toList, hal, rfl, er⟩
    have RV : Vals (sortedBy ds xs) (sortVals (dataKind s'.heap ds) false kA.toList vs) := vals_of_each (keyedOut_each Prod.fst KO (vals_zip rv hdl))
    have keep : ∀ b o, b ∉ [a, kS] → s'.heap.get? b = some o → h3.get? b = some o := fun b o hn z => k3 b o (fun y => hn (by simp [y])) (by rw [hole_ne (fun y => hn (by simp [y]))]; exact z)
    have fan := fp_again fa ha
    have fkn := fp_again fk hk
    have I3 : L2.Inv X pins σ Hn { s' with heap := h3, toks := tk3 } := In.turnedL (ch := [a, kS]) keep fun b hm => by
      simp only [List.mem_cons, List.not_mem_nil, or_false] at hm
      rcases hm with rfl | rfl
      · exact fan
      · exact fkn
    have hsl : (sortedBy ds xs).length ≤ sizeLine := by
      unfold sortedBy
      rw [List.length_map, List.length_mergeSort, List.length_zip]
      omega
    have I4 : L2.Inv X pins σ (upd Hn a (.lst (sortedBy ds xs))) { s' with heap := h3, toks := tk3 } := I3.take (h' := h3) (t' := tk3) (fun b ob _ z => z) fan ⟨hsl, _, c, RV, n3⟩
    exact ⟨.ref a, _, I4, rfl, hq a ha⟩
theorem cr_sortKey {k : Nat} {f : Addr} {fd : FuncData} {p : Str} {sp : Sp} (F : FnOk X.prog X.w X.K X.mg X.base CX0 k f fd [p] sp) (hr : Room k X.A.in1.in1) (hb : Binds X.K fd [p] []) : CallRK X (.builtin "sorted") [Str.ofString "key"] (rSortKey X.K f sp) := by
  intro pins s σ H vs zs us ws Q I r rz h
  obtain ⟨l, xs, rfl, rfl, hs, q⟩ := h
  obtain rfl := Vals.ref1 r
  obtain ⟨w1, rfl, e1⟩ := vals1 rz
  obtain rfl : w1 = Value.ref f := e1
  obtain ⟨its, rv, hl, hz⟩ := I.list hs
  have hlen := rv.length
  refine sorted_of_sort hl.isList (by omega) (ksk_s1 _ _) (fun _ => ksk_l1 _ _) fun E' => ?_
  have ho := copyHeap_at s.heap its
  have ha : s.heap.objs.size + 1 < (copyHeap s.heap its).objs.size := Heap.lt_size ho
  show wpAny _ _ (Builtin.«list.sort» ⟨[.ref (s.heap.objs.size + 1)], [(Str.ofString "key", .ref f)]⟩) _ _ _
  rw [ksk_t1]
  obtain ⟨e1, ho1⟩ : ∃ e1, ((copyHeap s.heap its).update (s.heap.objs.size + 1) (Obj.mapSeq fun _ => (#[] : Array Value))).get? (s.heap.objs.size + 1) = some (seqObj "list" #[] e1) := ⟨_, get?_update_seq ho fun _ => #[]⟩
  have hkS : (((copyHeap s.heap its).update (s.heap.objs.size + 1) (Obj.mapSeq fun _ => (#[] : Array Value))).push (seqObj "tuple" its.toArray 0)).objs.size = (copyHeap s.heap its).objs.size + 1 := by rw [size_push', Heap.size_update]
  unfold ksk_tree
  refine wpAny_bind (listItems_at ho rfl ?_)
  refine wpAny_bind (listUpdate_at ho rfl ?_ (by rw [List.size_toArray]; omega) (Nat.zero_le _))
  refine wpAny_bind (seqEpoch_at ho1 rfl ?_)
  refine wpAny_bind (wpAny_newTuple ?_ (by show its.length ≤ _; omega))
  refine wpAny_bind (wpAny_newList ?_ (Nat.zero_le _))
  refine wpAny_holding ?_
  have I2 : L2.Inv X pins σ H { s with heap := sortingHeap (copyHeap s.heap its) (s.heap.objs.size + 1) its } := I.kept (t' := s.toks) fun b o z => sorting_copy_old z
  have n1 : H (s.heap.objs.size + 1) = none := I.hok.fresh (Nat.le_succ _)
  have big : s.heap.objs.size ≤ (((copyHeap s.heap its).update (s.heap.objs.size + 1) (Obj.mapSeq fun _ => (#[] : Array Value))).push (seqObj "tuple" its.toArray 0)).objs.size := by rw [hkS]; omega
  exact wpAny_mono (sort_rest F hr hb I2 (I.fpOk (Nat.le_succ _) n1) (I.fpOk big (I.hok.fresh big)) (by rw [hkS]; exact Nat.ne_of_gt (Nat.lt_succ_of_lt ha)) (Heap.get?_push_of_some _ (Heap.get?_push_of_some _ ho1)) (Heap.get?_push_size _ rfl) rv hz q) (fun r s' z => z) fun _ _ z => z
end
end Nh

namespace Nh
open PySem PySem.Spec PySem.W PyProof.Rows L2
theorem room_in {k : Nat} {A : Around} (r : Room (k + 1) A) : Room k A.in1.in1 := ⟨r.hd, by
  have := r.dp
  show A.depth + 3 * k + 5 < recursionLimit
  omega, by
  have := r.un
  show A.units + 1 + 1 + 16 * k + 200 < cLine
  omega⟩
section
variable {c : Cfg} {W : WX} {as as' : List Addr} {H H' : Hp} {μ : Store}
def mKeys (fm : FA) : List Dat → Store → Res (List Dat)
  | [], μ => .ok [] μ
  | d :: r, μ => (nr fm [d] μ).bind fun k μ1 => (mKeys fm r μ1).bind fun ks μ2 => .ok (k :: ks) μ2
def isTupP : PyData → Bool
  | .tuple _ => true
  | _ => false
def keysOk (ps : List PyData) : Bool := (ps.all fun d => ps.all fun e => PySem.W.alike d e) && (ps.all isTupP && ps.all fun d => decide (d.depth ≤ 8))
def fSortKey (fm : FA) : FA := fun ds μ => match ds with
  | [d] => match lstAt μ d with
    | some es => (mKeys fm es μ).bind fun ks μ1 => match pyAll (py μ1 12) ks with
      | some ps => if keysOk ps = true then allocR (.lst (sortedBy ps es)) μ1 else .stuck
      | none => .stuck
    | none => .stuck
  | _ => .stuck
theorem mKeys_len {fm : FA} : ∀ {ds : List Dat} {μ μ' : Store} {ks : List Dat}, mKeys fm ds μ = .ok ks μ' → ks.length = ds.length
  | [], _, _, _, h => by cases h; rfl
  | d :: r, μ, μ', ks, h => by
    unfold mKeys at h
    cases h1 : nr fm [d] μ with
    | ok k μ1 =>
      rw [h1] at h
      dsimp only [Res.bind] at h
      cases h2 : mKeys fm r μ1 with
      | ok ks2 μ2 =>
        rw [h2] at h
        cases h
        rw [List.length_cons, List.length_cons, mKeys_len h2]
      | raise n μ2 => rw [h2] at h; cases h
      | stuck => rw [h2] at h; cases h
    | raise n μ1 => rw [h1] at h; cases h
    | stuck => rw [h1] at h; cases h
theorem sim_keys {fm : FA} {σ : L2.St} {W : WX} : ∀ {ds : List Dat} {xs : List V} {as : List Addr} {H : Hp} {μ : Store}, StH c as H μ → RelAll c as H xs ds → ∀ G, Want c (RelAll c) (mKeys fm ds μ) as H σ G W → keysT (spM c 1 (nr fm)) xs H G
  | [], _, as, H, μ, st, r, G, w => by
    cases r
    exact w [] as H .refl st .nil
  | d :: ds, _, as, H, μ, st, r, G, w => by
    cases r with
    | @cons x xs _ _ h t =>
      refine ⟨rfl, as, μ, [d], st, .cons h .nil, ?_⟩
      unfold mKeys at w
      cases h1 : nr fm [d] μ with
      | ok k μ1 =>
        rw [h1] at w
        intro v as1 H1 e1 s1 rv
        refine sim_keys (σ := σ) (W := W) s1 (t.mono e1) _ ?_
        have w1 : Want c (RelAll c) ((mKeys fm ds μ1).bind fun ks μ2 => Res.ok (k :: ks) μ2) as1 H1 σ G W := Want.mono (r := (mKeys fm ds μ1).bind fun ks μ2 => Res.ok (k :: ks) μ2) e1 w
        refine (want_bind (R1 := RelAll c) w1).imp ?_
        rintro ks H2 ⟨as2, μ2, y, e2, s2, r2, w2⟩
        exact w2 _ as2 H2 .refl s2 (.cons (rv.mono e2) r2)
      | raise n μ1 => exact (nr_ne fm [d] μ n μ1 h1).elim
      | stuck => rw [h1] at w; exact w.elim
theorem keysOk_of {ps : List PyData} (h : keysOk ps = true) : AllAlike ps ∧ (∀ d ∈ ps, ∃ ys, d = .tuple ys) ∧ ∀ d ∈ ps, d.depth ≤ 8 := by
  unfold keysOk at h
  rw [Bool.and_eq_true, Bool.and_eq_true, List.all_eq_true, List.all_eq_true, List.all_eq_true] at h
  refine ⟨fun d hd e he => List.all_eq_true.mp (h.1 d hd) e he, fun d hd => ?_, fun d hd => of_decide_eq_true (h.2.2 d hd)⟩
  have := h.2.1 d hd
  cases d with
  | tuple ys => exact ⟨ys, rfl⟩
  | _ => cases this
theorem relAll_mem {vs : List V} {ds : List Dat} (r : RelAll c as H vs ds) : ∀ {p : V × Dat}, p ∈ vs.zip ds → Rel c as H p.1 p.2 := by
  induction vs generalizing ds with
  | nil => intro p hp; simp at hp
  | cons v vs ih =>
    cases r with
    | cons h t =>
      intro p hp
      rw [List.zip_cons_cons] at hp
      rcases List.mem_cons.mp hp with rfl | hp
      · exact h
      · exact ih t hp
theorem relAll_of : ∀ {l : List (V × Dat)}, (∀ p ∈ l, Rel c as H p.1 p.2) → RelAll c as H (l.map Prod.fst) (l.map Prod.snd)
  | [], _ => .nil
  | p :: l, h => .cons (h p List.mem_cons_self) (relAll_of fun q hq => h q (List.mem_cons_of_mem _ hq))
theorem sortedBy_map {α β : Type} (f : α → β) (ps : List PyData) (l : List α) : (sortedBy ps l).map f = sortedBy ps (l.map f) := by
  unfold sortedBy
  have e : ps.zip (l.map f) = (ps.zip l).map fun q => (q.1, f q.2) := by
    rw [List.zip_map_right]
    rfl
  have m : ((ps.zip l).mergeSort (dataLe false Prod.fst)).map (fun q : PyData × α => (q.1, f q.2)) = ((ps.zip l).map fun q : PyData × α => (q.1, f q.2)).mergeSort (dataLe false Prod.fst) := List.map_mergeSort (fun a _ b _ => rfl)
  rw [e, ← m, List.map_map, List.map_map]
  rfl
theorem sortedBy_mem {α : Type} {ps : List PyData} {l : List α} {x : α} (h : x ∈ sortedBy ps l) : x ∈ l := by
  unfold sortedBy at h
  obtain ⟨q, hq, rfl⟩ := List.mem_map.mp h
  have := (List.mergeSort_perm _ _).mem_iff.mp hq
  exact (List.of_mem_zip this).2
theorem rel_sorted {vs : List V} {ds : List Dat} (r : RelAll c as H vs ds) (ps : List PyData) : RelAll c as H (sortedBy ps vs) (sortedBy ps ds) := by
  have hl := r.length
  have e1 : sortedBy ps vs = (sortedBy ps (vs.zip ds)).map Prod.fst := by
    rw [sortedBy_map, List.map_fst_zip (by omega)]
  have e2 : sortedBy ps ds = (sortedBy ps (vs.zip ds)).map Prod.snd := by
    rw [sortedBy_map, List.map_snd_zip (by omega)]
  rw [e1, e2]
  exact relAll_of fun p hp => relAll_mem r (sortedBy_mem hp)
theorem sim_sortKey {fm : FA} {f : Addr} {t : TA} {a : M (List Dat)} (ha : SimA c W t a) : SimE c W (tCKw (rSortKey c.K f (spM c 1 (nr fm))) t (tCons (tC (.ref f)) tNil)) (mCB (fSortKey fm) a) := by
  intro as H σ δ μ st env Q w
  refine ha as H σ δ μ st env _ ((want_bind (R1 := RelAll c) w).imp ?_)
  rintro vs H1 ⟨as1, μ1, ds, e, s1, rs, w1⟩
  show rSortKey c.K f (spM c 1 (nr fm)) vs [.ref f] H1 Q
  unfold fSortKey at w1
  split at w1
  · rename_i d
    split at w1
    · rename_i es he
      obtain ⟨v, rfl, rv⟩ := rel1 rs
      obtain ⟨l, xs, rfl, h1, h2⟩ := lstAt_of s1 rv he
      refine ⟨l, xs, rfl, rfl, h1, ?_⟩
      refine sim_keys (σ := σ) (W := W) s1 h2 _ ((want_bind (R1 := RelAll c) w1).imp ?_)
      rintro ks H2 ⟨as2, μ2, kd, e2, s2, r2, w2⟩
      split at w2
      · rename_i ps hp
        split at w2
        · rename_i hk
          obtain ⟨k1, k2, k3⟩ := keysOk_of hk
          refine ⟨ps, pyAll_of (fun r hy => py_of s2 12 r hy) r2 hp, k1, k2, k3, fun p hn => ?_⟩
          exact w2 _ _ _ (ext_alloc hn) (s2.alloc hn ⟨_, upd_same, (rel_sorted (h2.mono e2) ps).mono (ext_alloc hn)⟩) (rel_alloc s2)
        · exact w2.elim
      · exact w2.elim
    · exact w1.elim
  · exact w1.elim
end
end Nh

namespace Nh
open PySem PySem.Spec PyProof.Rows L2
section
variable {c : Cfg}
/-! ### texts in order -/
def fLtS : F2 := fun x y μ => match x, y with
  | .str i, .str j => .ok (.bl (decide (i.cps.toList < j.cps.toList))) μ
  | _, _ => .stuck
theorem simr_ltS : SimR c (fun x y H Q => ∃ i j, x = .str i ∧ y = .str j ∧ Q (.bl (decide (i.cps.toList < j.cps.toList))) H) fLtS := by
  intro as H μ v w x y st rx ry σ W Q h
  unfold fLtS at h
  split at h
  · cases rx
    cases ry
    exact ⟨_, _, rfl, rfl, h _ as H .refl st (.bl _)⟩
  · exact h.elim
end
end Nh

namespace Nh
open PySem PySem.Spec PyProof.Rows L2
def tab : Tab := ⟨fun n m => match n, m with
  | 1, 1 => some true
  | 1, 0 => some true
  | _, _ => none, fun n t => match n with
  | 1 => if t = "ValueError" then some true else none
  | _ => none, fun _ _ => none⟩
def b_is_label : MS := msSeq (msIf (mtOr (mtNot (asB (mCB (fIsA tab) (maCons (mVar 0) (maCons (mC (.ty "str")) maNil))))) (mtNot (asB (mChain fLe fLe (mC (.int 1)) (mCB fLen (maCons (mVar 0) maNil)) (mC (.int 8)))))) (msRet (mC (.bl false))) msNext)
  (msSeq (msIf (asB (mOp fInSign (mC (.str "*")) (mVar 0))) (msRet (mOp fEq (mVar 0) (mC (.str "*")))) msNext)
  (msRet (mCB fAll (maCons (mLc (miStr (mVar 0)) (mgName 1) mYes (mOp fInSign (mVar 1) (mC (.str "abcdefghijklmnopqrstuvwxyz0123456789-*"))) [1]) maNil))))
def f_is_label : FA := nr (runB 2 b_is_label)
def b_is_name : MS := msSeq (msIf (mtOr (mtNot (asB (mCB (fIsA tab) (maCons (mVar 0) (maCons (mC (.ty "tuple")) maNil))))) (asB (mOp fGt (mCB fLenQ (maCons (mVar 0) maNil)) (mC (.int 6))))) (msRet (mC (.bl false))) msNext)
  (msRet (mAnd (mCB fAll (maCons (mLc (miTup (mVar 0)) (mgName 1) mYes (mCall 1 f_is_label (maCons (mVar 1) maNil)) [1]) maNil)) (mOp (fIn true) (mC (.str "*")) (mSl fSlT (mVar 0) (moPart (mC (.int 1))) moNone))))
def f_is_name : FA := nr (runB 2 b_is_name)
def b_name_rank : MS := msRet (mBack fBackT (mVar 0) (moPart (mUn fNeg (mC (.int 1)))))
def f_name_rank : FA := nr (runB 1 b_name_rank)
def b_ordered_names : MS := msSeq (msIf (mtOr (mtNot (asB (mCB (fIsA tab) (maCons (mVar 0) (maCons (mC (.ty "list")) maNil))))) (mtNot (asB (mCB fAll (maCons (mLc (miList (mVar 0)) (mgName 1) mYes (mCall 1 f_is_name (maCons (mVar 1) maNil)) [1]) maNil))))) (msRaise 1) msNext)
  (msRet (mCB (fSortKey (runB 1 b_name_rank)) (maCons (mVar 0) maNil)))
def f_ordered_names : FA := runB 2 b_ordered_names
def b__law_cell_at : MS := msSeq (msIf (asB (mOp fLt (mVar 1) (mCB fLenQ (maCons (mVar 0) maNil)))) (msRet (mOp fIxL (mVar 0) (mVar 1))) msNext)
  (msRet (mC (.int 0)))
def f__law_cell_at : FA := nr (runB 2 b__law_cell_at)
def b__law_next : MS := msSeq (msDPut (mVar 0) (mC (.str "at")) (mOp fAdd (mDGet (mVar 0) (mC (.str "at"))) (mC (.int 1))))
  (msSeq (msAsg (mDGet (mVar 0) (mC (.str "at"))) (mgName 1))
  (msSeq (msAsg (mCall 2 f__law_cell_at (maCons (mDGet (mVar 0) (mC (.str "cells"))) (maCons (mOp fMod (mVar 1) (mCB fMax2 (maCons (mC (.int 1)) (maCons (mCB fLenQ (maCons (mDGet (mVar 0) (mC (.str "cells"))) maNil)) maNil)))) maNil))) (mgName 2))
  (msRet (mOp fDiv (mOp fMod (mOp fAdd (mOp fMul (mVar 2) (mC (.int 48271))) (mOp fMul (mOp fMul (mVar 1) (mVar 1)) (mC (.int 69621)))) (mC (.int 2147483647))) (mC (.int 8))))))
def f__law_next : FA := nr (runB 3 b__law_next)
def b__law_signs : MS := msRet (mC (.str "abcdefghijklmnopqrstuvwxyz0123456789-"))
def f__law_signs : FA := nr (runB 0 b__law_signs)
def b__law_label : MS := msSeq (msAsg (mCall 0 f__law_signs maNil) (mgName 2))
  (msRet (mM1 fJoin (mC (.str "")) (mLc (miRange1 (maCons (mVar 1) maNil)) (mgName 3) mYes (mOp fIxS (mVar 2) (mOp fMod (mOp fAdd (mOp fAdd (mOp fDiv (mVar 0) (mC (.int 11))) (mOp fMul (mOp fMul (mC (.int 17)) (mVar 3)) (mVar 3))) (mOp fMul (mC (.int 5)) (mVar 3))) (mC (.int 37)))) [3])))
def f__law_label : FA := nr (runB 4 b__law_label)
def b__law_labels : MS := msSeq (msAsg (mCall 2 f__law_label (maCons (mCall 1 f__law_next (maCons (mVar 0) maNil)) (maCons (mC (.int 8)) maNil))) (mgName 1))
  (msSeq (msAsg (mLst maNil) (mgName 2))
  (msSeq (msFor (miRange1 (maCons (mC (.int 3)) maNil)) (mgName 3) (msSeq (msAsg (mCall 1 f__law_next (maCons (mVar 0) maNil)) (mgName 4))
  (msSeq (msAsg (mOp fIxL (mLst (maCons (mC (.int 1)) (maCons (mC (.int 8)) (maCons (mOp fAdd (mC (.int 1)) (mOp fMod (mOp fDiv (mVar 4) (mC (.int 5))) (mC (.int 8)))) (maCons (mC (.int 3)) (maCons (mC (.int 2)) maNil)))))) (mOp fMod (mVar 4) (mC (.int 5)))) (mgName 5))
  (msSeq (msAsg (mOp fMod (mOp fDiv (mVar 4) (mC (.int 40))) (mVar 5)) (mgName 6))
  (msSeq (msAsg (mOp fIxS (mCall 0 f__law_signs maNil) (mOp fMod (mOp fDiv (mVar 4) (mC (.int 320))) (mC (.int 37)))) (mgName 7))
  (msDrop (mBM fAppend (mVar 2) (maCons (mOp fAddS (mOp fAddS (mSl fSlS (mVar 1) moNone (moPart (mVar 6))) (mVar 7)) (mSl fSlS (mVar 1) (moPart (mOp fAdd (mVar 6) (mC (.int 1)))) (moPart (mVar 5)))) maNil))))))))
  (msSeq (msAsg (mCall 1 f__law_next (maCons (mVar 0) maNil)) (mgName 4))
  (msSeq (msAsg (mOp fIxS (mCall 0 f__law_signs maNil) (mOp fMod (mOp fDiv (mVar 4) (mC (.int 7))) (mC (.int 37)))) (mgName 7))
  (msSeq (msDrop (mBM fAppend (mVar 2) (maCons (mIf (asB (mOp fLt (mCB fLen (maCons (mOp fIxL (mVar 2) (mC (.int 0))) maNil)) (mC (.int 8)))) (mSl fSlS (mOp fAddS (mVar 7) (mOp fIxL (mVar 2) (mC (.int 0)))) moNone (moPart (mC (.int 8)))) (mSl fSlS (mOp fIxL (mVar 2) (mC (.int 0))) (moPart (mC (.int 1))) moNone)) maNil)))
  (msRet (mOp fCat (mVar 2) (mLst (maCons (mOp fAddS (mOp fAddS (mSl fSlS (mOp fIxL (mVar 2) (mOp fMod (mVar 4) (mC (.int 2)))) moNone (moPart (mC (.int 6)))) (mC (.str "-"))) (mOp fMulS (mVar 7) (mOp fMod (mOp fDiv (mVar 4) (mC (.int 2))) (mC (.int 2))))) maNil)))))))))
def f__law_labels : FA := nr (runB 8 b__law_labels)
def b__law_name : MS := msSeq (msAsg (mCall 1 f__law_next (maCons (mVar 0) maNil)) (mgName 2))
  (msSeq (msAsg (mOp fIxL (mLst (maCons (mC (.int 0)) (maCons (mC (.int 1)) (maCons (mC (.int 2)) (maCons (mC (.int 3)) (maCons (mC (.int 4)) (maCons (mC (.int 6)) (maCons (mC (.int 2)) maNil)))))))) (mOp fMod (mVar 2) (mC (.int 7)))) (mgName 3))
  (msSeq (msAsg (mLc (miRange1 (maCons (mVar 3) maNil)) (mgName 5) mYes (mOp fIxL (mVar 1) (mOp fMod (mCall 1 f__law_next (maCons (mVar 0) maNil)) (mC (.int 5)))) [5]) (mgName 4))
  (msSeq (msIf (mtAnd (asB (mOp fNeD (mVar 4) (mLst maNil))) (asB (mOp fEq (mOp fMod (mOp fDiv (mVar 2) (mC (.int 7))) (mC (.int 5))) (mC (.int 0))))) (mgSub (mVar 4) (mC (.int 0)) (mC (.str "*"))) msNext)
  (msRet (mCB fTupleOf (maCons (mVar 4) maNil))))))
def f__law_name : FA := nr (runB 6 b__law_name)
def b__law_before : MS := msSeq (msAsg (mC (.int 1)) (mgName 2))
  (msSeq (msWhile 7 (mtAnd (asB (mOp fLe (mVar 2) (mCB fLenQ (maCons (mVar 0) maNil)))) (asB (mOp fLe (mVar 2) (mCB fLenQ (maCons (mVar 1) maNil))))) (msSeq (msIf (asB (mOp fNe (mOp fIxT (mVar 0) (mUn fNeg (mVar 2))) (mOp fIxT (mVar 1) (mUn fNeg (mVar 2))))) (msRet (mOp fLtS (mOp fIxT (mVar 0) (mUn fNeg (mVar 2))) (mOp fIxT (mVar 1) (mUn fNeg (mVar 2))))) msNext)
  (msAsg (mOp fAdd (mVar 2) (mC (.int 1))) (mgName 2))))
  (msRet (mOp fLt (mCB fLenQ (maCons (mVar 0) maNil)) (mCB fLenQ (maCons (mVar 1) maNil)))))
def f__law_before : FA := nr (runB 3 b__law_before)
def b__law_sorted : MS := msSeq (msAsg (mLst maNil) (mgName 1))
  (msSeq (msFor (miList (mVar 0)) (mgName 2) (msSeq (msAsg (mCB fLenQ (maCons (mVar 1) maNil)) (mgName 3))
  (msSeq (msWhile 13 (mtAnd (asB (mOp fGt (mVar 3) (mC (.int 0)))) (asB (mCall 2 f__law_before (maCons (mVar 2) (maCons (mOp fIxL (mVar 1) (mOp fSub (mVar 3) (mC (.int 1)))) maNil))))) (msAsg (mOp fSub (mVar 3) (mC (.int 1))) (mgName 3)))
  (msDrop (mBM fInsert (mVar 1) (maCons (mVar 3) (maCons (mVar 2) maNil)))))))
  (msRet (mVar 1)))
def f__law_sorted : FA := nr (runB 4 b__law_sorted)
def b__law_refused : MS := msSeq (msAsg (mC .non) (mgName 1))
  (msSeq (msTry tab 0 2 1 (msDrop (mCall 1 f_ordered_names (maCons (mVar 0) maNil))))
  (msRet (mAnd (mCB (fIsA tab) (maCons (mVar 1) (maCons (mC (.cls 1)) maNil))) (mCB (fIsA tab) (maCons (mVar 1) (maCons (mC (.ty "ValueError")) maNil))))))
def f__law_refused : FA := nr (runB 3 b__law_refused)
def b_law : MS := msSeq (msAsg (mDisp [(mC (.str "cells"), mVar 0), (mC (.str "at"), mC (.int 0))]) (mgName 1))
  (msSeq (msAsg (mCall 1 f__law_labels (maCons (mVar 1) maNil)) (mgName 2))
  (msSeq (msAsg (mLst maNil) (mgName 3))
  (msSeq (msFor (miRange1 (maCons (mOp fMod (mCall 1 f__law_next (maCons (mVar 1) maNil)) (mC (.int 13))) maNil)) (mgName 4) (msSeq (msAsg (mCall 1 f__law_next (maCons (mVar 1) maNil)) (mgName 5))
  (msIf (mtAnd (asB (mOp fNeD (mVar 3) (mLst maNil))) (asB (mOp fEq (mOp fMod (mVar 5) (mC (.int 3))) (mC (.int 0))))) (msSeq (msAsg (mOp fIxL (mVar 3) (mOp fMod (mOp fDiv (mVar 5) (mC (.int 3))) (mCB fLenQ (maCons (mVar 3) maNil)))) (mgName 6))
  (msDrop (mBM fAppend (mVar 3) (maCons (mOp fIxL (mLst (maCons (mVar 6) (maCons (mSl fSlT (mVar 6) (moPart (mC (.int 1))) moNone) (maCons (mSl fSlT (mOp fCatT (mTup (maCons (mOp fIxL (mVar 2) (mC (.int 0))) maNil)) (mVar 6)) moNone (moPart (mC (.int 6)))) maNil)))) (mOp fMod (mOp fDiv (mVar 5) (mC (.int 40))) (mC (.int 3)))) maNil)))) (msDrop (mBM fAppend (mVar 3) (maCons (mCall 2 f__law_name (maCons (mVar 1) (maCons (mVar 2) maNil))) maNil))))))
  (msSeq (msAsg (mLc (miList (mVar 3)) (mgName 13) (asB (mOp (fIn true) (mC (.str "*")) (mSl fSlT (mVar 13) (moPart (mC (.int 1))) moNone))) (mVar 13) [13]) (mgName 3))
  (msSeq (msAsg (mCall 1 f__law_sorted (maCons (mVar 3) maNil)) (mgName 7))
  (msSeq (msAsg (mCB fListOf (maCons (mVar 3) maNil)) (mgName 8))
  (msSeq (msAsg (mCall 1 f_ordered_names (maCons (mVar 8) maNil)) (mgName 9))
  (msSeq (msIf (mtOr (mtNot (asB (mCB (fIsA tab) (maCons (mVar 9) (maCons (mC (.ty "list")) maNil))))) (mtOr (asB (mOp fNeD (mVar 9) (mVar 7))) (mtOr (asB (mOp fNeD (mVar 8) (mVar 3))) (asB (mOp fNeD (mCall 1 f_ordered_names (maCons (mBack fBackL (mVar 3) (moPart (mUn fNeg (mC (.int 1))))) maNil)) (mVar 7)))))) (msRet (mC (.bl false))) msNext)
  (msSeq (msDrop (mBM fAppend (mVar 9) (maCons (mTup maNil) maNil)))
  (msSeq (msIf (mtOr (asB (mOp fNeD (mVar 8) (mVar 3))) (asB (mOp fNeD (mCall 1 f_ordered_names (maCons (mVar 8) maNil)) (mVar 7)))) (msRet (mC (.bl false))) msNext)
  (msSeq (msAsg (mCall 1 f__law_next (maCons (mVar 1) maNil)) (mgName 5))
  (msSeq (msAsg (mOp fIxL (mLst (maCons (mC .non) (maCons (mTup (maCons (mC (.str "a")) (maCons (mC (.str "*")) maNil))) (maCons (mLst (maCons (mC (.str "a")) maNil)) (maCons (mC (.str "a")) (maCons (mTup (maCons (mC (.str "A")) maNil)) (maCons (mC (.int 5)) (maCons (mOp fRepT (mTup (maCons (mC (.str "a")) maNil)) (mC (.int 7))) (maCons (mC (.bl true)) maNil))))))))) (mOp fMod (mVar 5) (mC (.int 8)))) (mgName 10))
  (msSeq (msAsg (mOp fMod (mOp fDiv (mVar 5) (mC (.int 8))) (mOp fAdd (mCB fLenQ (maCons (mVar 3) maNil)) (mC (.int 1)))) (mgName 11))
  (msSeq (msAsg (mOp fIxL (mLst (maCons (mOp fCat (mOp fCat (mSl fSlL (mVar 3) moNone (moPart (mVar 11))) (mLst (maCons (mVar 10) maNil))) (mSl fSlL (mVar 3) (moPart (mVar 11)) moNone)) (maCons (mCB fTupleOf (maCons (mVar 3) maNil)) (maCons (mC .non) (maCons (mC (.str "names")) (maCons mDNew maNil)))))) (mOp fMod (mOp fDiv (mVar 5) (mC (.int 100))) (mC (.int 5)))) (mgName 12))
  (msRet (mCall 1 f__law_refused (maCons (mVar 12) maNil)))))))))))))))))
def f_law : FA := runB 14 b_law
end Nh
namespace Nh
open PySem PySem.Spec PyProof.Rows L2
/-! ### what a mirror gives, by what is wanted -/
def wp {α : Type} (r : Res α) (Q : α → Store → Prop) (R : Nat → Store → Prop := fun _ _ => False) : Prop := match r with
  | .ok x μ => Q x μ
  | .raise n μ => R n μ
  | .stuck => False
structure Ps where
  nx : Env → Store → Prop
  rt : Dat → Store → Prop
  bk : Env → Store → Prop := fun _ _ => False
  ct : Env → Store → Prop := fun _ _ => False
  ra : Nat → Env → Store → Prop := fun _ _ _ => False
def wps (r : SRes) (P : Ps) : Prop := match r with
  | .nx δ μ => P.nx δ μ
  | .rt d μ => P.rt d μ
  | .bk δ μ => P.bk δ μ
  | .ct δ μ => P.ct δ μ
  | .raise n δ μ => P.ra n δ μ
  | .stuck => False
section
variable {α β : Type} {Q Q' : α → Store → Prop} {R R' : Nat → Store → Prop} {P P' : Ps} {δ : Env} {μ : Store}
theorem wp_mono {r : Res α} (h : wp r Q R) (hq : ∀ x μ, Q x μ → Q' x μ) (hr : ∀ n μ, R n μ → R' n μ) : wp r Q' R' := by
  cases r with
  | ok x μ => exact hq _ _ h
  | raise n μ => exact hr _ _ h
  | stuck => exact h
theorem wp_imp {r : Res α} (h : wp r Q) (hq : ∀ x μ, Q x μ → Q' x μ) : wp r Q' R' := wp_mono h hq fun _ _ z => z.elim
theorem wp_bind {r : Res α} {f : α → Store → Res β} {Q : β → Store → Prop} : wp (r.bind f) Q R ↔ wp r (fun x μ => wp (f x μ) Q R) R := by
  cases r <;> rfl
theorem wp_ok {x : α} : wp (.ok x μ) Q R ↔ Q x μ := Iff.rfl
theorem wp_nrR {r : Res α} : wp (nrR r) Q R ↔ wp r Q := by cases r <;> rfl
theorem wps_toS {r : Res α} {f : α → Store → SRes} : wps (r.toS δ f) P ↔ wp r (fun x μ => wps (f x μ) P) (fun n μ => P.ra n δ μ) := by
  cases r <;> rfl
theorem wps_nx : wps (.nx δ μ) P ↔ P.nx δ μ := Iff.rfl
theorem wps_rt {d : Dat} : wps (.rt d μ) P ↔ P.rt d μ := Iff.rfl
theorem wps_seq {a b : MS} : wps (msSeq a b δ μ) P ↔ wps (a δ μ) { P with nx := fun δ μ => wps (b δ μ) P } := by
  unfold msSeq
  cases a δ μ <;> rfl
theorem wps_mono {r : SRes} (h : wps r P) (h1 : ∀ δ μ, P.nx δ μ → P'.nx δ μ) (h2 : ∀ d μ, P.rt d μ → P'.rt d μ) (h3 : ∀ δ μ, P.bk δ μ → P'.bk δ μ) (h4 : ∀ δ μ, P.ct δ μ → P'.ct δ μ) (h5 : ∀ n δ μ, P.ra n δ μ → P'.ra n δ μ) : wps r P' := by
  cases r with
  | nx δ μ => exact h1 _ _ h
  | rt d μ => exact h2 _ _ h
  | bk δ μ => exact h3 _ _ h
  | ct δ μ => exact h4 _ _ h
  | raise n δ μ => exact h5 _ _ _ h
  | stuck => exact h
theorem wp_run {N : Nat} {b : MS} {ds : List Dat} {Q : Dat → Store → Prop} : wp (runB N b ds μ) Q R ↔ wps (b (startD N ds) μ) { nx := fun _ μ => Q .non μ, rt := Q, ra := fun n _ μ => R n μ } := by
  unfold runB
  cases b (startD N ds) μ <;> rfl
theorem wp_nr {f : FA} {ds : List Dat} {Q : Dat → Store → Prop} (h : wp (f ds μ) Q) : wp (nr f ds μ) Q R := by
  unfold nr
  cases hf : f ds μ with
  | ok x μ' => rw [hf] at h; exact h
  | raise n μ' => rw [hf] at h; exact h.elim
  | stuck => rw [hf] at h; exact h
theorem wps_if {q : M Bool} {a b : MS} : wps (msIf q a b δ μ) P ↔ wp (q δ μ) (fun k μ1 => if k = true then wps (a δ μ1) P else wps (b δ μ1) P) (fun n μ => P.ra n δ μ) := by
  unfold msIf
  rw [wps_toS]
  constructor
  · intro h
    refine wp_mono h (fun k μ1 z => ?_) fun _ _ z => z
    cases k <;> exact z
  · intro h
    refine wp_mono h (fun k μ1 z => ?_) fun _ _ z => z
    cases k <;> exact z
theorem wp_if {q : M Bool} {a b : M α} : wp (mIf q a b δ μ) Q R ↔ wp (q δ μ) (fun k μ1 => if k = true then wp (a δ μ1) Q R else wp (b δ μ1) Q R) R := by
  unfold mIf
  rw [wp_bind]
  constructor
  · intro h
    refine wp_mono h (fun k μ1 z => ?_) fun _ _ z => z
    cases k <;> exact z
  · intro h
    refine wp_mono h (fun k μ1 z => ?_) fun _ _ z => z
    cases k <;> exact z
theorem wp_tAnd {a b : M Bool} {Q : Bool → Store → Prop} : wp (mtAnd a b δ μ) Q R ↔ wp (a δ μ) (fun k μ1 => if k = true then wp (b δ μ1) Q R else Q false μ1) R := by
  unfold mtAnd
  rw [wp_bind]
  constructor <;>
  · intro h
    refine wp_mono h (fun k μ1 z => ?_) fun _ _ z => z
    cases k <;> exact z
theorem wp_tOr {a b : M Bool} {Q : Bool → Store → Prop} : wp (mtOr a b δ μ) Q R ↔ wp (a δ μ) (fun k μ1 => if k = true then Q true μ1 else wp (b δ μ1) Q R) R := by
  unfold mtOr
  rw [wp_bind]
  constructor <;>
  · intro h
    refine wp_mono h (fun k μ1 z => ?_) fun _ _ z => z
    cases k <;> exact z
theorem wp_tNot {a : M Bool} {Q : Bool → Store → Prop} : wp (mtNot a δ μ) Q R ↔ wp (a δ μ) (fun k μ1 => Q (!k) μ1) R := by
  unfold mtNot
  rw [wp_bind]
  rfl
end

/-! ### comprehensions over what stands still -/
theorem getElem?_mid {μ g : Store} {x : Cell} : (μ ++ (x :: g))[μ.length]? = some x := by simp
theorem set_mid {μ g : Store} {x y : Cell} : (μ ++ (x :: g)).set μ.length y = μ ++ (y :: g) := by simp
theorem lcLoop_map {s : Src} {mg : MG} {mt : M Bool} {me : M Dat} {δ0 : Env} {μ : Store} {items : List Dat} {p : Dat → Bool} {f : Dat → Dat} (hn : s.n = items.length) (hget : ∀ i μ', s.get i μ' = items[i]?) (hfin : ∀ μ', s.fin μ' = true) (hlen : items.length < sizeLine)
    (step : ∀ (i : Nat) (d : Dat) (g : Store) (acc : List Dat), items[i]? = some d → ∃ δ1, mg d δ0 = some δ1 ∧ wp (mt δ1 (μ ++ (.lst acc :: g))) fun b μ3 => b = p d ∧ ∃ g1, μ3 = μ ++ (.lst acc :: g1) ∧
      (b = true → wp (me δ1 μ3) fun y μ4 => y = f d ∧ ∃ g2, μ4 = μ ++ (.lst acc :: g2))) :
    ∀ (r i : Nat) (acc : List Dat) (g : Store), i + r = items.length → acc.length ≤ i → ∃ g', lcLoop s mg mt me δ0 μ.length r i (μ ++ (.lst acc :: g)) = .ok () (μ ++ (.lst (acc ++ ((items.drop i).filter p).map f) :: g')) := by
  intro r
  induction r with
  | zero =>
    intro i acc g hi ha
    refine ⟨g, ?_⟩
    unfold lcLoop
    rw [if_pos (hfin _), List.drop_eq_nil_of_le (by omega), List.filter_nil, List.map_nil, List.append_nil]
  | succ r ih =>
    intro i acc g hi ha
    have hlt : i < items.length := by omega
    obtain ⟨δ1, h1, h2⟩ := step i items[i] g acc (List.getElem?_eq_getElem hlt)
    unfold lcLoop
    rw [hget, List.getElem?_eq_getElem hlt, Option.bind_some, h1]
    dsimp only
    have hd : items.drop i = items[i] :: items.drop (i + 1) := List.drop_eq_getElem_cons hlt
    cases hm : mt δ1 (μ ++ (.lst acc :: g)) with
    | ok b μ3 =>
      rw [hm] at h2
      obtain ⟨rfl, g1, rfl, h3⟩ := h2
      show ∃ g', (if p items[i] = true then _ else _) = _
      rw [hd, List.filter_cons]
      by_cases hp : p items[i] = true
      · rw [if_pos hp, if_pos hp]
        have h4 := h3 hp
        cases hme : me δ1 (μ ++ (.lst acc :: g1)) with
        | ok y μ4 =>
          rw [hme] at h4
          obtain ⟨rfl, g2, rfl⟩ := h4
          dsimp only [nrR, Res.bind]
          rw [getElem?_mid]
          dsimp only
          rw [if_pos (by omega), set_mid, List.map_cons]
          obtain ⟨g', e⟩ := ih (i + 1) (acc ++ [f items[i]]) g2 (by omega) (by simp; omega)
          exact ⟨g', by rw [e]; simp⟩
        | raise n μ4 => rw [hme] at h4; exact h4.elim
        | stuck => rw [hme] at h4; exact h4.elim
      · rw [if_neg hp, if_neg hp]
        exact ih (i + 1) acc g1 (by omega) (by omega)
    | raise n μ3 => rw [hm] at h2; exact h2.elim
    | stuck => rw [hm] at h2; exact h2.elim
theorem wp_lc_map {src : M Src} {s : Src} {mg : MG} {mt : M Bool} {me : M Dat} {vs : List Nat} {δ : Env} {μ : Store} {Q : Dat → Store → Prop} {R : Nat → Store → Prop} (items : List Dat) (p : Dat → Bool) (f : Dat → Dat) (hsrc : src δ μ = .ok s μ)
    (hn : s.n = items.length) (hget : ∀ i μ', s.get i μ' = items[i]?) (hfin : ∀ μ', s.fin μ' = true) (hlen : items.length < sizeLine)
    (step : ∀ (i : Nat) (d : Dat) (g : Store) (acc : List Dat), items[i]? = some d → ∃ δ1, mg d (wipeD δ vs) = some δ1 ∧ wp (mt δ1 (μ ++ (.lst acc :: g))) fun b μ3 => b = p d ∧ ∃ g1, μ3 = μ ++ (.lst acc :: g1) ∧
      (b = true → wp (me δ1 μ3) fun y μ4 => y = f d ∧ ∃ g2, μ4 = μ ++ (.lst acc :: g2)))
    (h : ∀ g, Q (.cell μ.length) (μ ++ (.lst ((items.filter p).map f) :: g))) : wp (mLc src mg mt me vs δ μ) Q R := by
  unfold mLc
  rw [hsrc]
  obtain ⟨g', e⟩ := lcLoop_map hn hget hfin hlen step s.n 0 [] [] (by omega) (Nat.zero_le _)
  show wp ((lcLoop s mg mt me (wipeD δ vs) μ.length s.n 0 (μ ++ [.lst []])).bind _) Q R
  rw [e]
  exact h g'
theorem srcS_get (z : Str) (i : Nat) (μ : Store) : (srcS z).get i μ = (z.cps.toList.map fun q => Dat.str ⟨#[q]⟩)[i]? := by
  show (z.cps[i]?).map _ = _
  rw [List.getElem?_map, Array.getElem?_toList]
theorem filter_yes {α : Type} (l : List α) : l.filter (fun _ => true) = l := List.filter_eq_self.mpr fun _ _ => rfl
def rangeD (lo : Int) (n : Nat) : List Dat := (List.range n).map fun i => Dat.int (lo + (i : Nat))
/-! ### the primitives -/
section
variable {μ : Store} {δ : Env}
theorem isA_str (s : Str) : fIsA tab [.str s, .ty "str"] μ = .ok (.bl true) μ := rfl
theorem isA_non (t : String) (b : Bool) (h : kitB "NoneType" t = some b) : fIsA tab [.non, .ty t] μ = .ok (.bl b) μ := by
  show (match kitB "NoneType" t with | some b => Res.ok (Dat.bl b) μ | none => Res.stuck) = _
  rw [h]
theorem inSign_star (z : Str) : fInSign (.str "*") (.str z) μ = .ok (.bl (decide (42 ∈ z.cps.toList))) μ := rfl
theorem inSign_one (q : Nat) (z : Str) : fInSign (.str ⟨#[q]⟩) (.str z) μ = .ok (.bl (decide (q ∈ z.cps.toList))) μ := rfl
theorem notInSign_one (q : Nat) (z : Str) : fNotInSign (.str ⟨#[q]⟩) (.str z) μ = .ok (.bl (!decide (q ∈ z.cps.toList))) μ := rfl
theorem fLen_str {s : Str} (h : s.length ≤ sizeLine) : fLen [.str s] μ = .ok (.int (s.length : Int)) μ := by
  simp only [fLen, lenD, if_pos h]
theorem fEq_str (a b : Str) : fEq (.str a) (.str b) μ = .ok (.bl (decide (a = b))) μ := by
  simp only [fEq, toV, scal, V.str.injEq, if_true]
theorem fEq_int (a b : Int) : fEq (.int a) (.int b) μ = .ok (.bl (decide (a = b))) μ := by
  simp only [fEq, toV, scal, V.int.injEq, if_true]
theorem fLe_int (a b : Int) : fLe (.int a) (.int b) μ = .ok (.bl (decide (a ≤ b))) μ := rfl
theorem fLt_int (a b : Int) : fLt (.int a) (.int b) μ = .ok (.bl (decide (a < b))) μ := rfl
theorem fGt_int (a b : Int) : fGt (.int a) (.int b) μ = .ok (.bl (decide (b < a))) μ := rfl
theorem fAdd_int (a b : Int) : fAdd (.int a) (.int b) μ = .ok (.int (a + b)) μ := rfl
theorem fSub_int (a b : Int) : fSub (.int a) (.int b) μ = .ok (.int (a - b)) μ := rfl
theorem fMod_int {a b : Int} (h : 0 < b) : fMod (.int a) (.int b) μ = .ok (.int (a % b)) μ := by
  simp only [fMod, intOpC, if_pos h]
theorem fDiv_int {a b : Int} (h : 0 < b ∧ b < 1073741824) : fDiv (.int a) (.int b) μ = .ok (.int (a / b)) μ := by
  simp only [fDiv, intOpC]
  rw [if_pos (show CDiv a b from h)]
theorem fMul_int {a b : Int} (h : (-(2 ^ 64) < a ∧ a < 2 ^ 64) ∨ (-(2 ^ 64) < b ∧ b < 2 ^ 64)) : fMul (.int a) (.int b) μ = .ok (.int (a * b)) μ := by
  simp only [fMul, intOpC]
  rw [if_pos (show CMul a b from h)]
theorem fNeg_int (a : Int) : fNeg (.int a) μ = .ok (.int (-a)) μ := rfl
theorem fAddS_str {a b : Str} (h : a.length + b.length ≤ sizeLine) : fAddS (.str a) (.str b) μ = .ok (.str (a ++ b)) μ := by
  simp only [fAddS, if_pos h]
theorem blsD_map (bs : List Bool) : blsD (bs.map Dat.bl) = some bs := by
  induction bs with
  | nil => rfl
  | cons b r ih => rw [List.map_cons, blsD, ih]; rfl
theorem strsD_map (ss : List Str) : strsD (ss.map Dat.str) = some ss := by
  induction ss with
  | nil => rfl
  | cons b r ih => rw [List.map_cons, strsD, ih]; rfl
theorem fAll_mid {g : Store} {ds : List Dat} {bs : List Bool} (h : ds = bs.map Dat.bl) : fAll [.cell μ.length] (μ ++ (.lst ds :: g)) = .ok (.bl (bs.all id)) (μ ++ (.lst ds :: g)) := by
  subst h
  simp only [fAll, lstAt, getElem?_mid, Option.bind_some, blsD_map]
theorem fJoin_mid {g : Store} {ds : List Dat} {ss : List Str} (a : Str) (h : ds = ss.map Dat.str) (hz : (ss.map (·.length)).sum + ss.length * a.length ≤ 16777216) : fJoin (.str a) (.cell μ.length) (μ ++ (.lst ds :: g)) = .ok (.str (Txt.join a ss)) (μ ++ (.lst ds :: g)) := by
  subst h
  simp only [fJoin, seqD, lstAt, getElem?_mid, Option.bind_some, strsD_map, if_pos hz]
end
local macro_rules | `(tactic| walk_at "nwp") => `(tactic| simp only [wp_bind, wp_ok, wp_nrR, wps_toS, wps_nx, wps_rt, wps_seq, wp_run, wps_if, wp_if, wp_tAnd, wp_tOr, wp_tNot, startD, List.map_cons, List.map_nil, List.length_cons, List.length_nil, Nat.reduceAdd, Nat.reduceSub, List.replicate_succ, List.replicate_zero, List.cons_append, List.nil_append, List.getElem?_cons_zero, List.getElem?_cons_succ, List.set_cons_zero, List.set_cons_succ,
  asB, mVar, mC, mOp, mCB, maCons, maNil, mCall, msRet, msAsg, mgName, msDrop, msNext, msRaise, mTup, mChain, mUn, if_true, if_false, Bool.not_true, Bool.not_false, Bool.false_eq_true, reduceIte, Nat.reduceEqDiff, Nat.reduceLeDiff,
  eq_self_iff_true, true_and, isA_str, inSign_star, inSign_one, notInSign_one, fEq_str, fEq_int, fLe_int, fLt_int, fGt_int, fAdd_int, fSub_int, fNeg_int])
def isLabelS (s : Str) : Bool := if 1 ≤ s.length ∧ s.length ≤ 8 then (if 42 ∈ s.cps.toList then decide (s = "*") else s.cps.toList.all fun q => decide (q ∈ ("abcdefghijklmnopqrstuvwxyz0123456789-*" : Str).cps.toList)) else false
theorem is_label_str (s : Str) (hs : s.length ≤ sizeLine) (μ : Store) : wp (f_is_label [.str s] μ) fun d μ' => d = .bl (isLabelS s) ∧ ∃ g, μ' = μ ++ g := by
  refine wp_nr ?_
  rw [wp_run]
  unfold b_is_label
  walk_at "nwp"
  rw [fLen_str hs]
  walk_at "nwp"
  unfold isLabelS
  by_cases h1 : (1 : Int) ≤ s.length
  · rw [decide_eq_true h1]
    walk_at "nwp"
    by_cases h2 : (s.length : Int) ≤ 8
    · rw [decide_eq_true h2, if_pos (by omega : 1 ≤ s.length ∧ s.length ≤ 8)]
      walk_at "nwp"
      by_cases h3 : 42 ∈ s.cps.toList
      · rw [decide_eq_true h3, if_pos h3]
        walk_at "nwp"
        exact ⟨[], by simp⟩
      · rw [decide_eq_false h3, if_neg h3]
        walk_at "nwp"
        refine wp_lc_map (s := srcS s) (s.cps.toList.map fun q => Dat.str ⟨#[q]⟩) (fun _ => true) (fun d => match d with | .str z => .bl (decide (z.cps.toList.headD 0 ∈ ("abcdefghijklmnopqrstuvwxyz0123456789-*" : Str).cps.toList)) | _ => .non) rfl (by simp [srcS]) (srcS_get s) (fun _ => rfl) (by simp; have := sizeLine_eq; have hh : s.cps.size = s.length := rfl; omega) (fun i d g acc hd => ?_) fun g => ?_
        · rw [List.getElem?_map] at hd
          cases hq : s.cps.toList[i]? with
          | none => rw [hq] at hd; cases hd
          | some q =>
            rw [hq] at hd
            cases hd
            refine ⟨_, rfl, rfl, g, rfl, fun _ => ?_⟩
            walk_at "nwp"
            exact ⟨rfl, g, rfl⟩
        · rw [fAll_mid (bs := s.cps.toList.map fun q => decide (q ∈ ("abcdefghijklmnopqrstuvwxyz0123456789-*" : Str).cps.toList)) (by rw [filter_yes, List.map_map, List.map_map]; rfl)]
          refine ⟨?_, _, rfl⟩
          simp
    · rw [decide_eq_false h2, if_neg (show ¬ (1 ≤ s.length ∧ s.length ≤ 8) by omega)]
      walk_at "nwp"
      exact ⟨[], by simp⟩
  · rw [decide_eq_false h1, if_neg (show ¬ (1 ≤ s.length ∧ s.length ≤ 8) by omega)]
    walk_at "nwp"
    exact ⟨[], by simp⟩
end Nh

namespace Nh
open PySem PySem.Spec PyProof.Rows L2
local macro_rules | `(tactic| walk_at "nwp") => `(tactic| simp only [wp_bind, wp_ok, wp_nrR, wps_toS, wps_nx, wps_rt, wps_seq, wp_run, wps_if, wp_if, wp_tAnd, wp_tOr, wp_tNot, startD, List.map_cons, List.map_nil, List.length_cons, List.length_nil, Nat.reduceAdd, Nat.reduceSub, List.replicate_succ, List.replicate_zero, List.cons_append, List.nil_append, List.getElem?_cons_zero, List.getElem?_cons_succ, List.set_cons_zero, List.set_cons_succ,
  asB, mVar, mC, mOp, mCB, maCons, maNil, mCall, msRet, msAsg, mgName, msDrop, msNext, msRaise, mTup, mChain, mUn, if_true, if_false, Bool.not_true, Bool.not_false, Bool.false_eq_true, reduceIte, Nat.reduceEqDiff, Nat.reduceLeDiff,
  eq_self_iff_true, true_and, isA_str, inSign_star, inSign_one, notInSign_one, fEq_str, fEq_int, fLe_int, fLt_int, fGt_int, fAdd_int, fSub_int, fNeg_int])
theorem sl16 : sizeLine = 16777216 := sizeLine_eq
/-! ### kinds of data -/
theorem isA_k {μ : Store} {d : Dat} {k t : String} {b : Bool} (h : tyD μ d = some (.inl k)) (hb : kitB k t = some b) : fIsA tab [d, .ty t] μ = .ok (.bl b) μ := by
  simp only [fIsA, h, tabHas, oneD, hb, if_true]
theorem get_app {μ g : Store} {i : Nat} {x : Cell} (h : μ[i]? = some x) : (μ ++ g)[i]? = some x := by
  have hi := (List.getElem?_eq_some_iff.mp h).1
  rw [List.getElem?_append_left hi]
  exact h
theorem tyD_app {μ g : Store} {d : Dat} {t : Sum String Nat} (h : tyD μ d = some t) : tyD (μ ++ g) d = some t := by
  cases d with
  | cell k =>
    cases hk : μ[k]? with
    | none => simp only [tyD, kindD, hk] at h; cases h
    | some x => simp only [tyD, kindD, get_app hk]; simp only [tyD, kindD, hk] at h; exact h
  | _ => exact h
def isLabelD : Dat → Bool
  | .str s => isLabelS s
  | _ => false
/-- a thing that may be asked whether it is a label -/
def okS (s : Str) : Prop := ∀ q ∈ s.cps.toList, q < 0x110000
def Ok1 (μ : Store) (d : Dat) : Prop := (∃ s, d = .str s ∧ s.length ≤ 100000 ∧ okS s) ∨ ((∀ s, d ≠ .str s) ∧ ∃ k, tyD μ d = some (.inl k) ∧ kitB k "str" = some false)
theorem Ok1.app {μ g : Store} {d : Dat} (h : Ok1 μ d) : Ok1 (μ ++ g) d := by
  rcases h with h | ⟨h, k, h1, h2⟩
  · exact .inl h
  · exact .inr ⟨h, k, tyD_app h1, h2⟩
theorem isLabelD_no {d : Dat} (h : ∀ s, d ≠ .str s) : isLabelD d = false := by
  cases d with
  | str s => exact (h s rfl).elim
  | _ => rfl
theorem is_label_spec {μ : Store} {d : Dat} (h : Ok1 μ d) : wp (f_is_label [d] μ) fun r μ' => r = .bl (isLabelD d) ∧ ∃ g, μ' = μ ++ g := by
  rcases h with ⟨s, rfl, hs, _⟩ | ⟨h, k, h1, h2⟩
  · exact is_label_str s (by rw [sl16]; omega) μ
  · rw [isLabelD_no h]
    refine wp_nr ?_
    rw [wp_run]
    unfold b_is_label
    walk_at "nwp"
    rw [isA_k h1 h2]
    walk_at "nwp"
    exact ⟨[], by simp⟩
/-! ### names -/
def isStarD : Dat → Bool
  | .str s => decide (s = "*")
  | _ => false
def isNameD : Dat → Bool
  | .tup ds => decide (ds.length ≤ 6) && (ds.all isLabelD && !(ds.drop 1).any isStarD)
  | _ => false
def OkN (μ : Store) (d : Dat) : Prop := (∃ ds, d = .tup ds ∧ ∀ e ∈ ds, Ok1 μ e) ∨ ((∀ ds, d ≠ .tup ds) ∧ ∃ k, tyD μ d = some (.inl k) ∧ kitB k "tuple" = some false)
theorem OkN.app {μ g : Store} {d : Dat} (h : OkN μ d) : OkN (μ ++ g) d := by
  rcases h with ⟨ds, h1, h3⟩ | ⟨h, k, h1, h2⟩
  · exact .inl ⟨ds, h1, fun e he => (h3 e he).app⟩
  · exact .inr ⟨h, k, tyD_app h1, h2⟩
theorem label_strs : ∀ {ds : List Dat}, ds.all isLabelD = true → ∃ ss : List Str, ds = ss.map Dat.str
  | [], _ => ⟨[], rfl⟩
  | d :: r, h => by
    rw [List.all_cons, Bool.and_eq_true] at h
    obtain ⟨ss, e⟩ := label_strs h.2
    cases d with
    | str s => exact ⟨s :: ss, by rw [e]; rfl⟩
    | _ => cases h.1
theorem toVs_strs : ∀ ss : List Str, toVs (ss.map Dat.str) = some (ss.map V.str)
  | [] => rfl
  | s :: r => by rw [List.map_cons, toVs, toVs_strs r]; rfl
theorem inV_star : ∀ ss : List Str, inV (V.str "*") (ss.map V.str) = (ss.map Dat.str).any isStarD
  | [] => rfl
  | s :: r => by
    have ih := inV_star r
    unfold inV at ih ⊢
    rw [List.map_cons, List.map_cons, List.any_cons, List.any_cons, ih]
    show ((s == ("*" : Str)) || _) = (decide (s = "*") || _)
    rfl
theorem fNotIn_star (ss : List Str) (μ : Store) : fIn true (.str "*") (.tup (ss.map .str)) μ = .ok (.bl (!(ss.map Dat.str).any isStarD)) μ := by
  simp only [fIn, toV, seqD, Option.bind_some, toVs_strs, if_true, inV_star]
theorem cutD_map {α β : Type} (f : α → β) (l : List α) (lo hi : Option Int) : cutD (l.map f) lo hi = (cutD l lo hi).map f := by
  unfold cutD
  rw [List.length_map, ← List.map_drop, ← List.map_take]
theorem cutD_from {α : Type} (l : List α) (n : Nat) : cutD l (some (n : Int)) none = l.drop n := by
  unfold cutD
  rw [HT.sIx_nat l.length 0 n, HT.sIx_none]
  by_cases h : n ≤ l.length
  · rw [Nat.min_eq_left h]
    exact List.take_of_length_le (by rw [List.length_drop]; exact Nat.le_refl _)
  · rw [Nat.min_eq_right (by omega), List.drop_eq_nil_of_le (Nat.le_refl _), List.drop_eq_nil_of_le (by omega), List.take_nil]
theorem cutD_to {α : Type} (l : List α) (n : Nat) : cutD l none (some (n : Int)) = l.take n := by
  unfold cutD
  rw [HT.sIx_nat l.length l.length n, HT.sIx_none, List.drop_zero, Nat.sub_zero]
  by_cases h : n ≤ l.length
  · rw [Nat.min_eq_left h]
  · rw [Nat.min_eq_right (by omega), List.take_of_length_le (Nat.le_refl _), List.take_of_length_le (by omega)]
theorem is_name_spec {μ : Store} {d : Dat} (h : OkN μ d) : wp (f_is_name [d] μ) fun r μ' => r = .bl (isNameD d) ∧ ∃ g, μ' = μ ++ g := by
  rcases h with ⟨ds, rfl, h3⟩ | ⟨h, k, h1, h2⟩
  · refine wp_nr ?_
    rw [wp_run]
    unfold b_is_name
    walk_at "nwp"
    rw [isA_k (k := "tuple") (b := true) rfl (by decide +kernel)]
    walk_at "nwp"
    rw [show fLenQ [.tup ds] μ = .ok (.int (ds.length : Int)) μ from rfl]
    walk_at "nwp"
    unfold isNameD
    by_cases h6 : (6 : Int) < ds.length
    · rw [decide_eq_true h6]
      walk_at "nwp"
      rw [decide_eq_false (show ¬ ds.length ≤ 6 by omega)]
      exact ⟨rfl, [], by simp⟩
    · rw [decide_eq_false h6]
      walk_at "nwp"
      rw [decide_eq_true (show ds.length ≤ 6 by omega)]
      unfold mAnd
      walk_at "nwp"
      refine wp_lc_map (s := srcT ds) ds (fun _ => true) (fun e => .bl (isLabelD e)) rfl rfl (fun _ _ => rfl) (fun _ => rfl) (by rw [sl16]; omega) (fun i e g acc he => ?_) fun g => ?_
      · refine ⟨_, rfl, rfl, g, rfl, fun _ => ?_⟩
        show wp (mCall 1 f_is_label (maCons (mVar 1) maNil) [some (.tup ds), some e] _) _ _
        walk_at "nwp"
        have hm : e ∈ ds := List.mem_of_getElem? he
        refine wp_imp (is_label_spec ((h3 e hm).app)) ?_
        rintro r μ' ⟨rfl, g2, rfl⟩
        exact ⟨rfl, g ++ g2, by simp⟩
      · rw [filter_yes, fAll_mid (bs := ds.map isLabelD) (by rw [List.map_map]; rfl), List.all_map]
        walk_at "nwp"
        cases hall : ds.all isLabelD with
        | false =>
          rw [show (ds.all (id ∘ isLabelD)) = false from hall]
          exact ⟨rfl, _, rfl⟩
        | true =>
          rw [show (ds.all (id ∘ isLabelD)) = true from hall]
          obtain ⟨ss, rfl⟩ := label_strs hall
          dsimp only
          walk_at "nwp"
          unfold mSl moPart moNone
          walk_at "nwp"
          rw [show fSlT (.tup (ss.map .str)) (some 1) none (μ ++ Cell.lst ((ss.map Dat.str).map fun e => .bl (isLabelD e)) :: g) = .ok (.tup ((ss.drop 1).map .str)) _ from by
            show Res.ok (Dat.tup (cutD (ss.map Dat.str) (some ((1 : Nat) : Int)) none)) _ = _
            rw [cutD_from, List.map_drop]]
          walk_at "nwp"
          rw [fNotIn_star, List.map_drop]
          exact ⟨rfl, _, rfl⟩
  · refine wp_nr ?_
    rw [wp_run]
    unfold b_is_name
    walk_at "nwp"
    rw [isA_k h1 h2]
    walk_at "nwp"
    have e : isNameD d = false := by
      cases d with
      | tup ds => exact (h ds rfl).elim
      | _ => rfl
    rw [e]
    exact ⟨rfl, [], by simp⟩
end Nh

namespace Nh
open PySem PySem.Spec PyProof.Rows L2
local macro_rules | `(tactic| walk_at "nwp") => `(tactic| simp only [wp_bind, wp_ok, wp_nrR, wps_toS, wps_nx, wps_rt, wps_seq, wp_run, wps_if, wp_if, wp_tAnd, wp_tOr, wp_tNot, startD, List.map_cons, List.map_nil, List.length_cons, List.length_nil, Nat.reduceAdd, Nat.reduceSub, List.replicate_succ, List.replicate_zero, List.cons_append, List.nil_append, List.getElem?_cons_zero, List.getElem?_cons_succ, List.set_cons_zero, List.set_cons_succ,
  asB, mVar, mC, mOp, mCB, maCons, maNil, mCall, msRet, msAsg, mgName, msDrop, msNext, msRaise, mTup, mChain, mUn, if_true, if_false, Bool.not_true, Bool.not_false, Bool.false_eq_true, reduceIte, Nat.reduceEqDiff, Nat.reduceLeDiff,
  eq_self_iff_true, true_and, isA_str, inSign_star, inSign_one, notInSign_one, fEq_str, fEq_int, fLe_int, fLt_int, fGt_int, fAdd_int, fSub_int, fNeg_int])

/-! ### texts -/
theorem len_app (a b : Str) : (a ++ b).length = a.length + b.length := Array.size_append
theorem toList_app (a b : Str) : (a ++ b).cps.toList = a.cps.toList ++ b.cps.toList := Array.toList_append
theorem str_ext {a b : Str} (h : a.cps.toList = b.cps.toList) : a = b := by
  obtain ⟨x⟩ := a
  obtain ⟨y⟩ := b
  exact congrArg Str.mk (Array.toList_inj.mp h)
theorem len_toList (a : Str) : a.cps.toList.length = a.length := rfl
theorem okS.strOk {s : Str} (h : okS s) : PyData.strOk s = true := by
  unfold PyData.strOk
  rw [← Array.all_toList, List.all_eq_true]
  exact fun q hq => decide_eq_true (h q hq)
theorem okS.app {a b : Str} (h1 : okS a) (h2 : okS b) : okS (a ++ b) := by
  intro q hq
  rw [toList_app] at hq
  rcases List.mem_append.mp hq with h | h
  · exact h1 q h
  · exact h2 q h
theorem label_len {s : Str} (h : isLabelS s = true) : 1 ≤ s.length ∧ s.length ≤ 8 := by
  unfold isLabelS at h
  split at h
  · assumption
  · cases h
theorem label_ok {s : Str} (h : isLabelS s = true) : okS s := by
  unfold isLabelS at h
  split at h
  · split at h
    · have e := of_decide_eq_true h
      subst e
      intro q hq
      have : q = 42 := by simpa using (show q ∈ [42] from hq)
      omega
    · intro q hq
      have h2 := of_decide_eq_true (List.all_eq_true.mp h q hq)
      have h3 : ∀ q ∈ ("abcdefghijklmnopqrstuvwxyz0123456789-*" : Str).cps.toList, q < 0x110000 := by decide +kernel
      exact h3 q h2
  · cases h
/-- a label has no dot -/
theorem label_dot {s : Str} (h : isLabelS s = true) : 46 ∉ s.cps.toList := by
  unfold isLabelS at h
  split at h
  · split at h
    · have e := of_decide_eq_true h
      subst e
      decide +kernel
    · intro hq
      have h2 := of_decide_eq_true (List.all_eq_true.mp h 46 hq)
      have h3 : ¬ 46 ∈ ("abcdefghijklmnopqrstuvwxyz0123456789-*" : Str).cps.toList := by decide +kernel
      exact h3 h2
  · cases h
/-! ### names of texts -/
def isNameS (ss : List Str) : Bool := isNameD (.tup (ss.map .str))
theorem isNameS_len {ss : List Str} (h : isNameS ss = true) : ss.length ≤ 6 := by
  unfold isNameS isNameD at h
  rw [Bool.and_eq_true] at h
  have := of_decide_eq_true h.1
  rw [List.length_map] at this
  exact this
theorem isNameS_lab {ss : List Str} (h : isNameS ss = true) : ∀ s ∈ ss, isLabelS s = true := by
  unfold isNameS isNameD at h
  rw [Bool.and_eq_true, Bool.and_eq_true, List.all_map] at h
  exact fun s hs => List.all_eq_true.mp h.2.1 s hs
theorem name_strs {d : Dat} (h : isNameD d = true) : ∃ ss : List Str, d = .tup (ss.map .str) ∧ isNameS ss = true := by
  cases d with
  | tup ds =>
    have h' := h
    unfold isNameD at h'
    rw [Bool.and_eq_true, Bool.and_eq_true] at h'
    obtain ⟨ss, rfl⟩ := label_strs h'.2.1
    exact ⟨ss, rfl, h⟩
  | _ => cases h
def dotted (s : Str) : Str := s ++ "."
def textS (ss : List Str) : Str := if ss.isEmpty = true then "." else Txt.join "" (ss.map dotted)
theorem sum_le {ss : List Str} {k : Nat} (h : ∀ s ∈ ss, s.length ≤ k) : (ss.map (·.length)).sum ≤ ss.length * k := by
  induction ss with
  | nil => simp
  | cons s r ih =>
    rw [List.map_cons, List.sum_cons, List.length_cons, Nat.succ_mul]
    have h1 := h s List.mem_cons_self
    have h2 := ih fun t ht => h t (List.mem_cons_of_mem _ ht)
    omega
theorem join_dots {ss : List Str} {μ g : Store} (h : isNameS ss = true) : fJoin (.str "") (.cell μ.length) (μ ++ (.lst ((ss.map dotted).map .str) :: g)) = .ok (.str (Txt.join "" (ss.map dotted))) (μ ++ (.lst ((ss.map dotted).map .str) :: g)) := by
  refine fJoin_mid "" rfl ?_
  have h1 : ∀ s ∈ ss.map dotted, s.length ≤ 9 := by
    intro s hs
    obtain ⟨t, ht, rfl⟩ := List.mem_map.mp hs
    have := (label_len (isNameS_lab h t ht)).2
    show (t ++ ("." : Str)).length ≤ 9
    rw [len_app]
    have : ("." : Str).length = 1 := rfl
    omega
  have h2 := sum_le h1
  have h3 := isNameS_len h
  rw [List.length_map] at h2 ⊢
  have : ("" : Str).length = 0 := rfl
  rw [this]
  omega
theorem dots_step {ss : List Str} {i : Nat} {d : Dat} (h : isNameS ss = true) (hd : (ss.map Dat.str)[i]? = some d) : ∃ s, d = .str s ∧ s.length ≤ 8 ∧ s ∈ ss := by
  rw [List.getElem?_map] at hd
  cases hs : ss[i]? with
  | none => rw [hs] at hd; cases hd
  | some s =>
    rw [hs] at hd
    cases hd
    have hm := List.mem_of_getElem? hs
    exact ⟨s, rfl, (label_len (isNameS_lab h s hm)).2, hm⟩
def dotD : Dat → Dat
  | .str s => .str (dotted s)
  | d => d
/-! ### == -/
theorem pyAll_strs (f : Dat → Option PyData) (hf : ∀ s, f (.str s) = some (.str s)) : ∀ ss : List Str, pyAll f (ss.map .str) = some (ss.map .str)
  | [] => rfl
  | s :: r => by rw [List.map_cons, pyAll, hf, pyAll_strs f hf r]; rfl
theorem py_strs (μ : Store) (n : Nat) (ss : List Str) : py μ (n + 2) (.tup (ss.map .str)) = some (.tuple (ss.map .str)) := by
  show (pyAll (py μ (n + 1)) (ss.map .str)).map PyData.tuple = _
  rw [pyAll_strs _ (fun s => rfl)]
  rfl
theorem depth_strs : ∀ ss : List Str, PyData.depthAll (ss.map .str) = 0
  | [] => rfl
  | s :: r => by
    rw [List.map_cons]
    show max (PyData.depth (.str s)) (PyData.depthAll (r.map .str)) = 0
    rw [depth_strs r]
    rfl
theorem lay_strs : ∀ {ss : List Str}, (∀ s ∈ ss, okS s) → PyData.canLayAll0 (ss.map .str) = true
  | [], _ => rfl
  | s :: r, h => by
    rw [List.map_cons]
    show (PyData.strOk s && PyData.canLayAll0 (r.map .str)) = true
    rw [(h s List.mem_cons_self).strOk, lay_strs fun t ht => h t (List.mem_cons_of_mem _ ht)]
    rfl
/-- what may be compared -/
structure Shp (e : PyData) : Prop where
  lay : e.canLay0 = true
  dep : e.depth ≤ 5
theorem Shp.shaped {e : PyData} (h : Shp e) : SeqAt.shaped e = true := by
  unfold SeqAt.shaped
  rw [h.lay, decide_eq_true (show e.depth ≤ 64 by have := h.dep; omega)]
  rfl
theorem shp_strs {ss : List Str} (h : ∀ s ∈ ss, okS s) : Shp (.tuple (ss.map .str)) := by
  refine ⟨lay_strs h, ?_⟩
  show PyData.depthAll (ss.map .str) + 1 ≤ 5
  rw [depth_strs]
  omega
theorem shp_str {s : Str} (h : okS s) : Shp (.str s) := ⟨h.strOk, by show 0 ≤ 5; omega⟩
theorem shp_none : Shp .none := ⟨rfl, by show 0 ≤ 5; omega⟩
theorem shp_bool (b : Bool) : Shp (.bool b) := ⟨rfl, by show 0 ≤ 5; omega⟩
theorem shp_pair {a b : PyData} (ha : Shp a) (hb : Shp b) (h1 : a.depth ≤ 4) (h2 : b.depth ≤ 4) : Shp (.tuple [a, b]) := by
  refine ⟨?_, ?_⟩
  · show (a.canLay0 && (b.canLay0 && true)) = true
    rw [ha.lay, hb.lay]
    rfl
  · show max a.depth (max b.depth 0) + 1 ≤ 5
    omega
theorem eqv_strs : ∀ (ss ts : List Str), PyData.eqvAll (ss.map .str) (ts.map .str) = decide (ss = ts)
  | [], [] => rfl
  | [], t :: ts => rfl
  | s :: ss, [] => rfl
  | s :: ss, t :: ts => by
    rw [List.map_cons, List.map_cons]
    show ((s == t) && PyData.eqvAll (ss.map .str) (ts.map .str)) = _
    rw [eqv_strs ss ts]
    by_cases h1 : s = t
    · subst h1
      by_cases h2 : ss = ts
      · subst h2; simp
      · simp [h2]
    · simp [h1]
theorem eqD_names (ss ts : List Str) (μ : Store) (h1 : ∀ s ∈ ss, okS s) (h2 : ∀ s ∈ ts, okS s) : fEqD (.tup (ss.map .str)) (.tup (ts.map .str)) μ = .ok (.bl (decide (ss = ts))) μ := by
  simp only [fEqD, py_strs μ 10, (shp_strs h1).shaped, (shp_strs h2).shaped, Bool.and_self, if_true]
  rw [show PyData.eqv (.tuple (ss.map .str)) (.tuple (ts.map .str)) = PyData.eqvAll (ss.map .str) (ts.map .str) from rfl, eqv_strs]
theorem isNameS_ok {ss : List Str} (h : isNameS ss = true) : ∀ s ∈ ss, okS s := fun s hs => label_ok (isNameS_lab h s hs)
/-! ### below, star_of -/
def belowS (ss ts : List Str) : Bool := if ss.length < ts.length then false else decide (ss.drop (ss.length - ts.length) = ts)
end Nh

namespace Nh
open PySem PySem.Spec PyProof.Rows L2
local macro_rules | `(tactic| walk_at "nwp") => `(tactic| simp only [wp_bind, wp_ok, wp_nrR, wps_toS, wps_nx, wps_rt, wps_seq, wp_run, wps_if, wp_if, wp_tAnd, wp_tOr, wp_tNot, startD, List.map_cons, List.map_nil, List.length_cons, List.length_nil, Nat.reduceAdd, Nat.reduceSub, List.replicate_succ, List.replicate_zero, List.cons_append, List.nil_append, List.getElem?_cons_zero, List.getElem?_cons_succ, List.set_cons_zero, List.set_cons_succ,
  asB, mVar, mC, mOp, mCB, maCons, maNil, mCall, msRet, msAsg, mgName, msDrop, msNext, msRaise, mTup, mChain, mUn, if_true, if_false, Bool.not_true, Bool.not_false, Bool.false_eq_true, reduceIte, Nat.reduceEqDiff, Nat.reduceLeDiff,
  eq_self_iff_true, true_and, isA_str, inSign_star, inSign_one, notInSign_one, fEq_str, fEq_int, fLe_int, fLt_int, fGt_int, fAdd_int, fSub_int, fNeg_int])

/-! ### texts as lists of signs -/
def joinL (sep : List Nat) : List (List Nat) → List Nat
  | [] => []
  | [x] => x
  | x :: y :: r => x ++ sep ++ joinL sep (y :: r)
theorem join_toList (y : Str) : ∀ ps : List Str, (Str.join y ps).cps.toList = joinL y.cps.toList (ps.map fun p => p.cps.toList)
  | [] => rfl
  | [x] => rfl
  | x :: z :: r => by
    show (x ++ y ++ Str.join y (z :: r)).cps.toList = _
    rw [toList_app, toList_app, join_toList y (z :: r)]
    rfl
theorem joinL_mem_le (sep : List Nat) : ∀ (ps : List (List Nat)) (p : List Nat), p ∈ ps → p.length ≤ (joinL sep ps).length
  | [], _, h => by cases h
  | [x], p, h => by
    rw [List.mem_singleton.mp h]
    exact Nat.le_refl _
  | x :: y :: r, p, h => by
    show p.length ≤ (x ++ sep ++ joinL sep (y :: r)).length
    rw [List.length_append, List.length_append]
    rcases List.mem_cons.mp h with e | h
    · rw [e]; omega
    · have := joinL_mem_le sep (y :: r) p h
      omega
theorem joinL_sub (sep : List Nat) : ∀ (ps : List (List Nat)) (p : List Nat), p ∈ ps → ∀ q ∈ p, q ∈ joinL sep ps
  | [], _, h, _, _ => by cases h
  | [x], p, h, q, hq => by
    rw [List.mem_singleton.mp h] at hq
    exact hq
  | x :: y :: r, p, h, q, hq => by
    show q ∈ x ++ sep ++ joinL sep (y :: r)
    rcases List.mem_cons.mp h with e | h
    · rw [e] at hq
      exact List.mem_append_left _ (List.mem_append_left _ hq)
    · exact List.mem_append_right _ (joinL_sub sep (y :: r) p h q hq)
theorem cut_at (c : Nat) : ∀ (a b s t : List Nat), c ∉ a → c ∉ b → a ++ c :: s = b ++ c :: t → a = b ∧ s = t
  | [], [], s, t, _, _, h => ⟨rfl, (List.cons.inj h).2⟩
  | [], y :: b, s, t, _, hb, h => by
    have e := (List.cons.inj h).1
    exact absurd (e ▸ List.mem_cons_self) hb
  | x :: a, [], s, t, ha, _, h => by
    have e := (List.cons.inj h).1
    exact absurd (e ▸ List.mem_cons_self) ha
  | x :: a, y :: b, s, t, ha, hb, h => by
    have h' := List.cons.inj h
    obtain ⟨e1, e2⟩ := cut_at c a b s t (fun z => ha (List.mem_cons_of_mem _ z)) (fun z => hb (List.mem_cons_of_mem _ z)) h'.2
    exact ⟨by rw [h'.1, e1], e2⟩
theorem joinL_inj (c : Nat) : ∀ (as bs : List (List Nat)), as ≠ [] → bs ≠ [] → (∀ a ∈ as, c ∉ a) → (∀ b ∈ bs, c ∉ b) → joinL [c] as = joinL [c] bs → as = bs
  | [], _, h, _, _, _, _ => (h rfl).elim
  | _, [], _, h, _, _, _ => (h rfl).elim
  | [a], [b], _, _, _, _, h => by
    have e : a = b := h
    rw [e]
  | [a], b :: b2 :: bs, _, _, ha, _, h => by
    have h' : a = b ++ [c] ++ joinL [c] (b2 :: bs) := h
    exact absurd (show c ∈ a by rw [h']; simp) (ha a List.mem_cons_self)
  | a :: a2 :: as, [b], _, _, _, hb, h => by
    have h' : a ++ [c] ++ joinL [c] (a2 :: as) = b := h
    exact absurd (show c ∈ b by rw [← h']; simp) (hb b List.mem_cons_self)
  | a :: a2 :: as, b :: b2 :: bs, _, _, ha, hb, h => by
    have h' : a ++ [c] ++ joinL [c] (a2 :: as) = b ++ [c] ++ joinL [c] (b2 :: bs) := h
    rw [List.append_assoc, List.append_assoc] at h'
    obtain ⟨e1, e2⟩ := cut_at c a b _ _ (ha a List.mem_cons_self) (hb b List.mem_cons_self) h'
    have ih := joinL_inj c (a2 :: as) (b2 :: bs) (fun z => nomatch z) (fun z => nomatch z) (fun x hx => ha x (List.mem_cons_of_mem _ hx)) (fun x hx => hb x (List.mem_cons_of_mem _ hx)) e2
    rw [e1, ih]
theorem dot_is : (("." : Str)) = ⟨#[46]⟩ := by decide +kernel
theorem map_toList_inj : ∀ {as bs : List Str}, (as.map fun p => p.cps.toList) = (bs.map fun p => p.cps.toList) → as = bs
  | [], [], _ => rfl
  | [], b :: bs, h => nomatch h
  | a :: as, [], h => nomatch h
  | a :: as, b :: bs, h => by
    rw [List.map_cons, List.map_cons] at h
    have h' := List.cons.inj h
    rw [str_ext h'.1, map_toList_inj h'.2]
theorem split_join {ss : List Str} (hne : ss ≠ []) (hd : ∀ s ∈ ss, 46 ∉ s.cps.toList) (h0 : Str.join "." ss ≠ Str.empty) : Txt.split (Str.join "." ss) "." = ss := by
  have e := StrLaws.join_split (Str.join "." ss) "."
  have hf : ∀ p ∈ Txt.split (Str.join "." ss) ".", 46 ∉ p.cps.toList := by
    rw [dot_is]
    exact StrLaws.split_free _ 46
  have hn : Txt.split (Str.join "." ss) "." ≠ [] := by
    intro z
    rw [z] at e
    exact h0 e.symm
  refine map_toList_inj (joinL_inj 46 _ _ ?_ ?_ ?_ ?_ ?_)
  · intro z
    exact hn (List.map_eq_nil_iff.mp z)
  · intro z
    exact hne (List.map_eq_nil_iff.mp z)
  · intro a ha
    obtain ⟨p, hp, rfl⟩ := List.mem_map.mp ha
    exact hf p hp
  · intro a ha
    obtain ⟨p, hp, rfl⟩ := List.mem_map.mp ha
    exact hd p hp
  · have e2 := congrArg (fun s : Str => s.cps.toList) e
    rw [join_toList, join_toList, dot_is] at e2
    exact e2
theorem split_le {x p : Str} (h : p ∈ Txt.split x ".") : p.length ≤ x.length := by
  have e := StrLaws.join_split x "."
  have e2 := congrArg (fun s : Str => s.cps.toList) e
  rw [join_toList] at e2
  have := joinL_mem_le ("." : Str).cps.toList ((Txt.split x ".").map fun p : Str => p.cps.toList) p.cps.toList (List.mem_map.mpr ⟨p, h, rfl⟩)
  rw [e2] at this
  exact this
theorem split_ok {x p : Str} (hx : okS x) (h : p ∈ Txt.split x ".") : okS p := by
  have e := StrLaws.join_split x "."
  have e2 := congrArg (fun s : Str => s.cps.toList) e
  rw [join_toList] at e2
  intro q hq
  have := joinL_sub ("." : Str).cps.toList ((Txt.split x ".").map fun p : Str => p.cps.toList) p.cps.toList (List.mem_map.mpr ⟨p, h, rfl⟩) q hq
  rw [e2] at this
  exact hx q this
/-! ### cuts of texts -/
theorem cutS_toList (z : Str) (lo hi : Option Int) : (cutS z lo hi).cps.toList = cutD z.cps.toList lo hi := by
  unfold cutS cutD
  rfl
theorem cutD_last {α : Type} (l : List α) (x : α) : cutD (l ++ [x]) none (some (-1)) = l := by
  unfold cutD
  have h1 : HT.sIx (l ++ [x]).length 0 none = 0 := HT.sIx_none _ _
  have h2 : HT.sIx (l ++ [x]).length (l ++ [x]).length (some (-1)) = l.length := by
    simp [HT.sIx]
    omega
  rw [h1, h2, List.drop_zero, Nat.sub_zero]
  exact List.take_left
theorem endswith_dot (s : Str) : Txt.endswith s "." = decide (s.cps.toList.getLast? = some 46) := by
  obtain ⟨a⟩ := s
  obtain ⟨l⟩ := a
  show (decide (0 + 1 ≤ l.length) && (l.toArray.extract (l.length - 1) (l.length - 1 + 1) == #[46])) = _
  rcases List.eq_nil_or_concat l with rfl | ⟨r, q, rfl⟩
  · rfl
  · rw [List.concat_eq_append]
    have e : ((r ++ [q]).toArray.extract ((r ++ [q]).length - 1) ((r ++ [q]).length - 1 + 1)) = #[q] := by
      apply Array.toList_inj.mp
      simp
    rw [e, List.getLast?_concat, decide_eq_true (by simp : 0 + 1 ≤ (r ++ [q]).length)]
    by_cases h : q = 46
    · subst h; rfl
    · rw [decide_eq_false (by simpa using h)]
      simp [h]
/-! ### name_of -/
def nameS (s : Str) : Option (List Str) := if s.cps.toList.getLast? = some 46 then (if s = "." then some [] else if isNameS (Txt.split (cutS s none (some (-1))) ".") = true then some (Txt.split (cutS s none (some (-1))) ".") else none) else none
theorem okN_strs {μ : Store} {ss : List Str} (h : ∀ s ∈ ss, s.length ≤ 100000 ∧ okS s) : OkN μ (.tup (ss.map .str)) := by
  refine .inl ⟨_, rfl, fun e he => ?_⟩
  obtain ⟨s, hs, rfl⟩ := List.mem_map.mp he
  exact .inl ⟨s, rfl, h s hs⟩
theorem cutS_len (z : Str) (lo hi : Option Int) : (cutS z lo hi).length ≤ z.length := cutS_length z lo hi
theorem cutS_ok {z : Str} (h : okS z) (lo hi : Option Int) : okS (cutS z lo hi) := by
  intro q hq
  rw [cutS_toList] at hq
  exact h q (List.mem_of_mem_drop (List.mem_of_mem_take hq))
theorem parts_ok {s : Str} (hl : s.length ≤ 10000) (hk : okS s) : ∀ p ∈ Txt.split (cutS s none (some (-1))) ".", p.length ≤ 100000 ∧ okS p := fun p hp => by
  have h1 := split_le hp
  have h2 := cutS_len s none (some (-1))
  exact ⟨by omega, split_ok (cutS_ok hk _ _) hp⟩
theorem split_eval {s : Str} (hl : s.length ≤ 10000) (μ : Store) : fSplit (.str (cutS s none (some (-1)))) (.str ".") μ = .ok (.cell μ.length) (μ ++ [.lst ((Txt.split (cutS s none (some (-1))) ".").map .str)]) := by
  unfold fSplit
  dsimp only
  have h2 := cutS_len s none (some (-1))
  have hs := sl16
  rw [if_pos (show (("." : Str).length == 0) = false ∧ (cutS s none (some (-1))).length + 2 ≤ sizeLine from ⟨rfl, by omega⟩)]
  rfl
/-- there and back -/
theorem text_toList {ss : List Str} (h : ss ≠ []) : (textS ss).cps.toList = joinL [46] (ss.map fun p => p.cps.toList) ++ [46] := by
  unfold textS
  rw [if_neg (by cases ss with | nil => exact (h rfl).elim | cons _ _ => exact Bool.false_ne_true)]
  rw [show Txt.join "" (ss.map dotted) = Str.join "" (ss.map dotted) from StrLaws.glued_eq_join _ _, join_toList]
  have e0 : ("" : Str).cps.toList = [] := rfl
  rw [e0, List.map_map]
  induction ss with
  | nil => exact (h rfl).elim
  | cons s r ih =>
    cases r with
    | nil =>
      show (dotted s).cps.toList = s.cps.toList ++ [46]
      unfold dotted
      rw [toList_app]
      rfl
    | cons t r =>
      have ih' := ih (fun z => nomatch z)
      show (dotted s).cps.toList ++ [] ++ joinL [] ((t :: r).map ((fun p : Str => p.cps.toList) ∘ dotted)) = s.cps.toList ++ [46] ++ joinL [46] ((t :: r).map fun p : Str => p.cps.toList) ++ [46]
      rw [ih']
      unfold dotted
      rw [toList_app]
      simp
      rfl
theorem name_text {ss : List Str} (h : isNameS ss = true) : nameS (textS ss) = some ss := by
  cases ss with
  | nil => decide +kernel
  | cons s r =>
    have hne : s :: r ≠ [] := fun z => nomatch z
    have e := text_toList hne
    have hl := label_len (isNameS_lab h s List.mem_cons_self)
    have hj : joinL [46] ((s :: r).map fun p => p.cps.toList) ≠ [] := by
      intro z
      have := joinL_mem_le [46] ((s :: r).map fun p => p.cps.toList) s.cps.toList (by simp)
      rw [z, len_toList] at this
      simp at this
      omega
    unfold nameS
    rw [if_pos (by rw [e, List.getLast?_concat]), if_neg (fun z => by
      rw [z] at e
      have e2 : ("." : Str).cps.toList = [] ++ [46] := rfl
      rw [e2] at e
      exact hj (List.append_inj_left' e rfl).symm)]
    have ec : cutS (textS (s :: r)) none (some (-1)) = Str.join "." (s :: r) := by
      apply str_ext
      rw [cutS_toList, e, cutD_last, join_toList]
      rfl
    rw [ec, split_join hne (fun t ht => label_dot (isNameS_lab h t ht)) (fun z => by
      have := congrArg (fun s : Str => s.cps.toList) z
      rw [join_toList] at this
      exact hj this), if_pos h]
end Nh

namespace Nh
open PySem PySem.Spec PyProof.Rows L2
local macro_rules | `(tactic| walk_at "nwp") => `(tactic| try simp only [wp_bind, wp_ok, wp_nrR, wps_toS, wps_nx, wps_rt, wps_seq, wp_run, wps_if, wp_if, wp_tAnd, wp_tOr, wp_tNot, startD, List.map_cons, List.map_nil, List.length_cons, List.length_nil, Nat.reduceAdd, Nat.reduceSub, List.replicate_succ, List.replicate_zero, List.cons_append, List.nil_append, List.getElem?_cons_zero, List.getElem?_cons_succ, List.set_cons_zero, List.set_cons_succ,
  asB, mVar, mC, mOp, mCB, maCons, maNil, mCall, msRet, msAsg, mgName, msDrop, msNext, msRaise, mTup, mChain, mUn, if_true, if_false, Bool.not_true, Bool.not_false, Bool.false_eq_true, reduceIte, Nat.reduceEqDiff, Nat.reduceLeDiff,
  eq_self_iff_true, true_and, isA_str, inSign_star, inSign_one, notInSign_one, fEq_str, fEq_int, fLe_int, fLt_int, fGt_int, fAdd_int, fSub_int, fNeg_int])

/-! ### loops -/
theorem forLoop_inv {s : Src} {g : MG} {b : MS} {P : Ps} {items : List Dat} (hn : s.n = items.length) (hget : ∀ i μ, s.get i μ = items[i]?) (hfin : ∀ μ, s.fin μ = true) (I : Nat → Env → Store → Prop)
    (step : ∀ (i : Nat) (d : Dat) (δ : Env) (μ : Store), items[i]? = some d → I i δ μ → ∃ δ1, g d δ = some δ1 ∧ wps (b δ1 μ) { nx := I (i + 1), ct := I (i + 1), rt := P.rt, bk := P.nx, ra := P.ra }) (hd : ∀ δ μ, I items.length δ μ → P.nx δ μ) :
    ∀ (r i : Nat) (δ : Env) (μ : Store), i + r = items.length → I i δ μ → wps (forLoop s g b r i δ μ) P := by
  intro r
  induction r with
  | zero =>
    intro i δ μ hi h
    unfold forLoop
    rw [if_pos (hfin _)]
    have e : i = items.length := by omega
    subst e
    exact hd _ _ h
  | succ r ih =>
    intro i δ μ hi h
    have hlt : i < items.length := by omega
    obtain ⟨δ1, h1, h2⟩ := step i items[i] δ μ (List.getElem?_eq_getElem hlt) h
    unfold forLoop
    rw [hget, List.getElem?_eq_getElem hlt, Option.bind_some, h1]
    dsimp only
    cases hb : b δ1 μ with
    | nx δ' μ' => rw [hb] at h2; exact ih (i + 1) δ' μ' (by omega) h2
    | ct δ' μ' => rw [hb] at h2; exact ih (i + 1) δ' μ' (by omega) h2
    | bk δ' μ' => rw [hb] at h2; exact h2
    | rt d μ' => rw [hb] at h2; exact h2
    | raise n δ' μ' => rw [hb] at h2; exact h2
    | stuck => rw [hb] at h2; exact h2
theorem wps_for {src : M Src} {s : Src} {g : MG} {b : MS} {P : Ps} {δ : Env} {μ μ1 : Store} (items : List Dat) (I : Nat → Env → Store → Prop) (hsrc : src δ μ = .ok s μ1) (hn : s.n = items.length) (hget : ∀ i μ, s.get i μ = items[i]?) (hfin : ∀ μ, s.fin μ = true)
    (h0 : I 0 δ μ1) (step : ∀ (i : Nat) (d : Dat) (δ : Env) (μ : Store), items[i]? = some d → I i δ μ → ∃ δ1, g d δ = some δ1 ∧ wps (b δ1 μ) { nx := I (i + 1), ct := I (i + 1), rt := P.rt, bk := P.nx, ra := P.ra })
    (hd : ∀ δ μ, I items.length δ μ → P.nx δ μ) : wps (msFor src g b δ μ) P := by
  unfold msFor
  rw [hsrc]
  exact forLoop_inv hn hget hfin I step hd s.n 0 δ μ1 (by omega) h0
theorem lcLoop_inv {s : Src} {mg : MG} {me : M Dat} {δ0 : Env} {L : Nat} {items : List Dat} (hn : s.n = items.length) (hget : ∀ i μ', s.get i μ' = items[i]?) (hfin : ∀ μ', s.fin μ' = true) (hlen : items.length < sizeLine) (I : Nat → List Dat → Store → Prop)
    (step : ∀ (i : Nat) (d : Dat) (acc : List Dat) (μ : Store), items[i]? = some d → I i acc μ → acc.length = i → ∃ δ1, mg d δ0 = some δ1 ∧ wp (me δ1 μ) fun y μ4 => μ4[L]? = some (.lst acc) ∧ I (i + 1) (acc ++ [y]) (μ4.set L (.lst (acc ++ [y])))) :
    ∀ (r i : Nat) (acc : List Dat) (μ : Store), i + r = items.length → acc.length = i → I i acc μ → ∃ acc' μ', lcLoop s mg mYes me δ0 L r i μ = .ok () μ' ∧ acc'.length = items.length ∧ I items.length acc' μ' := by
  intro r
  induction r with
  | zero =>
    intro i acc μ hi ha h
    refine ⟨acc, μ, ?_, by omega, by rw [show items.length = i by omega]; exact h⟩
    unfold lcLoop
    rw [if_pos (hfin _)]
  | succ r ih =>
    intro i acc μ hi ha h
    have hlt : i < items.length := by omega
    obtain ⟨δ1, h1, h2⟩ := step i items[i] acc μ (List.getElem?_eq_getElem hlt) h ha
    unfold lcLoop
    rw [hget, List.getElem?_eq_getElem hlt, Option.bind_some, h1]
    dsimp only [mYes, nrR, Res.bind]
    rw [if_pos rfl]
    cases hme : me δ1 μ with
    | ok y μ4 =>
      rw [hme] at h2
      obtain ⟨h3, h4⟩ := h2
      dsimp only [nrR, Res.bind]
      rw [h3]
      dsimp only
      rw [if_pos (by omega)]
      exact ih (i + 1) (acc ++ [y]) _ (by omega) (by rw [List.length_append, List.length_singleton]; omega) h4
    | raise n μ4 => rw [hme] at h2; exact h2.elim
    | stuck => rw [hme] at h2; exact h2.elim
theorem wp_lc_inv {src : M Src} {s : Src} {mg : MG} {me : M Dat} {vs : List Nat} {δ : Env} {μ : Store} {Q : Dat → Store → Prop} {R : Nat → Store → Prop} (items : List Dat) (I : Nat → List Dat → Store → Prop) (hsrc : src δ μ = .ok s μ)
    (hn : s.n = items.length) (hget : ∀ i μ', s.get i μ' = items[i]?) (hfin : ∀ μ', s.fin μ' = true) (hlen : items.length < sizeLine) (h0 : I 0 [] (μ ++ [.lst []]))
    (step : ∀ (i : Nat) (d : Dat) (acc : List Dat) (μ2 : Store), items[i]? = some d → I i acc μ2 → acc.length = i → ∃ δ1, mg d (wipeD δ vs) = some δ1 ∧ wp (me δ1 μ2) fun y μ4 => μ4[μ.length]? = some (.lst acc) ∧ I (i + 1) (acc ++ [y]) (μ4.set μ.length (.lst (acc ++ [y]))))
    (hd : ∀ acc μ2, acc.length = items.length → I items.length acc μ2 → Q (.cell μ.length) μ2) : wp (mLc src mg mYes me vs δ μ) Q R := by
  unfold mLc
  rw [hsrc]
  obtain ⟨acc, μ', e, hl, h⟩ := lcLoop_inv hn hget hfin hlen I step s.n 0 [] (μ ++ [.lst []]) (by omega) rfl h0
  show wp ((lcLoop s mg mYes me (wipeD δ vs) μ.length s.n 0 (μ ++ [.lst []])).bind _) Q R
  rw [e]
  exact hd acc μ' hl h
theorem range_src {j : Int} (h : -(2 ^ 62) ≤ j ∧ j < 2 ^ 62) (δ : Env) (μ : Store) : miRange1 (maCons (mC (.int j)) maNil) δ μ = .ok (srcR 0 j.toNat) μ := by
  unfold miRange1
  show (if -(2 ^ 62) ≤ j ∧ j < 2 ^ 62 then Res.ok (srcR 0 j.toNat) μ else .stuck) = _
  rw [if_pos h]
theorem srcR_get (lo : Int) (n i : Nat) (μ : Store) (h : i < n) : (srcR lo n).get i μ = (rangeD lo n)[i]? := by
  unfold rangeD
  rw [List.getElem?_map, List.getElem?_range h]
  rfl
/-- a range whose items beyond its end are not asked -/
def srcQ (lo : Int) (n : Nat) : Src := ⟨n, fun i _ => (rangeD lo n)[i]?, fun _ => true⟩
theorem rangeD_len (lo : Int) (n : Nat) : (rangeD lo n).length = n := by
  unfold rangeD
  rw [List.length_map, List.length_range]
theorem rangeD_get {lo : Int} {n i : Nat} {d : Dat} (h : (rangeD lo n)[i]? = some d) : i < n ∧ d = .int (lo + i) := by
  unfold rangeD at h
  rw [List.getElem?_map] at h
  by_cases hi : i < n
  · rw [List.getElem?_range hi] at h
    cases h
    exact ⟨hi, rfl⟩
  · rw [List.getElem?_eq_none (by rw [List.length_range]; omega)] at h
    cases h
theorem forLoop_q {lo : Int} {n : Nat} {g : MG} {b : MS} : ∀ (r i : Nat) (δ : Env) (μ : Store), i + r = n → forLoop (srcR lo n) g b r i δ μ = forLoop (srcQ lo n) g b r i δ μ := by
  intro r
  induction r with
  | zero => intro i δ μ _; rfl
  | succ r ih =>
    intro i δ μ hi
    unfold forLoop
    rw [srcR_get lo n i μ (by omega)]
    show _ = (match ((rangeD lo n)[i]?).bind fun d => g d δ with | none => SRes.stuck | some δ1 => _)
    cases ((rangeD lo n)[i]?).bind fun d => g d δ with
    | none => rfl
    | some δ1 =>
      dsimp only
      cases b δ1 μ with
      | nx δ' μ' => exact ih (i + 1) δ' μ' (by omega)
      | ct δ' μ' => exact ih (i + 1) δ' μ' (by omega)
      | _ => rfl
theorem lcLoop_q {lo : Int} {n : Nat} {g : MG} {tt : M Bool} {te : M Dat} {δ : Env} {k : Nat} : ∀ (r i : Nat) (μ : Store), i + r = n → lcLoop (srcR lo n) g tt te δ k r i μ = lcLoop (srcQ lo n) g tt te δ k r i μ := by
  intro r
  induction r with
  | zero => intro i μ _; rfl
  | succ r ih =>
    intro i μ hi
    unfold lcLoop
    rw [srcR_get lo n i μ (by omega)]
    show _ = (match ((rangeD lo n)[i]?).bind fun d => g d δ with | none => Res.stuck | some δ1 => _)
    cases ((rangeD lo n)[i]?).bind fun d => g d δ with
    | none => rfl
    | some δ1 =>
      dsimp only
      cases nrR (tt δ1 μ) with
      | ok b μ1 =>
        dsimp only [Res.bind]
        by_cases hb : b = true
        · rw [if_pos hb, if_pos hb]
          cases nrR (te δ1 μ1) with
          | ok y μ2 =>
            dsimp only [Res.bind]
            cases μ2[k]? with
            | none => rfl
            | some x =>
              cases x with
              | lst acc =>
                dsimp only
                by_cases hz : acc.length < sizeLine
                · rw [if_pos hz, if_pos hz]
                  exact ih (i + 1) _ (by omega)
                · rw [if_neg hz, if_neg hz]
              | _ => rfl
          | _ => rfl
        · rw [if_neg hb, if_neg hb]
          exact ih (i + 1) _ (by omega)
      | _ => rfl
/-- a range stands for its list -/
def miQ (lo : Int) (n : Nat) : M Src := fun _ μ => .ok (srcQ lo n) μ
theorem msFor_q {src : M Src} {lo : Int} {n : Nat} {g : MG} {b : MS} {δ : Env} {μ μ1 : Store} (h : src δ μ = .ok (srcR lo n) μ1) : msFor src g b δ μ = msFor (miQ lo n) g b δ μ1 := by
  unfold msFor
  rw [h]
  exact forLoop_q n 0 δ μ1 (by omega)
theorem mLc_q {src : M Src} {lo : Int} {n : Nat} {g : MG} {tt : M Bool} {te : M Dat} {vs : List Nat} {δ : Env} {μ μ1 : Store} (h : src δ μ = .ok (srcR lo n) μ1) : mLc src g tt te vs δ μ = mLc (miQ lo n) g tt te vs δ μ1 := by
  unfold mLc
  rw [h]
  show (lcLoop (srcR lo n) g tt te (wipeD δ vs) μ1.length n 0 (μ1 ++ [.lst []])).bind _ = (lcLoop (srcQ lo n) g tt te (wipeD δ vs) μ1.length n 0 (μ1 ++ [.lst []])).bind _
  rw [lcLoop_q n 0 _ (by omega)]
/-! ### a list that was just written, at a reckoned place -/
theorem atI_some {α : Type} {l : List α} {i : Int} (h0 : 0 ≤ i) (h1 : i < l.length) : ∃ x, atI l i = some x ∧ x ∈ l := by
  have hi : i.toNat < l.length := by omega
  refine ⟨l[i.toNat], ?_, List.getElem_mem hi⟩
  have e : ((i.toNat : Nat) : Int) = i := by omega
  have q := atI_nat (List.getElem?_eq_getElem hi)
  rw [e] at q
  exact q
theorem fIxL_new {μ : Store} {ds : List Dat} {i : Int} (h0 : 0 ≤ i) (h1 : i < ds.length) : ∃ d, fIxL (.cell μ.length) (.int i) (μ ++ [.lst ds]) = .ok d (μ ++ [.lst ds]) ∧ d ∈ ds := by
  obtain ⟨d, e, hm⟩ := atI_some h0 h1
  refine ⟨d, ?_, hm⟩
  simp only [fIxL, lstAt, getElem?_mid, e]
theorem fIxL_at {μ : Store} {k : Nat} {ds : List Dat} {i : Int} (hk : μ[k]? = some (.lst ds)) (h0 : 0 ≤ i) (h1 : i < ds.length) : ∃ d, fIxL (.cell k) (.int i) μ = .ok d μ ∧ d ∈ ds := by
  obtain ⟨d, e, hm⟩ := atI_some h0 h1
  refine ⟨d, ?_, hm⟩
  simp only [fIxL, lstAt, hk, e]
/-! ### draws -/
def D (ns : List Int) (k : Nat) : Cell := .dict [(.inr "cells", .ro ns), (.inr "at", .int k)]
theorem look_at (a b : Dat) : lookD [(.inr "cells", a), (.inr "at", b)] (.inr "at") = some b := by rfl
theorem look_cells (a b : Dat) : lookD [(.inr "cells", a), (.inr "at", b)] (.inr "cells") = some a := by rfl
theorem put_at (a b d : Dat) : putD [(.inr "cells", a), (.inr "at", b)] (.inr "at") d = [(.inr "cells", a), (.inr "at", d)] := by rfl
theorem cell_at_spec {ns : List Int} {k : Int} (h0 : 0 ≤ k) (μ : Store) : wp (f__law_cell_at [.ro ns, .int k] μ) fun d μ' => (∃ i : Int, d = .int i) ∧ μ' = μ := by
  refine wp_nr ?_
  rw [wp_run]
  unfold b__law_cell_at
  walk_at "nwp"
  rw [show fLenQ [.ro ns] μ = .ok (.int (ns.length : Int)) μ from by
    show Res.ok (Dat.int ((ns.map Dat.int).length : Int)) μ = _
    rw [List.length_map]]
  walk_at "nwp"
  by_cases h : k < (ns.length : Int)
  · rw [decide_eq_true h]
    walk_at "nwp"
    obtain ⟨d, e, hm⟩ := atI_some (l := ns.map Dat.int) h0 (by rw [List.length_map]; exact h)
    rw [show fIxL (.ro ns) (.int k) μ = .ok d μ from by simp only [fIxL, lstAt, e]]
    obtain ⟨i, _, rfl⟩ := List.mem_map.mp hm
    exact ⟨⟨i, rfl⟩, rfl⟩
  · rw [decide_eq_false h]
    walk_at "nwp"
    exact ⟨⟨0, rfl⟩, by first | rfl | trivial⟩
theorem next_spec {ns : List Int} {k : Nat} (hk : k ≤ 100000) (r : Store) : wp (f__law_next [.cell 0] (D ns k :: r)) fun d μ' => ∃ n : Int, d = .int n ∧ 0 ≤ n ∧ n < 268435456 ∧ μ' = D ns (k + 1) :: r := by
  refine wp_nr ?_
  rw [wp_run]
  unfold b__law_next msDPut mDGet
  walk_at "nwp"
  dsimp only [keyD, D]
  walk_at "nwp"
  rw [look_at]
  walk_at "nwp"
  rw [if_pos (show 2 < sizeLine by rw [sl16]; omega), put_at]
  walk_at "nwp"
  rw [look_at]
  walk_at "nwp"
  rw [look_cells]
  walk_at "nwp"
  rw [look_cells]
  walk_at "nwp"
  rw [show ∀ μ, fLenQ [.ro ns] μ = .ok (.int (ns.length : Int)) μ from fun μ => by
    show Res.ok (Dat.int ((ns.map Dat.int).length : Int)) μ = _
    rw [List.length_map]]
  walk_at "nwp"
  rw [show ∀ (i j : Int) μ, fMax2 [.int i, .int j] μ = .ok (.int (if j > i then j else i)) μ from fun _ _ _ => rfl]
  walk_at "nwp"
  have hm : 0 < (if (ns.length : Int) > 1 then (ns.length : Int) else 1) := by split <;> omega
  rw [fMod_int hm]
  walk_at "nwp"
  refine wp_imp (cell_at_spec (Int.emod_nonneg _ (by omega)) _) ?_
  rintro d μ' ⟨⟨i, rfl⟩, rfl⟩
  walk_at "nwp"
  rw [fMul_int (.inr (by omega))]
  walk_at "nwp"
  rw [fMul_int (.inl (by omega))]
  walk_at "nwp"
  rw [fMul_int (.inr (by omega))]
  walk_at "nwp"
  rw [fMod_int (by omega)]
  walk_at "nwp"
  rw [fDiv_int (by omega)]
  refine ⟨_, rfl, ?_, ?_, ?_⟩
  · have := Int.emod_nonneg (i * 48271 + (k + 1 : Int) * (k + 1) * 69621) (show (2147483647 : Int) ≠ 0 by omega)
    omega
  · have := Int.emod_lt_of_pos (i * 48271 + (k + 1 : Int) * (k + 1) * 69621) (show (0 : Int) < 2147483647 by omega)
    omega
  · rfl
end Nh

namespace Nh
open PySem PySem.Spec PyProof.Rows L2
local macro_rules | `(tactic| walk_at "nwp") => `(tactic| try simp only [wp_bind, wp_ok, wp_nrR, wps_toS, wps_nx, wps_rt, wps_seq, wp_run, wps_if, wp_if, wp_tAnd, wp_tOr, wp_tNot, startD, List.map_cons, List.map_nil, List.length_cons, List.length_nil, Nat.reduceAdd, Nat.reduceSub, List.replicate_succ, List.replicate_zero, List.cons_append, List.nil_append, List.getElem?_cons_zero, List.getElem?_cons_succ, List.set_cons_zero, List.set_cons_succ,
  asB, mVar, mC, mOp, mCB, maCons, maNil, mCall, msRet, msAsg, mgName, msDrop, msNext, msRaise, mTup, mChain, mUn, if_true, if_false, Bool.not_true, Bool.not_false, Bool.false_eq_true, reduceIte, Nat.reduceEqDiff, Nat.reduceLeDiff,
  eq_self_iff_true, true_and, isA_str, inSign_star, inSign_one, notInSign_one, fEq_str, fEq_int, fLe_int, fLt_int, fGt_int, fAdd_int, fSub_int, fNeg_int])

/-! ### the drawn labels -/
def SG : Str := "abcdefghijklmnopqrstuvwxyz0123456789-"
theorem SG_len : SG.cps.toList.length = 37 := by decide +kernel
theorem SG_ok : ∀ q ∈ SG.cps.toList, q < 0x110000 ∧ q ≠ 42 ∧ q ∈ ("abcdefghijklmnopqrstuvwxyz0123456789-*" : Str).cps.toList := by decide +kernel
def allSG (l : List Nat) : Prop := ∀ q ∈ l, q ∈ SG.cps.toList
def GL (l : Str) : Prop := 1 ≤ l.length ∧ l.length ≤ 8 ∧ allSG l.cps.toList
theorem GL.label {l : Str} (h : GL l) : isLabelS l = true := by
  obtain ⟨h1, h2, h3⟩ := h
  unfold isLabelS
  rw [if_pos ⟨h1, h2⟩, if_neg (fun z => (SG_ok 42 (h3 42 z)).2.1 rfl)]
  exact List.all_eq_true.mpr fun q hq => decide_eq_true (SG_ok q (h3 q hq)).2.2
theorem GL.ok {l : Str} (h : GL l) : okS l := label_ok h.label
theorem GL.star {l : Str} (h : GL l) : l ≠ "*" := fun z => by
  subst z
  exact (SG_ok 42 (h.2.2 42 (by decide +kernel))).2.1 rfl
theorem signs_is (μ : Store) : f__law_signs [] μ = .ok (.str SG) μ := rfl
/-- one sign of the drawn ones -/
theorem sign_at {i : Int} (h0 : 0 ≤ i) (h1 : i < 37) (μ : Store) : ∃ q, fIxS (.str SG) (.int i) μ = .ok (.str ⟨#[q]⟩) μ ∧ q ∈ SG.cps.toList := by
  obtain ⟨q, e, hq⟩ := atI_some (l := SG.cps.toList) h0 (by rw [SG_len]; exact h1)
  refine ⟨q, ?_, hq⟩
  unfold fIxS
  dsimp only
  rw [if_pos (by rw [sl16]; decide +kernel), e]
def sgn (n : Int) (i : Int) : Nat := (atI SG.cps.toList ((n / 11 + 17 * i * i + 5 * i) % 37)).getD 0
theorem sgn_at (n i : Int) (μ : Store) : fIxS (.str SG) (.int ((n / 11 + 17 * i * i + 5 * i) % 37)) μ = .ok (.str ⟨#[sgn n i]⟩) μ ∧ sgn n i ∈ SG.cps.toList := by
  have h0 := Int.emod_nonneg (n / 11 + 17 * i * i + 5 * i) (show (37 : Int) ≠ 0 by omega)
  have h1 := Int.emod_lt_of_pos (n / 11 + 17 * i * i + 5 * i) (show (0 : Int) < 37 by omega)
  obtain ⟨q, e, hq⟩ := atI_some (l := SG.cps.toList) h0 (by rw [SG_len]; exact h1)
  unfold sgn
  rw [e]
  refine ⟨?_, hq⟩
  unfold fIxS
  dsimp only
  rw [if_pos (by rw [sl16]; decide +kernel), e]
  rfl
theorem joinL_ones : ∀ qs : List Nat, joinL [] (qs.map fun q => [q]) = qs
  | [] => rfl
  | [q] => rfl
  | q :: p :: r => by
    show [q] ++ [] ++ joinL [] ((p :: r).map fun q => [q]) = _
    rw [joinL_ones (p :: r)]
    rfl
theorem label_spec {n z : Int} {m : Nat} (hz : z = m) (hm : m ≤ 8) (μ : Store) : wp (f__law_label [.int n, .int z] μ) fun d μ' => (∃ l : Str, d = .str l ∧ l.length = m ∧ allSG l.cps.toList) ∧ ∃ g, μ' = μ ++ g := by
  refine wp_nr ?_
  rw [wp_run]
  unfold b__law_label
  walk_at "nwp"
  rw [signs_is]
  walk_at "nwp"
  unfold mM1
  walk_at "nwp"
  rw [mLc_q (lo := 0) (n := m) (μ1 := μ) (by
    have e := range_src (j := z) (by omega) [some (.int n), some (.int z), some (.str SG), none] μ
    rw [show z.toNat = m by omega] at e
    exact e)]
  refine wp_lc_map (s := srcQ 0 m) (rangeD 0 m) (fun _ => true) (fun d => match d with | .int i => .str ⟨#[sgn n i]⟩ | _ => .non) rfl (rangeD_len _ _).symm (fun _ _ => rfl) (fun _ => rfl) (by rw [sl16, rangeD_len]; omega) (fun i d g acc hd => ?_) fun g => ?_
  · obtain ⟨hi, rfl⟩ := rangeD_get hd
    refine ⟨_, rfl, rfl, g, rfl, fun _ => ?_⟩
    dsimp only [wipeD]
    walk_at "nwp"
    have hi' : (0 : Int) + (i : Nat) < 8 := by omega
    have hi0 : (0 : Int) ≤ 0 + (i : Nat) := by omega
    generalize (0 : Int) + (i : Nat) = j at hi' hi0 ⊢
    rw [fDiv_int (by omega)]
    walk_at "nwp"
    rw [fMul_int (.inl (by omega))]
    walk_at "nwp"
    rw [fMul_int (.inr (by omega))]
    walk_at "nwp"
    rw [fMul_int (.inl (by omega))]
    walk_at "nwp"
    rw [fMod_int (by omega)]
    walk_at "nwp"
    rw [(sgn_at n j _).1]
    exact ⟨rfl, g, rfl⟩
  · have e1 : ((rangeD 0 m).filter fun _ => true).map (fun d => match d with | .int i => Dat.str ⟨#[sgn n i]⟩ | _ => .non) = (((List.range m).map fun i => sgn n (0 + (i : Nat))).map fun q => (⟨#[q]⟩ : Str)).map Dat.str := by
      rw [filter_yes]
      unfold rangeD
      rw [List.map_map, List.map_map, List.map_map]
      rfl
    rw [e1, fJoin_mid "" rfl (by
      have : ∀ qs : List Nat, ((qs.map fun q => (⟨#[q]⟩ : Str)).map (·.length)).sum = qs.length := by
        intro qs
        induction qs with
        | nil => rfl
        | cons q r ih =>
          rw [List.map_cons, List.map_cons, List.sum_cons, ih, List.length_cons]
          show 1 + r.length = r.length + 1
          omega
      rw [this, List.length_map, List.length_map, List.length_range]
      have : ("" : Str).length = 0 := rfl
      rw [this]
      omega)]
    have e2 : (Txt.join "" (((List.range m).map fun i => sgn n (0 + (i : Nat))).map fun q => (⟨#[q]⟩ : Str))).cps.toList = (List.range m).map fun i => sgn n (0 + (i : Nat)) := by
      rw [show ∀ ps, Txt.join "" ps = Str.join "" ps from fun ps => StrLaws.glued_eq_join _ _, join_toList, List.map_map]
      exact joinL_ones _
    refine ⟨⟨_, rfl, ?_, ?_⟩, _, rfl⟩
    · rw [← len_toList, e2, List.length_map, List.length_range]
    · rw [e2]
      intro q hq
      obtain ⟨i, _, rfl⟩ := List.mem_map.mp hq
      exact (sgn_at n _ []).2
/-! ### the store of the law's own functions -/
section
variable {ns : List Int} {k : Nat} {r g h : Store} {j : Nat} {x : Cell}
theorem get_r : (D ns k :: (r ++ g))[r.length + j + 1]? = g[j]? := by
  rw [List.getElem?_cons_succ, List.getElem?_append_right (by omega)]
  congr 1
  omega
theorem set_r : (D ns k :: (r ++ g)).set (r.length + j + 1) x = D ns k :: (r ++ g.set j x) := by
  rw [List.set_cons_succ, List.set_append_right _ _ (by omega)]
  congr 3
  omega
theorem len_r : (D ns k :: (r ++ g)).length = r.length + g.length + 1 := by
  rw [List.length_cons, List.length_append]
theorem app_r : (D ns k :: (r ++ g)) ++ h = D ns k :: (r ++ (g ++ h)) := by
  rw [List.cons_append, List.append_assoc]
end
theorem fIxL_r {ns : List Int} {k : Nat} {r g : Store} {j : Nat} {ds : List Dat} {i : Int} (hg : g[j]? = some (.lst ds)) (h0 : 0 ≤ i) (h1 : i < ds.length) : ∃ d, fIxL (.cell (r.length + j + 1)) (.int i) (D ns k :: (r ++ g)) = .ok d (D ns k :: (r ++ g)) ∧ d ∈ ds :=
  fIxL_at (by rw [get_r]; exact hg) h0 h1
theorem fAppend_r {ns : List Int} {k : Nat} {r g : Store} {j : Nat} {es : List Dat} {y : Dat} (hg : g[j]? = some (.lst es)) (hz : es.length < 1000) : fAppend (.cell (r.length + j + 1)) [y] (D ns k :: (r ++ g)) = .ok .non (D ns k :: (r ++ g.set j (.lst (es ++ [y])))) := by
  simp only [fAppend, get_r, hg]
  rw [if_pos (by rw [sl16]; omega), set_r]
theorem cutD_both {α : Type} (l : List α) (a b : Nat) : cutD l (some (a : Int)) (some (b : Int)) = (l.drop (min a l.length)).take (min b l.length - min a l.length) := by
  unfold cutD
  rw [HT.sIx_nat l.length 0 a, HT.sIx_nat l.length l.length b]
theorem fSlS_eq {s : Str} {lo hi : Option Int} (h : s.length ≤ 10000) (μ : Store) : fSlS (.str s) lo hi μ = .ok (.str (cutS s lo hi)) μ := by
  unfold fSlS
  dsimp only
  rw [if_pos (by rw [sl16]; omega)]
theorem allSG.app {a b : List Nat} (h1 : allSG a) (h2 : allSG b) : allSG (a ++ b) := fun q hq => by
  rcases List.mem_append.mp hq with h | h
  · exact h1 q h
  · exact h2 q h
theorem allSG.cut {s : Str} (h : allSG s.cps.toList) (lo hi : Option Int) : allSG (cutS s lo hi).cps.toList := fun q hq => by
  rw [cutS_toList] at hq
  exact h q (List.mem_of_mem_drop (List.mem_of_mem_take hq))
theorem allSG.one {q : Nat} (h : q ∈ SG.cps.toList) : allSG (⟨#[q]⟩ : Str).cps.toList := fun p hp => by
  have : p = q := by simpa using hp
  rw [this]
  exact h
theorem labels_turn {ns : List Int} {r g : Store} {k jj : Nat} {base : Str} {ls : List Str} {x4 x5 x6 x7 : Option Dat} {i : Dat} (hb : base.length = 8) (hbs : allSG base.cps.toList) (hk : k ≤ 90000) (hg : g[jj]? = some (.lst (ls.map .str))) (hl : ls.length ≤ 10) {P : Ps}
    (hP : ∀ (l : Str) (g' : Store) (y4 y5 y6 y7 : Option Dat), GL l → g'[jj]? = some (.lst ((ls ++ [l]).map .str)) → P.nx [some (.cell 0), some (.str base), some (.cell (r.length + jj + 1)), some i, y4, y5, y6, y7] (D ns (k + 1) :: (r ++ g'))) :
    wps ((msSeq (msAsg (mCall 1 f__law_next (maCons (mVar 0) maNil)) (mgName 4))
  (msSeq (msAsg (mOp fIxL (mLst (maCons (mC (.int 1)) (maCons (mC (.int 8)) (maCons (mOp fAdd (mC (.int 1)) (mOp fMod (mOp fDiv (mVar 4) (mC (.int 5))) (mC (.int 8)))) (maCons (mC (.int 3)) (maCons (mC (.int 2)) maNil)))))) (mOp fMod (mVar 4) (mC (.int 5)))) (mgName 5))
  (msSeq (msAsg (mOp fMod (mOp fDiv (mVar 4) (mC (.int 40))) (mVar 5)) (mgName 6))
  (msSeq (msAsg (mOp fIxS (mCall 0 f__law_signs maNil) (mOp fMod (mOp fDiv (mVar 4) (mC (.int 320))) (mC (.int 37)))) (mgName 7))
  (msDrop (mBM fAppend (mVar 2) (maCons (mOp fAddS (mOp fAddS (mSl fSlS (mVar 1) moNone (moPart (mVar 6))) (mVar 7)) (mSl fSlS (mVar 1) (moPart (mOp fAdd (mVar 6) (mC (.int 1)))) (moPart (mVar 5)))) maNil))))))) [some (.cell 0), some (.str base), some (.cell (r.length + jj + 1)), some i, x4, x5, x6, x7] (D ns k :: (r ++ g))) P := by
  walk_at "nwp"
  refine wp_imp (next_spec (by omega) _) ?_
  rintro d μ' ⟨n, rfl, h0, h1, rfl⟩
  walk_at "nwp"
  unfold mLst
  walk_at "nwp"
  rw [fDiv_int (by omega)]
  walk_at "nwp"
  rw [fMod_int (by omega)]
  walk_at "nwp"
  rw [if_pos (by rw [sl16]; omega)]
  unfold allocR
  walk_at "nwp"
  rw [fMod_int (by omega)]
  walk_at "nwp"
  simp only [List.append_assoc, List.length_append]
  obtain ⟨d, e, hd⟩ := fIxL_r (ns := ns) (k := k + 1) (r := r) (g := g ++ [.lst [.int 1, .int 8, .int (1 + n / 5 % 8), .int 3, .int 2]]) (j := g.length) (i := n % 5) getElem?_mid (by omega) (by simp; omega)
  rw [e]
  obtain ⟨sz, rfl, hs1, hs2⟩ : ∃ sz : Int, d = .int sz ∧ 1 ≤ sz ∧ sz ≤ 8 := by
    simp only [List.mem_cons, List.not_mem_nil, or_false] at hd
    rcases hd with rfl | rfl | rfl | rfl | rfl
    · exact ⟨_, rfl, by omega, by omega⟩
    · exact ⟨_, rfl, by omega, by omega⟩
    · exact ⟨_, rfl, by omega, by omega⟩
    · exact ⟨_, rfl, by omega, by omega⟩
    · exact ⟨_, rfl, by omega, by omega⟩
  walk_at "nwp"
  rw [fDiv_int (by omega)]
  walk_at "nwp"
  rw [fMod_int (by omega)]
  walk_at "nwp"
  rw [signs_is]
  walk_at "nwp"
  rw [fDiv_int (by omega)]
  walk_at "nwp"
  rw [fMod_int (by omega)]
  walk_at "nwp"
  have ha0 := Int.emod_nonneg (n / 40) (show sz ≠ 0 by omega)
  have ha1 := Int.emod_lt_of_pos (n / 40) (show 0 < sz by omega)
  obtain ⟨q, eq, hq⟩ := sign_at (i := n / 320 % 37) (by omega) (by omega) (D ns (k + 1) :: (r ++ (g ++ [.lst [.int 1, .int 8, .int (1 + n / 5 % 8), .int 3, .int 2]])))
  rw [eq]
  walk_at "nwp"
  unfold mBM
  walk_at "nwp"
  have hg2 : (g ++ [Cell.lst [.int 1, .int 8, .int (1 + n / 5 % 8), .int 3, .int 2]])[jj]? = some (.lst (ls.map .str)) := get_app hg
  rw [show ∀ k', lstAt (D ns k' :: (r ++ (g ++ [Cell.lst [.int 1, .int 8, .int (1 + n / 5 % 8), .int 3, .int 2]]))) (.cell (r.length + jj + 1)) = some (ls.map .str) from fun k' => by
    simp only [lstAt, get_r, hg2]]
  rw [if_pos (show (some (ls.map Dat.str)).isSome = true from rfl)]
  unfold mSl moPart moNone
  walk_at "nwp"
  generalize hat : n / 40 % sz = at_ at ha0 ha1 ⊢
  obtain ⟨a, rfl⟩ : ∃ a : Nat, at_ = (a : Int) := ⟨at_.toNat, by omega⟩
  obtain ⟨b, rfl⟩ : ∃ b : Nat, sz = (b : Int) := ⟨sz.toNat, by omega⟩
  rw [fSlS_eq (by omega)]
  walk_at "nwp"
  have l1 : (cutS base none (some (a : Int))).length = a := by
    rw [← len_toList, cutS_toList, cutD_to, List.length_take, len_toList, hb]
    omega
  have l2 : (cutS base (some ((a : Int) + 1)) (some (b : Int))).length = b - a - 1 := by
    rw [← len_toList, cutS_toList, show ((a : Int) + 1) = ((a + 1 : Nat) : Int) by omega, cutD_both, List.length_take, List.length_drop, len_toList, hb]
    omega
  have l3 : ((⟨#[q]⟩ : Str)).length = 1 := rfl
  rw [fAddS_str (by rw [sl16, l1, l3]; omega)]
  walk_at "nwp"
  rw [fSlS_eq (by omega)]
  walk_at "nwp"
  rw [fAddS_str (by rw [sl16, len_app, l1, l2, l3]; omega)]
  walk_at "nwp"
  rw [fAppend_r hg2 (by rw [List.length_map]; omega)]
  refine hP (cutS base none (some (a : Int)) ++ ⟨#[q]⟩ ++ cutS base (some ((a : Int) + 1)) (some (b : Int))) _ _ _ _ _ ⟨?_, ?_, ?_⟩ ?_
  · rw [len_app, len_app, l1, l2, l3]; omega
  · rw [len_app, len_app, l1, l2, l3]; omega
  · rw [toList_app, toList_app]
    exact ((hbs.cut _ _).app (allSG.one hq)).app (hbs.cut _ _)
  · rw [List.getElem?_set_self (List.getElem?_eq_some_iff.mp hg2).1, List.map_append]
    rfl
end Nh

namespace Nh
open PySem PySem.Spec PyProof.Rows L2
local macro_rules | `(tactic| walk_at "nwp") => `(tactic| try simp only [wp_bind, wp_ok, wp_nrR, wps_toS, wps_nx, wps_rt, wps_seq, wp_run, wps_if, wp_if, wp_tAnd, wp_tOr, wp_tNot, startD, List.map_cons, List.map_nil, List.length_cons, List.length_nil, Nat.reduceAdd, Nat.reduceSub, List.replicate_succ, List.replicate_zero, List.cons_append, List.nil_append, List.getElem?_cons_zero, List.getElem?_cons_succ, List.set_cons_zero, List.set_cons_succ,
  asB, mVar, mC, mOp, mCB, maCons, maNil, mCall, msRet, msAsg, mgName, msDrop, msNext, msRaise, mTup, mChain, mUn, if_true, if_false, Bool.not_true, Bool.not_false, Bool.false_eq_true, reduceIte, Nat.reduceEqDiff, Nat.reduceLeDiff,
  eq_self_iff_true, true_and, isA_str, inSign_star, inSign_one, notInSign_one, fEq_str, fEq_int, fLe_int, fLt_int, fGt_int, fAdd_int, fSub_int, fNeg_int])

theorem strs_at {ls : List Str} {d : Dat} (h : d ∈ ls.map Dat.str) : ∃ l ∈ ls, d = .str l := by
  obtain ⟨l, hl, e⟩ := List.mem_map.mp h
  exact ⟨l, hl, e.symm⟩
theorem labels_spec {ns : List Int} {k : Nat} (hk : k ≤ 80000) (r : Store) : wp (f__law_labels [.cell 0] (D ns k :: r)) fun d μ' => ∃ (ls : List Str) (g : Store) (jj k' : Nat), d = .cell (r.length + jj + 1) ∧ g[jj]? = some (.lst (ls.map .str)) ∧ ls.length = 5 ∧ (∀ l ∈ ls, GL l) ∧ μ' = D ns k' :: (r ++ g) ∧ k' ≤ k + 10 := by
  refine wp_nr ?_
  rw [wp_run]
  unfold b__law_labels
  walk_at "nwp"
  refine wp_imp (next_spec (by omega) _) ?_
  rintro d μ' ⟨n0, rfl, h0, h1, rfl⟩
  walk_at "nwp"
  refine wp_imp (label_spec (z := 8) (m := 8) rfl (by omega) _) ?_
  rintro d μ' ⟨⟨base, rfl, hb, hbs⟩, g1, rfl⟩
  walk_at "nwp"
  unfold mLst
  walk_at "nwp"
  rw [if_pos (Nat.zero_le _)]
  unfold allocR
  walk_at "nwp"
  simp only [List.append_assoc, List.length_append]
  rw [msFor_q (lo := 0) (n := 3) (range_src (by omega) _ _)]
  refine wps_for (s := srcQ 0 3) (rangeD 0 3) (fun i δ μ => ∃ (ls : List Str) (g : Store) (k' : Nat) (x3 x4 x5 x6 x7 : Option Dat), δ = [some (.cell 0), some (.str base), some (.cell (r.length + g1.length + 1)), x3, x4, x5, x6, x7] ∧ μ = D ns k' :: (r ++ g) ∧
    g[g1.length]? = some (.lst (ls.map .str)) ∧ ls.length = i ∧ (∀ l ∈ ls, GL l) ∧ k' ≤ k + 1 + i) rfl (rangeD_len _ _).symm (fun _ _ => rfl) (fun _ => rfl)
    ⟨[], g1 ++ [.lst []], k + 1, none, none, none, none, none, rfl, rfl, getElem?_mid, rfl, (fun l hl => nomatch hl), by omega⟩ ?_ ?_
  · rintro i d δ μ hd ⟨ls, g, k', x3, x4, x5, x6, x7, rfl, rfl, hg, hl, hG, hk'⟩
    obtain ⟨hi, rfl⟩ := rangeD_get hd
    refine ⟨_, rfl, ?_⟩
    refine labels_turn hb hbs (by omega) hg (by omega) fun l g' y4 y5 y6 y7 hl' hg' => ?_
    refine ⟨ls ++ [l], g', k' + 1, _, y4, y5, y6, y7, rfl, rfl, hg', by rw [List.length_append, List.length_singleton, hl], fun t ht => ?_, by omega⟩
    rcases List.mem_append.mp ht with h | h
    · exact hG t h
    · rw [List.mem_singleton.mp h]; exact hl'
  · rintro δ μ ⟨ls, g, k', x3, x4, x5, x6, x7, rfl, rfl, hg, hl, hG, hk'⟩
    rw [rangeD_len] at hl hk'
    walk_at "nwp"
    refine wp_imp (next_spec (by omega) _) ?_
    rintro d μ' ⟨n, rfl, h0', h1', rfl⟩
    walk_at "nwp"
    rw [signs_is]
    walk_at "nwp"
    rw [fDiv_int (by omega)]
    walk_at "nwp"
    rw [fMod_int (by omega)]
    walk_at "nwp"
    obtain ⟨q, eq, hq⟩ := sign_at (i := n / 7 % 37) (by omega) (by omega) (D ns (k' + 1) :: (r ++ g))
    rw [eq]
    walk_at "nwp"
    -- the fourth
    generalize hm4 : (mIf (asB (mOp fLt (mCB fLen (maCons (mOp fIxL (mVar 2) (mC (.int 0))) maNil)) (mC (.int 8)))) (mSl fSlS (mOp fAddS (mVar 7) (mOp fIxL (mVar 2) (mC (.int 0)))) moNone (moPart (mC (.int 8)))) (mSl fSlS (mOp fIxL (mVar 2) (mC (.int 0))) (moPart (mC (.int 1))) moNone)) = m4
    unfold mBM
    walk_at "nwp"
    have hget : ∀ k'', lstAt (D ns k'' :: (r ++ g)) (.cell (r.length + g1.length + 1)) = some (ls.map .str) := fun k'' => by
      simp only [lstAt, get_r, hg]
    rw [hget, if_pos (show (some (ls.map Dat.str)).isSome = true from rfl)]
    walk_at "nwp"
    obtain ⟨d0, e0, hd0⟩ := fIxL_r (ns := ns) (k := k' + 1) (r := r) (g := g) (j := g1.length) (i := 0) hg (by omega) (by rw [List.length_map, hl]; omega)
    obtain ⟨l0, hl0, rfl⟩ := strs_at hd0
    obtain ⟨a1, a2, a3⟩ := hG l0 hl0
    have l3 : ((⟨#[q]⟩ : Str)).length = 1 := rfl
    have fourth : ∀ (Q : Dat → Store → Prop) (R : Nat → Store → Prop), (∀ l, GL l → Q (.str l) (D ns (k' + 1) :: (r ++ g))) →
        wp (m4
          [some (.cell 0), some (.str base), some (.cell (r.length + g1.length + 1)), x3, some (.int n), x5, x6, some (.str ⟨#[q]⟩)] (D ns (k' + 1) :: (r ++ g))) Q R := by
      intro Q R hQ
      subst hm4
      walk_at "nwp"
      rw [e0]
      walk_at "nwp"
      rw [fLen_str (by rw [sl16]; omega)]
      walk_at "nwp"
      unfold mSl moPart moNone
      by_cases h8 : (l0.length : Int) < 8
      · rw [decide_eq_true h8]
        walk_at "nwp"
        rw [e0]
        walk_at "nwp"
        rw [fAddS_str (by rw [sl16, l3]; omega)]
        walk_at "nwp"
        rw [fSlS_eq (by rw [len_app, l3]; omega)]
        refine hQ _ ⟨?_, ?_, ((allSG.one hq).app a3 |> fun z => (show allSG ((⟨#[q]⟩ : Str) ++ l0).cps.toList by rw [toList_app]; exact z)).cut _ _⟩
        · rw [← len_toList, cutS_toList, show (8 : Int) = ((8 : Nat) : Int) from rfl, cutD_to, List.length_take, len_toList, len_app, l3]
          omega
        · rw [← len_toList, cutS_toList, show (8 : Int) = ((8 : Nat) : Int) from rfl, cutD_to, List.length_take, len_toList, len_app, l3]
          omega
      · rw [decide_eq_false h8]
        walk_at "nwp"
        rw [e0]
        walk_at "nwp"
        rw [fSlS_eq (by omega)]
        refine hQ _ ⟨?_, ?_, a3.cut _ _⟩
        · rw [← len_toList, cutS_toList, show (1 : Int) = ((1 : Nat) : Int) from rfl, cutD_from, List.length_drop, len_toList]
          omega
        · rw [← len_toList, cutS_toList, show (1 : Int) = ((1 : Nat) : Int) from rfl, cutD_from, List.length_drop, len_toList]
          omega
    refine fourth _ _ fun l4 hl4 => ?_
    walk_at "nwp"
    rw [fAppend_r hg (by rw [List.length_map]; omega)]
    walk_at "nwp"
    have hlt : g1.length < g.length := (List.getElem?_eq_some_iff.mp hg).1
    have hg4 : (g.set g1.length (.lst (ls.map Dat.str ++ [.str l4])))[g1.length]? = some (.lst ((ls ++ [l4]).map .str)) := by
      rw [List.getElem?_set_self hlt, List.map_append]
      rfl
    generalize hgg : g.set g1.length (.lst (ls.map Dat.str ++ [.str l4])) = g4 at hg4 ⊢
    have hG4 : ∀ l ∈ ls ++ [l4], GL l := fun t ht => by
      rcases List.mem_append.mp ht with h | h
      · exact hG t h
      · rw [List.mem_singleton.mp h]; exact hl4
    -- the fifth
    unfold mSl moPart moNone
    walk_at "nwp"
    rw [fMod_int (by omega)]
    walk_at "nwp"
    obtain ⟨d1, e1, hd1⟩ := fIxL_r (ns := ns) (k := k' + 1) (r := r) (g := g4) (j := g1.length) (i := n % 2) hg4 (by omega) (by rw [List.length_map, List.length_append, List.length_singleton, hl]; omega)
    obtain ⟨l1, hl1, rfl⟩ := strs_at hd1
    obtain ⟨b1, b2, b3⟩ := hG4 l1 hl1
    rw [e1]
    walk_at "nwp"
    rw [fSlS_eq (by omega)]
    walk_at "nwp"
    have c6 : (cutS l1 none (some 6)).length = min 6 l1.length := by
      rw [← len_toList, cutS_toList, show (6 : Int) = ((6 : Nat) : Int) from rfl, cutD_to, List.length_take, len_toList]
    have cd : ("-" : Str).length = 1 := rfl
    rw [fAddS_str (by rw [sl16, c6, cd]; omega)]
    walk_at "nwp"
    rw [fDiv_int (by omega)]
    walk_at "nwp"
    rw [fMod_int (by omega)]
    walk_at "nwp"
    rw [show ∀ μ, fMulS (.str ⟨#[q]⟩) (.int (n / 2 % 2)) μ = .ok (.str (Txt.mul ⟨#[q]⟩ (n / 2 % 2))) μ from fun μ => by
      unfold fMulS
      dsimp only
      rw [if_pos ⟨by omega, by omega, by rw [l3]; omega⟩]]
    walk_at "nwp"
    have hmul : (Txt.mul (⟨#[q]⟩ : Str) (n / 2 % 2)).length ≤ 1 ∧ allSG (Txt.mul (⟨#[q]⟩ : Str) (n / 2 % 2)).cps.toList := by
      unfold Txt.mul
      by_cases hz : n / 2 % 2 < 1
      · rw [if_pos hz]
        exact ⟨Nat.zero_le _, fun p hp => nomatch hp⟩
      · rw [if_neg hz]
        have e : n / 2 % 2 = 1 := by omega
        rw [e]
        exact ⟨Nat.le_refl _, allSG.one hq⟩
    rw [fAddS_str (by rw [sl16, len_app, c6, cd]; omega)]
    walk_at "nwp"
    rw [if_pos (by rw [sl16]; omega)]
    walk_at "nwp"
    simp only [List.append_assoc, List.length_append]
    generalize hl5 : cutS l1 none (some 6) ++ ("-" : Str) ++ Txt.mul ⟨#[q]⟩ (n / 2 % 2) = l5
    have hdash : allSG ("-" : Str).cps.toList := fun p hp => by
      have : p = 45 := by simpa using (show p ∈ [45] from hp)
      rw [this]
      decide +kernel
    have hG5 : GL l5 := by
      subst hl5
      refine ⟨?_, ?_, ?_⟩
      · rw [len_app, len_app, c6, cd]; omega
      · rw [len_app, len_app, c6, cd]; omega
      · rw [toList_app, toList_app]
        exact ((b3.cut _ _).app hdash).app hmul.2
    have f1 : celL (D ns (k' + 1) :: (r ++ (g4 ++ [.lst [.str l5]]))) (.cell (r.length + g1.length + 1)) = some ((ls ++ [l4]).map .str) := by
      simp only [celL, get_r, get_app hg4]
    have f2 : celL (D ns (k' + 1) :: (r ++ (g4 ++ [.lst [.str l5]]))) (.cell (r.length + g4.length + 1)) = some [.str l5] := by
      simp only [celL, get_r, getElem?_mid]
    unfold fCat
    rw [f1, f2]
    dsimp only
    rw [if_pos (by rw [sl16, List.length_map, List.length_append, List.length_singleton, hl]; exact (by decide : 3 + 1 + 1 ≤ 16777216))]
    unfold allocR
    walk_at "nwp"
    simp only [List.append_assoc, List.length_append, List.length_cons, List.length_nil]
    refine ⟨ls ++ [l4] ++ [l5], g4 ++ [.lst [.str l5], .lst (((ls ++ [l4]).map .str) ++ [.str l5])], g4.length + 1, k' + 1, ?_, ?_, ?_, ?_, ?_, ?_⟩
    · congr 1
    · rw [List.getElem?_append_right (by omega)]
      simp
    · simp [hl]
    · intro t ht
      rcases List.mem_append.mp ht with h | h
      · exact hG4 t h
      · rw [List.mem_singleton.mp h]; exact hG5
    · simp
    · omega
end Nh

namespace Nh
open PySem PySem.Spec PyProof.Rows L2
local macro_rules | `(tactic| walk_at "nwp") => `(tactic| try simp only [wp_bind, wp_ok, wp_nrR, wps_toS, wps_nx, wps_rt, wps_seq, wp_run, wps_if, wp_if, wp_tAnd, wp_tOr, wp_tNot, startD, List.map_cons, List.map_nil, List.length_cons, List.length_nil, Nat.reduceAdd, Nat.reduceSub, List.replicate_succ, List.replicate_zero, List.cons_append, List.nil_append, List.getElem?_cons_zero, List.getElem?_cons_succ, List.set_cons_zero, List.set_cons_succ,
  asB, mVar, mC, mOp, mCB, maCons, maNil, mCall, msRet, msAsg, mgName, msDrop, msNext, msRaise, mTup, mChain, mUn, if_true, if_false, Bool.not_true, Bool.not_false, Bool.false_eq_true, reduceIte, Nat.reduceEqDiff, Nat.reduceLeDiff,
  eq_self_iff_true, true_and, isA_str, inSign_star, inSign_one, notInSign_one, fEq_str, fEq_int, fLe_int, fLt_int, fGt_int, fAdd_int, fSub_int, fNeg_int])

/-- a drawn name: none to six labels, the first one perhaps a star -/
def NG (ss : List Str) : Prop := ss.length ≤ 6 ∧ (∀ t ∈ ss.drop 1, GL t) ∧ ∀ t ∈ ss.take 1, GL t ∨ t = "*"
theorem get_q {r g h : Store} {x : Cell} : (r ++ (g ++ (x :: h)))[r.length + g.length]? = some x := by
  rw [← List.append_assoc, ← List.length_append]
  exact getElem?_mid
theorem set_q {r g h : Store} {x y : Cell} : (r ++ (g ++ (x :: h))).set (r.length + g.length) y = r ++ (g ++ (y :: h)) := by
  rw [← List.append_assoc, ← List.length_append, set_mid, List.append_assoc]
theorem star_label : isLabelS "*" = true := by decide +kernel
theorem NG.name {ss : List Str} (h : NG ss) : isNameS ss = true := by
  obtain ⟨h1, h2, h3⟩ := h
  unfold isNameS isNameD
  dsimp only
  rw [decide_eq_true (by rw [List.length_map]; exact h1), Bool.true_and, Bool.and_eq_true]
  refine ⟨?_, ?_⟩
  · rw [List.all_map, List.all_eq_true]
    intro t ht
    show isLabelS t = true
    have ht' : t ∈ ss.take 1 ++ ss.drop 1 := by rw [List.take_append_drop]; exact ht
    rcases List.mem_append.mp ht' with h | h
    · rcases h3 t h with g | rfl
      · exact g.label
      · exact star_label
    · exact (h2 t h).label
  · rw [← List.map_drop, List.any_map, Bool.not_eq_true', List.any_eq_false]
    intro t ht
    show ¬ decide (t = "*") = true
    rw [decide_eq_false (h2 t ht).star]
    exact Bool.false_ne_true
theorem NG.drop {ss : List Str} (h : NG ss) (n : Nat) : NG (ss.drop n) := by
  cases n with
  | zero => exact h
  | succ n =>
    obtain ⟨h1, h2, h3⟩ := h
    have sub : ∀ t ∈ ss.drop (n + 1), GL t := fun t ht => h2 t (by
      rw [show n + 1 = 1 + n by omega, ← List.drop_drop] at ht
      exact List.mem_of_mem_drop ht)
    exact ⟨by rw [List.length_drop]; omega, fun t ht => sub t (List.mem_of_mem_drop ht), fun t ht => .inl (sub t (List.mem_of_mem_take ht))⟩
theorem NG.of_gl {ss : List Str} (hl : ss.length ≤ 6) (h : ∀ t ∈ ss, GL t) : NG ss := ⟨hl, fun t ht => h t (List.mem_of_mem_drop ht), fun t ht => .inl (h t (List.mem_of_mem_take ht))⟩
theorem NG.head {ss : List Str} {l : Str} (h : NG ss) (hl : GL l) : NG (l :: ss.drop 1) := by
  refine ⟨?_, fun t ht => h.2.1 t (by simpa using ht), fun t ht => ?_⟩
  · have := h.1
    rw [List.length_cons, List.length_drop]
    omega
  · have : t = l := by simpa using ht
    rw [this]
    exact .inl hl
theorem GL.sizes {l : Str} (h : GL l) : l.length ≤ 8 := h.2.1
theorem neD_lists {μ : Store} {a b : Nat} {ss ts : List Str} (ha : μ[a]? = some (.lst (ss.map .str))) (hb : μ[b]? = some (.lst (ts.map .str))) (h1 : ∀ s ∈ ss, okS s) (h2 : ∀ s ∈ ts, okS s) : fNeD (.cell a) (.cell b) μ = .ok (.bl (!decide (ss = ts))) μ := by
  have p : ∀ {a : Nat} {ss : List Str}, μ[a]? = some (.lst (ss.map .str)) → py μ 12 (.cell a) = some (.list (ss.map .str)) := by
    intro a ss h
    show (match μ[a]? with | some (.lst ds) => (pyAll (py μ 11) ds).map PyData.list | _ => none) = _
    rw [h]
    dsimp only
    rw [pyAll_strs _ (fun s => rfl)]
    rfl
  have q : ∀ {ss : List Str}, (∀ s ∈ ss, okS s) → SeqAt.shaped (.list (ss.map .str)) = true := fun {ss} h => (show Shp (.list (ss.map .str)) from ⟨lay_strs h, by
    show PyData.depthAll (ss.map .str) + 1 ≤ 5
    rw [depth_strs]
    omega⟩).shaped
  simp only [fNeD, p ha, p hb, q h1, q h2, Bool.and_self, if_true]
  rw [show PyData.eqv (.list (ss.map .str)) (.list (ts.map .str)) = PyData.eqvAll (ss.map .str) (ts.map .str) from rfl, eqv_strs]
theorem name_spec {ns : List Int} {k c : Nat} {r : Store} {ls : List Str} (hk : k ≤ 80000) (hc : r[c]? = some (.lst (ls.map .str))) (hl : ls.length = 5) (hG : ∀ l ∈ ls, GL l) :
    wp (f__law_name [.cell 0, .cell (c + 1)] (D ns k :: r)) fun d μ' => ∃ (ss : List Str) (g : Store) (k' : Nat), d = .tup (ss.map .str) ∧ NG ss ∧ μ' = D ns k' :: (r ++ g) ∧ k' ≤ k + 8 := by
  refine wp_nr ?_
  rw [wp_run]
  unfold b__law_name
  walk_at "nwp"
  refine wp_imp (next_spec (by omega) _) ?_
  rintro d μ' ⟨n, rfl, h0, h1, rfl⟩
  walk_at "nwp"
  unfold mLst
  walk_at "nwp"
  rw [if_pos (by rw [sl16]; omega)]
  unfold allocR
  walk_at "nwp"
  rw [fMod_int (by omega)]
  walk_at "nwp"
  obtain ⟨d, e, hd⟩ := fIxL_r (ns := ns) (k := k + 1) (r := r) (g := [.lst [.int 0, .int 1, .int 2, .int 3, .int 4, .int 6, .int 2]]) (j := 0) (i := n % 7) rfl (by omega) (by simp; omega)
  rw [e]
  obtain ⟨m, rfl, hm⟩ : ∃ m : Nat, d = .int (m : Int) ∧ m ≤ 6 := by
    simp only [List.mem_cons, List.not_mem_nil, or_false] at hd
    rcases hd with rfl | rfl | rfl | rfl | rfl | rfl | rfl
    · exact ⟨0, rfl, by omega⟩
    · exact ⟨1, rfl, by omega⟩
    · exact ⟨2, rfl, by omega⟩
    · exact ⟨3, rfl, by omega⟩
    · exact ⟨4, rfl, by omega⟩
    · exact ⟨6, rfl, by omega⟩
    · exact ⟨2, rfl, by omega⟩
  walk_at "nwp"
  generalize hmenu : ([Cell.lst [.int 0, .int 1, .int 2, .int 3, .int 4, .int 6, .int 2]] : Store) = g1
  have hg1 : g1.length = 1 := by rw [← hmenu]; rfl
  rw [mLc_q (lo := 0) (n := m) (μ1 := D ns (k + 1) :: (r ++ g1)) (by
    have e := range_src (j := (m : Int)) (by omega) [some (.cell 0), some (.cell (c + 1)), some (.int n), some (.int (m : Int)), none, none] (D ns (k + 1) :: (r ++ g1))
    rw [Int.toNat_natCast] at e
    exact e)]
  refine wp_lc_inv (s := srcQ 0 m) (rangeD 0 m) (fun i acc μ2 => ∃ (k2 : Nat) (ts : List Str) (g : Store), acc = ts.map .str ∧ (∀ t ∈ ts, GL t) ∧ μ2 = D ns k2 :: (r ++ (g1 ++ (.lst acc :: g))) ∧ k2 ≤ k + 1 + i) rfl (rangeD_len _ _).symm (fun _ _ => rfl) (fun _ => rfl) (by rw [sl16, rangeD_len]; omega)
    ⟨k + 1, [], [], rfl, (fun t ht => nomatch ht), by simp, by omega⟩ ?_ ?_
  · rintro i d acc μ2 hd ⟨k2, ts, g, rfl, hts, rfl, hk2⟩ hacc
    obtain ⟨hi, rfl⟩ := rangeD_get hd
    refine ⟨_, rfl, ?_⟩
    dsimp only [wipeD]
    walk_at "nwp"
    refine wp_imp (next_spec (by omega) _) ?_
    rintro d μ' ⟨n2, rfl, h2, h3, rfl⟩
    walk_at "nwp"
    rw [fMod_int (by omega)]
    walk_at "nwp"
    obtain ⟨d2, e2, hd2⟩ := fIxL_at (μ := D ns (k2 + 1) :: (r ++ (g1 ++ (.lst (ts.map .str) :: g)))) (k := c + 1) (ds := ls.map .str) (i := n2 % 5) (by rw [List.getElem?_cons_succ]; exact get_app hc) (by omega) (by rw [List.length_map, hl]; omega)
    obtain ⟨l, hlm, rfl⟩ := strs_at hd2
    rw [e2]
    walk_at "nwp"
    have em : r ++ (g1 ++ (Cell.lst (ts.map .str) :: g)) = (r ++ g1) ++ (Cell.lst (ts.map .str) :: g) := by rw [List.append_assoc]
    refine ⟨by rw [em]; exact getElem?_mid, k2 + 1, ts ++ [l], g, by rw [List.map_append]; rfl, fun t ht => ?_, ?_, by omega⟩
    · rcases List.mem_append.mp ht with h | h
      · exact hts t h
      · rw [List.mem_singleton.mp h]; exact hG l hlm
    · rw [em, set_mid, List.append_assoc]
  · rintro acc μ2 hacc ⟨k2, ts, g, rfl, hts, rfl, hk2⟩
    rw [rangeD_len] at hacc hk2
    rw [List.length_map] at hacc
    rw [show (D ns (k + 1) :: (r ++ g1)).length = r.length + g1.length + 1 from len_r]
    walk_at "nwp"
    rw [if_pos (Nat.zero_le _)]
    walk_at "nwp"
    simp only [List.append_assoc, List.length_append, List.length_cons, List.cons_append]
    rw [neD_lists (ss := ts) (ts := []) (by rw [get_r]; exact getElem?_mid) (by
      rw [show r.length + (g1.length + (g.length + 1)) + 1 = r.length + (g1 ++ (Cell.lst (ts.map .str) :: g)).length + 1 by simp, show r ++ (g1 ++ Cell.lst (ts.map .str) :: (g ++ [.lst []])) = r ++ ((g1 ++ (Cell.lst (ts.map .str) :: g)) ++ [.lst []]) by simp, get_r]
      exact getElem?_mid) (fun s hs => (hts s hs).ok) (fun s hs => nomatch hs)]
    walk_at "nwp"
    have fin : ∀ (us : List Str) (g' : Store), NG us → wp (fTupleOf [.cell (r.length + g1.length + 1)] (D ns k2 :: (r ++ (g1 ++ (Cell.lst (us.map .str) :: g'))))) (fun d μ' => ∃ (ss : List Str) (g : Store) (k' : Nat), d = .tup (ss.map .str) ∧ NG ss ∧ μ' = D ns k' :: (r ++ g) ∧ k' ≤ k + 8) := by
      intro us g' hn
      rw [show fTupleOf [.cell (r.length + g1.length + 1)] (D ns k2 :: (r ++ (g1 ++ (Cell.lst (us.map .str) :: g')))) = .ok (.tup (us.map .str)) (D ns k2 :: (r ++ (g1 ++ (Cell.lst (us.map .str) :: g')))) from by
        simp only [fTupleOf, seqD, lstAt, get_r, getElem?_mid]]
      exact ⟨us, _, k2, rfl, hn, rfl, by omega⟩
    have hn0 : NG ts := NG.of_gl (by omega) hts
    by_cases ht : ts = []
    · rw [decide_eq_true ht]
      walk_at "nwp"
      exact fin ts _ hn0
    · rw [decide_eq_false ht]
      walk_at "nwp"
      rw [fDiv_int (by omega)]
      walk_at "nwp"
      rw [fMod_int (by omega)]
      walk_at "nwp"
      by_cases h5 : n / 7 % 5 = 0
      · rw [decide_eq_true h5]
        unfold mgSub
        walk_at "nwp"
        rw [get_q]
        dsimp only
        obtain ⟨t, us, rfl⟩ : ∃ t us, ts = t :: us := by
          cases ts with
          | nil => exact (ht rfl).elim
          | cons t us => exact ⟨t, us, rfl⟩
        rw [show ixN ((t :: us).map Dat.str).length 0 = some 0 by simp [ixN]]
        dsimp only
        walk_at "nwp"
        rw [set_q]
        have := fin ("*" :: us) (g ++ [.lst []]) ⟨by simp at hacc ⊢; omega, fun t ht => hts t (by simp at ht; exact List.mem_cons_of_mem _ ht), fun t ht => .inr (by simpa using ht)⟩
        exact this
      · rw [decide_eq_false h5]
        walk_at "nwp"
        exact fin ts _ hn0
end Nh

namespace Nh
open PySem PySem.Spec PyProof.Rows L2
local macro_rules | `(tactic| walk_at "nwp") => `(tactic| try simp only [wp_bind, wp_ok, wp_nrR, wps_toS, wps_nx, wps_rt, wps_seq, wp_run, wps_if, wp_if, wp_tAnd, wp_tOr, wp_tNot, startD, List.map_cons, List.map_nil, List.length_cons, List.length_nil, Nat.reduceAdd, Nat.reduceSub, List.replicate_succ, List.replicate_zero, List.cons_append, List.nil_append, List.getElem?_cons_zero, List.getElem?_cons_succ, List.set_cons_zero, List.set_cons_succ,
  asB, mVar, mC, mOp, mCB, maCons, maNil, mCall, msRet, msAsg, mgName, msDrop, msNext, msRaise, mTup, mChain, mUn, if_true, if_false, Bool.not_true, Bool.not_false, Bool.false_eq_true, reduceIte, Nat.reduceEqDiff, Nat.reduceLeDiff,
  eq_self_iff_true, true_and, isA_str, inSign_star, inSign_one, notInSign_one, fEq_str, fEq_int, fLe_int, fLt_int, fGt_int, fAdd_int, fSub_int, fNeg_int])

/-! ### names in order -/
def ltT (a b : Str) : Bool := decide (a.cps.toList < b.cps.toList)
theorem nat_tri : ∀ (a b : List Nat), ¬ a < b → ¬ b < a → a = b
  | [], [], _, _ => rfl
  | [], b :: bs, h, _ => (h (List.nil_lt_cons _ _)).elim
  | a :: as, [], _, h => (h (List.nil_lt_cons _ _)).elim
  | a :: as, b :: bs, h1, h2 => by
    rw [List.cons_lt_cons_iff] at h1 h2
    have e : a = b := by omega
    subst e
    rw [nat_tri as bs (fun z => h1 (.inr ⟨rfl, z⟩)) (fun z => h2 (.inr ⟨rfl, z⟩))]
theorem ltT_irrefl (a : Str) : ltT a a = false := decide_eq_false (List.lt_irrefl _)
theorem ltT_asymm {a b : Str} (h : ltT a b = true) : ltT b a = false := decide_eq_false (List.lt_asymm (of_decide_eq_true h))
theorem ltT_trans {a b c : Str} (h1 : ltT a b = true) (h2 : ltT b c = true) : ltT a c = true := decide_eq_true (List.lt_trans (of_decide_eq_true h1) (of_decide_eq_true h2))
theorem ltT_tri {a b : Str} (h1 : ltT a b = false) (h2 : ltT b a = false) : a = b := str_ext (nat_tri _ _ (of_decide_eq_false h1) (of_decide_eq_false h2))
def lexS : List Str → List Str → Bool
  | [], [] => false
  | [], _ :: _ => true
  | _ :: _, [] => false
  | a :: as, b :: bs => if a = b then lexS as bs else ltT a b
theorem lexS_irrefl : ∀ a : List Str, lexS a a = false
  | [] => rfl
  | a :: as => by
    unfold lexS
    rw [if_pos rfl, lexS_irrefl as]
theorem lexS_asymm : ∀ {a b : List Str}, lexS a b = true → lexS b a = false
  | [], [], h => by cases h
  | [], _ :: _, _ => rfl
  | _ :: _, [], h => by cases h
  | a :: as, b :: bs, h => by
    unfold lexS at h ⊢
    by_cases e : a = b
    · subst e
      rw [if_pos rfl] at h ⊢
      exact lexS_asymm h
    · rw [if_neg e] at h
      rw [if_neg (fun z => e z.symm)]
      exact ltT_asymm h
theorem lexS_tri : ∀ {a b : List Str}, lexS a b = false → lexS b a = false → a = b
  | [], [], _, _ => rfl
  | [], _ :: _, h, _ => by cases h
  | _ :: _, [], _, h => by cases h
  | a :: as, b :: bs, h1, h2 => by
    unfold lexS at h1 h2
    by_cases e : a = b
    · subst e
      rw [if_pos rfl] at h1 h2
      rw [lexS_tri h1 h2]
    · rw [if_neg e] at h1
      rw [if_neg (fun z => e z.symm)] at h2
      exact (e (ltT_tri h1 h2)).elim
theorem lexS_trans : ∀ {a b c : List Str}, lexS a b = true → lexS b c = true → lexS a c = true
  | [], [], _, h, _ => by cases h
  | [], _ :: _, [], _, h => by cases h
  | [], _ :: _, _ :: _, _, _ => rfl
  | _ :: _, [], _, h, _ => by cases h
  | _ :: _, _ :: _, [], _, h => by cases h
  | a :: as, b :: bs, c :: cs, h1, h2 => by
    unfold lexS at h1 h2 ⊢
    by_cases e1 : a = b
    · subst e1
      rw [if_pos rfl] at h1
      by_cases e2 : a = c
      · subst e2
        rw [if_pos rfl] at h2 ⊢
        exact lexS_trans h1 h2
      · rw [if_neg e2] at h2 ⊢
        exact h2
    · rw [if_neg e1] at h1
      by_cases e2 : b = c
      · subst e2
        rw [if_neg e1]
        exact h1
      · rw [if_neg e2] at h2
        have h3 := ltT_trans h1 h2
        by_cases e3 : a = c
        · subst e3
          rw [ltT_asymm h1] at h2
          cases h2
        · rw [if_neg e3]
          exact h3
/-- a name is not behind another -/
def leN (a b : List Str) : Bool := !lexS b.reverse a.reverse
theorem leN_total (a b : List Str) : (leN a b || leN b a) = true := by
  unfold leN
  cases h : lexS b.reverse a.reverse with
  | false => rfl
  | true => rw [lexS_asymm h]; rfl
theorem leN_trans (a b c : List Str) (h1 : leN a b = true) (h2 : leN b c = true) : leN a c = true := by
  unfold leN at h1 h2 ⊢
  rw [Bool.not_eq_true'] at h1 h2 ⊢
  cases h : lexS c.reverse a.reverse with
  | false => rfl
  | true =>
    exfalso
    cases h3 : lexS b.reverse c.reverse with
    | true =>
      rw [lexS_trans h3 h] at h1
      cases h1
    | false =>
      have e := lexS_tri h2 h3
      rw [e] at h
      rw [h] at h1
      cases h1
theorem leN_anti {a b : List Str} (h1 : leN a b = true) (h2 : leN b a = true) : a = b := by
  unfold leN at h1 h2
  rw [Bool.not_eq_true'] at h1 h2
  exact List.reverse_inj.mp (lexS_tri h2 h1)
theorem sorted_one {l1 l2 : List (List Str)} (h1 : l1.Pairwise fun a b => leN a b = true) (h2 : l2.Pairwise fun a b => leN a b = true) (p : l1.Perm l2) : l1 = l2 :=
  List.Perm.eq_of_pairwise (fun a b _ _ x y => leN_anti x y) h1 h2 p
/-! ### the keys' order -/
def keyN (ss : List Str) : PyData := .tuple (ss.reverse.map .str)
theorem alike_strs : ∀ as bs : List Str, PySem.W.alikeAll (as.map .str) (bs.map .str) = true
  | [], _ => by simp [PySem.W.alikeAll]
  | a :: as, [] => by simp [PySem.W.alikeAll]
  | a :: as, b :: bs => by
    rw [List.map_cons, List.map_cons]
    simp only [PySem.W.alikeAll, PySem.W.alike, alike_strs as bs, Bool.and_self]
theorem toks_strs : ∀ as bs : List Str, PyProof.Rows.lexLt PyProof.Rows.itemOrd (PySem.W.keyToksAll (as.map .str)) (PySem.W.keyToksAll (bs.map .str)) = lexS as bs
  | [], [] => by rfl
  | [], b :: bs => by rfl
  | a :: as, [] => by rfl
  | a :: as, b :: bs => by
    rw [List.map_cons, List.map_cons]
    have hal : PySem.W.alike (.str a) (.str b) = true := by simp only [PySem.W.alike]
    unfold lexS
    by_cases e : a = b
    · subst e
      rw [if_pos rfl, PySem.W.dataLt_all_yes hal (beq_self_eq_true a), toks_strs as bs]
    · rw [if_neg e, PySem.W.dataLt_all_no hal (show PyData.eqv (.str a) (.str b) = false from beq_eq_false_iff_ne.mpr e), PySem.W.dataLt_str]
      rfl
theorem dataLt_keys (a b : List Str) : PySem.W.dataLt (keyN a) (keyN b) = lexS a.reverse b.reverse := by
  unfold keyN
  rw [PySem.W.dataLt_tuple, toks_strs]
def tupN (ss : List Str) : Dat := .tup (ss.map .str)
theorem sortedBy_names (nl : List (List Str)) : sortedBy (nl.map keyN) (nl.map tupN) = (nl.mergeSort leN).map tupN := by
  rw [← sortedBy_map]
  congr 1
  unfold sortedBy
  have e : (nl.map keyN).zip nl = nl.map fun x => (keyN x, x) := by
    induction nl with
    | nil => rfl
    | cons x r ih => rw [List.map_cons, List.map_cons, List.zip_cons_cons, ih]
  have m : (nl.mergeSort leN).map (fun x => (keyN x, x)) = (nl.map fun x => (keyN x, x)).mergeSort (PySem.W.dataLe false Prod.fst) := List.map_mergeSort (fun a _ b _ => by
    rw [PySem.W.dataLe_eq]
    show leN a b = !PySem.W.dataLt (keyN b) (keyN a)
    rw [dataLt_keys]
    rfl)
  rw [e, ← m, List.map_map]
  exact List.map_id _
theorem merge_sorted (nl : List (List Str)) : (nl.mergeSort leN).Pairwise fun a b => leN a b = true := List.pairwise_mergeSort leN_trans leN_total nl
end Nh

namespace Nh
open PySem PySem.Spec PyProof.Rows L2
local macro_rules | `(tactic| walk_at "nwp") => `(tactic| try simp only [wp_bind, wp_ok, wp_nrR, wps_toS, wps_nx, wps_rt, wps_seq, wp_run, wps_if, wp_if, wp_tAnd, wp_tOr, wp_tNot, startD, List.map_cons, List.map_nil, List.length_cons, List.length_nil, Nat.reduceAdd, Nat.reduceSub, List.replicate_succ, List.replicate_zero, List.cons_append, List.nil_append, List.getElem?_cons_zero, List.getElem?_cons_succ, List.set_cons_zero, List.set_cons_succ,
  asB, mVar, mC, mOp, mCB, maCons, maNil, mCall, msRet, msAsg, mgName, msDrop, msNext, msRaise, mTup, mChain, mUn, if_true, if_false, Bool.not_true, Bool.not_false, Bool.false_eq_true, reduceIte, Nat.reduceEqDiff, Nat.reduceLeDiff,
  eq_self_iff_true, true_and, isA_str, inSign_star, inSign_one, notInSign_one, fEq_str, fEq_int, fLe_int, fLt_int, fGt_int, fAdd_int, fSub_int, fNeg_int])
/-! ### loops over a list that stands in the store -/
theorem forLoop_inv2 {s : Src} {g : MG} {b : MS} {P : Ps} {items : List Dat} (hn : s.n = items.length) (I : Nat → Env → Store → Prop) (hget : ∀ i δ μ, I i δ μ → s.get i μ = items[i]?) (hfin : ∀ i δ μ, I i δ μ → s.fin μ = true)
    (step : ∀ (i : Nat) (d : Dat) (δ : Env) (μ : Store), items[i]? = some d → I i δ μ → ∃ δ1, g d δ = some δ1 ∧ wps (b δ1 μ) { nx := I (i + 1), ct := I (i + 1), rt := P.rt, bk := P.nx, ra := P.ra }) (hd : ∀ δ μ, I items.length δ μ → P.nx δ μ) :
    ∀ (r i : Nat) (δ : Env) (μ : Store), i + r = items.length → I i δ μ → wps (forLoop s g b r i δ μ) P := by
  intro r
  induction r with
  | zero =>
    intro i δ μ hi h
    unfold forLoop
    rw [if_pos (hfin _ _ _ h)]
    have e : i = items.length := by omega
    subst e
    exact hd _ _ h
  | succ r ih =>
    intro i δ μ hi h
    have hlt : i < items.length := by omega
    obtain ⟨δ1, h1, h2⟩ := step i items[i] δ μ (List.getElem?_eq_getElem hlt) h
    unfold forLoop
    rw [hget _ _ _ h, List.getElem?_eq_getElem hlt, Option.bind_some, h1]
    dsimp only
    cases hb : b δ1 μ with
    | nx δ' μ' => rw [hb] at h2; exact ih (i + 1) δ' μ' (by omega) h2
    | ct δ' μ' => rw [hb] at h2; exact ih (i + 1) δ' μ' (by omega) h2
    | bk δ' μ' => rw [hb] at h2; exact h2
    | rt d μ' => rw [hb] at h2; exact h2
    | raise n δ' μ' => rw [hb] at h2; exact h2
    | stuck => rw [hb] at h2; exact h2
theorem wps_for2 {src : M Src} {s : Src} {g : MG} {b : MS} {P : Ps} {δ : Env} {μ μ1 : Store} (items : List Dat) (I : Nat → Env → Store → Prop) (hsrc : src δ μ = .ok s μ1) (hn : s.n = items.length) (hget : ∀ i δ μ, I i δ μ → s.get i μ = items[i]?) (hfin : ∀ i δ μ, I i δ μ → s.fin μ = true)
    (h0 : I 0 δ μ1) (step : ∀ (i : Nat) (d : Dat) (δ : Env) (μ : Store), items[i]? = some d → I i δ μ → ∃ δ1, g d δ = some δ1 ∧ wps (b δ1 μ) { nx := I (i + 1), ct := I (i + 1), rt := P.rt, bk := P.nx, ra := P.ra })
    (hd : ∀ δ μ, I items.length δ μ → P.nx δ μ) : wps (msFor src g b δ μ) P := by
  unfold msFor
  rw [hsrc]
  exact forLoop_inv2 hn I hget hfin step hd s.n 0 δ μ1 (by omega) h0

theorem wps_try {b : MS} {m i j : Nat} {δ : Env} {μ : Store} {P : Ps} (h : wps (b δ μ) { P with ra := fun n δ' μ' => tab.sub n m = some true ∧ i < δ'.length ∧ P.nx (((δ'.set i (some (.cell μ'.length))).set j (some (.cell μ'.length))).set i none) (μ' ++ [.exc n]) }) : wps (msTry tab m i j b δ μ) P := by
  unfold msTry
  cases hb : b δ μ with
  | raise n δ' μ' =>
    rw [hb] at h
    obtain ⟨h1, h2, h3⟩ := h
    dsimp only
    rw [h1]
    dsimp only
    rw [if_pos h2]
    exact h3
  | nx δ' μ' => rw [hb] at h; exact h
  | rt d μ' => rw [hb] at h; exact h
  | bk δ' μ' => rw [hb] at h; exact h
  | ct δ' μ' => rw [hb] at h; exact h
  | stuck => rw [hb] at h; exact h

theorem wh_inv {q : M Bool} {b : MS} {P : Ps} (I : Nat → Env → Store → Prop)
    (step : ∀ n δ μ, I n δ μ → wp (q δ μ) (fun k μ1 => if k = true then ∃ m, n = m + 1 ∧ wps (b δ μ1) { nx := I m, ct := I m, rt := P.rt, bk := P.nx, ra := P.ra } else P.nx δ μ1) fun n μ => P.ra n δ μ) :
    ∀ (N n : Nat) (δ : Env) (μ : Store), n ≤ N → I n δ μ → wps (whLoop q b (N + 1) δ μ) P := by
  intro N
  induction N with
  | zero =>
    intro n δ μ hn h
    have h1 := step n δ μ h
    unfold whLoop
    rw [wps_toS]
    refine wp_mono h1 (fun k μ1 z => ?_) fun _ _ z => z
    cases k with
    | false => exact z
    | true =>
      obtain ⟨m, rfl, _⟩ := z
      omega
  | succ N ih =>
    intro n δ μ hn h
    have h1 := step n δ μ h
    unfold whLoop
    rw [wps_toS]
    refine wp_mono h1 (fun k μ1 z => ?_) fun _ _ z => z
    cases k with
    | false => exact z
    | true =>
      obtain ⟨m, rfl, hb⟩ := z
      show wps (match b δ μ1 with | .nx δ' μ' => whLoop q b (N + 1) δ' μ' | .ct δ' μ' => whLoop q b (N + 1) δ' μ' | .bk δ' μ' => .nx δ' μ' | r => r) P
      cases hr : b δ μ1 with
      | nx δ' μ' => rw [hr] at hb; exact ih m δ' μ' (by omega) hb
      | ct δ' μ' => rw [hr] at hb; exact ih m δ' μ' (by omega) hb
      | bk δ' μ' => rw [hr] at hb; exact hb
      | rt d μ' => rw [hr] at hb; exact hb
      | raise n δ' μ' => rw [hr] at hb; exact hb
      | stuck => rw [hr] at hb; exact hb
theorem wps_while {q : M Bool} {b : MS} {P : Ps} {δ : Env} {μ : Store} {N n : Nat} (I : Nat → Env → Store → Prop) (hn : n ≤ N) (h0 : I n δ μ)
    (step : ∀ n δ μ, I n δ μ → wp (q δ μ) (fun k μ1 => if k = true then ∃ m, n = m + 1 ∧ wps (b δ μ1) { nx := I m, ct := I m, rt := P.rt, bk := P.nx, ra := P.ra } else P.nx δ μ1) fun n μ => P.ra n δ μ) :
    wps (msWhile (N + 1) q b δ μ) P := wh_inv I step N n δ μ hn h0
theorem atI_back {α : Type} (l : List α) (j : Nat) (h : j < l.length) : atI l (-((j : Int) + 1)) = l.reverse[j]? := by
  unfold atI ixN
  rw [if_neg (by omega), if_pos (by omega), List.getElem?_reverse h]
  show l[(-((j : Int) + 1) + (l.length : Int)).toNat]? = _
  congr 1
  omega
theorem fNe_str (a b : Str) (μ : Store) : fNe (.str a) (.str b) μ = .ok (.bl (!decide (a = b))) μ := by
  simp only [fNe, toV, scal, V.str.injEq, if_true]
theorem lenT (ss : List Str) (μ : Store) : fLenQ [tupN ss] μ = .ok (.int (ss.length : Int)) μ := by
  show Res.ok (Dat.int ((ss.map Dat.str).length : Int)) μ = _
  rw [List.length_map]
theorem before_spec {a b : List Str} (ha : a.length ≤ 6) (μ : Store) : wp (f__law_before [tupN a, tupN b] μ) fun d μ' => d = .bl (lexS a.reverse b.reverse) ∧ μ' = μ := by
  refine wp_nr ?_
  rw [wp_run]
  unfold b__law_before
  walk_at "nwp"
  refine wps_while (N := 6) (n := 6) (fun n δ μ2 => ∃ (j : Nat) (z : Int), δ = [some (tupN a), some (tupN b), some (.int z)] ∧ z = (j : Int) + 1 ∧ μ2 = μ ∧ j + n = 6 ∧ j ≤ a.length ∧ j ≤ b.length ∧ lexS a.reverse b.reverse = lexS (a.reverse.drop j) (b.reverse.drop j)) (by omega) ⟨0, 1, rfl, rfl, rfl, rfl, by omega, by omega, rfl⟩ ?_
  rintro n δ μ2 ⟨j, z, rfl, hz, rfl, hn, hja, hjb, hl⟩
  walk_at "nwp"
  rw [lenT]
  walk_at "nwp"
  have fin : j = a.length ∨ j = b.length → lexS a.reverse b.reverse = decide ((a.length : Int) < b.length) := by
    intro h
    rw [hl]
    by_cases h1 : j = a.length
    · rw [List.drop_eq_nil_of_le (as := a.reverse) (by rw [List.length_reverse]; omega)]
      by_cases h2 : j = b.length
      · rw [List.drop_eq_nil_of_le (as := b.reverse) (by rw [List.length_reverse]; omega), decide_eq_false (by omega)]
        rfl
      · rw [decide_eq_true (by omega)]
        have hne : b.reverse.drop j ≠ [] := by
          intro e
          have := congrArg List.length e
          rw [List.length_drop, List.length_reverse] at this
          simp at this
          omega
        cases hd : b.reverse.drop j with
        | nil => exact (hne hd).elim
        | cons x r => rfl
    · have h2 : j = b.length := by rcases h with h | h <;> omega
      rw [List.drop_eq_nil_of_le (as := b.reverse) (by rw [List.length_reverse]; omega), decide_eq_false (by omega)]
      cases a.reverse.drop j <;> rfl
  by_cases h1 : z ≤ a.length
  · rw [decide_eq_true h1]
    walk_at "nwp"
    rw [lenT]
    walk_at "nwp"
    by_cases h2 : z ≤ b.length
    · rw [decide_eq_true h2]
      walk_at "nwp"
      have ja : j < a.length := by omega
      have jb : j < b.length := by omega
      have ja' : j < a.reverse.length := by rw [List.length_reverse]; exact ja
      have jb' : j < b.reverse.length := by rw [List.length_reverse]; exact jb
      have ia : ∀ μ, fIxT (tupN a) (.int (-z)) μ = .ok (.str a.reverse[j]) μ := fun μ => by
        unfold fIxT tupN
        dsimp only
        rw [hz, atI_back _ _ (by rw [List.length_map]; exact ja), ← List.map_reverse, List.getElem?_map, List.getElem?_eq_getElem ja']
        rfl
      have ib : ∀ μ, fIxT (tupN b) (.int (-z)) μ = .ok (.str b.reverse[j]) μ := fun μ => by
        unfold fIxT tupN
        dsimp only
        rw [hz, atI_back _ _ (by rw [List.length_map]; exact jb), ← List.map_reverse, List.getElem?_map, List.getElem?_eq_getElem jb']
        rfl
      refine ⟨n - 1, by omega, ?_⟩
      rw [ia]
      walk_at "nwp"
      rw [ib]
      walk_at "nwp"
      rw [fNe_str]
      walk_at "nwp"
      have step : lexS (a.reverse.drop j) (b.reverse.drop j) = if a.reverse[j] = b.reverse[j] then lexS (a.reverse.drop (j + 1)) (b.reverse.drop (j + 1)) else ltT a.reverse[j] b.reverse[j] := by
        rw [List.drop_eq_getElem_cons ja', List.drop_eq_getElem_cons jb']
        rfl
      by_cases he : a.reverse[j] = b.reverse[j]
      · rw [decide_eq_true he]
        walk_at "nwp"
        rw [if_pos he] at step
        exact ⟨j + 1, z + 1, rfl, by omega, by omega, by omega, by omega, hl.trans step⟩
      · rw [decide_eq_false he]
        walk_at "nwp"
        rw [ia]
        walk_at "nwp"
        rw [ib]
        walk_at "nwp"
        rw [if_neg he] at step
        rw [hl, step]
        exact ⟨rfl, rfl⟩
    · rw [decide_eq_false h2]
      walk_at "nwp"
      rw [lenT]
      walk_at "nwp"
      rw [lenT]
      walk_at "nwp"
      rw [fin (by omega)]
      exact ⟨rfl, trivial⟩
  · rw [decide_eq_false h1]
    walk_at "nwp"
    rw [lenT]
    walk_at "nwp"
    rw [lenT]
    walk_at "nwp"
    rw [fin (by omega)]
    exact ⟨rfl, trivial⟩
end Nh

namespace Nh
open PySem PySem.Spec PyProof.Rows L2
local macro_rules | `(tactic| walk_at "nwp") => `(tactic| try simp only [wp_bind, wp_ok, wp_nrR, wps_toS, wps_nx, wps_rt, wps_seq, wp_run, wps_if, wp_if, wp_tAnd, wp_tOr, wp_tNot, startD, List.map_cons, List.map_nil, List.length_cons, List.length_nil, Nat.reduceAdd, Nat.reduceSub, List.replicate_succ, List.replicate_zero, List.cons_append, List.nil_append, List.getElem?_cons_zero, List.getElem?_cons_succ, List.set_cons_zero, List.set_cons_succ,
  asB, mVar, mC, mOp, mCB, maCons, maNil, mCall, msRet, msAsg, mgName, msDrop, msNext, msRaise, mTup, mChain, mUn, if_true, if_false, Bool.not_true, Bool.not_false, Bool.false_eq_true, reduceIte, Nat.reduceEqDiff, Nat.reduceLeDiff,
  eq_self_iff_true, true_and, isA_str, inSign_star, inSign_one, notInSign_one, fEq_str, fEq_int, fLe_int, fLt_int, fGt_int, fAdd_int, fSub_int, fNeg_int])

/-! ### the law's own sorting -/
theorem ins_sorted {x : List Str} {out : List (List Str)} {p : Nat} (hs : out.Pairwise fun a b => leN a b = true) (hp : p ≤ out.length) (h1 : ∀ j (hj : j < out.length), p ≤ j → lexS x.reverse out[j].reverse = true) (h2 : ∀ hp : 0 < p, ∀ h : p - 1 < out.length, lexS x.reverse out[p - 1].reverse = false) :
    (out.take p ++ [x] ++ out.drop p).Pairwise fun a b => leN a b = true := by
  have hsplit : out.take p ++ out.drop p = out := List.take_append_drop p out
  rw [← hsplit, List.pairwise_append] at hs
  obtain ⟨s1, s2, s3⟩ := hs
  have low : ∀ a ∈ out.take p, leN a x = true := by
    intro a ha
    obtain ⟨j, hj, rfl⟩ := List.getElem_of_mem ha
    rw [List.length_take] at hj
    have hp0 : 0 < p := by omega
    have hlt : p - 1 < out.length := by omega
    have hx : leN out[p - 1] x = true := by
      unfold leN
      rw [h2 hp0 hlt]
      rfl
    rw [List.getElem_take]
    by_cases e : j = p - 1
    · subst e
      exact hx
    · have hpw : out.Pairwise fun a b => leN a b = true := by
        rw [← hsplit, List.pairwise_append]
        exact ⟨s1, s2, s3⟩
      exact leN_trans _ _ _ (List.pairwise_iff_getElem.mp hpw j (p - 1) (by omega) hlt (by omega)) hx
  have high : ∀ b ∈ out.drop p, leN x b = true := by
    intro b hb
    obtain ⟨j, hj, rfl⟩ := List.getElem_of_mem hb
    rw [List.length_drop] at hj
    rw [List.getElem_drop]
    unfold leN
    rw [lexS_asymm (h1 (p + j) (by omega) (by omega))]
    rfl
  rw [List.append_assoc, List.pairwise_append]
  refine ⟨s1, ?_, ?_⟩
  · rw [List.singleton_append, List.pairwise_cons]
    exact ⟨high, s2⟩
  · intro a ha b hb
    rw [List.singleton_append] at hb
    rcases List.mem_cons.mp hb with rfl | hb
    · exact low a ha
    · exact leN_trans _ _ _ (low a ha) (high b hb)
theorem ins_perm {x : List Str} {out : List (List Str)} (p : Nat) : (out.take p ++ [x] ++ out.drop p).Perm (x :: out) := by
  have e : x :: out = x :: (out.take p ++ out.drop p) := by rw [List.take_append_drop]
  rw [e, List.append_assoc, List.singleton_append]
  exact List.perm_middle
theorem names_at {μ : Store} {k : Nat} {nl : List (List Str)} (hk : μ[k]? = some (.lst (nl.map tupN))) {j : Nat} (hj : j < nl.length) {z : Int} (hz : z = (j : Int)) : fIxL (.cell k) (.int z) μ = .ok (tupN nl[j]) μ := by
  subst hz
  simp only [fIxL, lstAt, hk]
  rw [atI_nat (v := tupN nl[j]) (by rw [List.getElem?_map, List.getElem?_eq_getElem hj]; rfl)]
theorem sorted_spec {μ : Store} {k : Nat} {nl : List (List Str)} (hk : μ[k]? = some (.lst (nl.map tupN))) (hn : nl.length ≤ 12) (h6 : ∀ a ∈ nl, a.length ≤ 6) :
    wp (f__law_sorted [.cell k] μ) fun d μ' => d = .cell μ.length ∧ ∃ out : List (List Str), μ' = μ ++ [.lst (out.map tupN)] ∧ out.Perm nl ∧ out.Pairwise fun a b => leN a b = true := by
  refine wp_nr ?_
  rw [wp_run]
  unfold b__law_sorted mLst
  walk_at "nwp"
  rw [if_pos (Nat.zero_le _)]
  unfold allocR
  walk_at "nwp"
  have hk2 : ∀ x, (μ ++ [x])[k]? = some (.lst (nl.map tupN)) := fun x => get_app hk
  refine wps_for2 (s := srcL k nl.length) (μ1 := μ ++ [.lst []]) (nl.map tupN) (fun i δ μ2 => ∃ x2 x3 out, δ = [some (.cell k), some (.cell μ.length), x2, x3] ∧ μ2 = μ ++ [.lst (List.map tupN out)] ∧ List.Perm out (nl.take i) ∧ List.Pairwise (fun a b => leN a b = true) out) ?_ (by rw [List.length_map]; rfl) ?_ ?_
    ⟨none, none, [], rfl, rfl, by rw [List.take_zero], List.Pairwise.nil⟩ ?_ ?_
  · unfold miList
    walk_at "nwp"
    show (match celL (μ ++ [Cell.lst []]) (.cell k) with | some ds => Res.ok (srcL k ds.length) (μ ++ [Cell.lst []]) | none => Res.stuck) = _
    simp only [celL, hk2, List.length_map]
  · rintro i δ μ2 ⟨_, _, out, rfl, rfl, _, _⟩
    show (celL (μ ++ [.lst (out.map tupN)]) (.cell k)).bind (·[i]?) = _
    simp only [celL, hk2]
    rfl
  · rintro i δ μ2 ⟨_, _, out, rfl, rfl, _, _⟩
    show (match celL (μ ++ [.lst (out.map tupN)]) (.cell k) with | some ds => decide (ds.length ≤ nl.length) | none => false) = true
    simp only [celL, hk2, List.length_map]
    exact decide_eq_true (Nat.le_refl _)
  · rintro i d δ μ2 hd ⟨_, _, out, rfl, rfl, hp, hs⟩
    rw [List.getElem?_map] at hd
    have hi : i < nl.length := by
      rcases Nat.lt_or_ge i nl.length with h | h
      · exact h
      · rw [List.getElem?_eq_none h] at hd; cases hd
    rw [List.getElem?_eq_getElem hi] at hd
    cases hd
    refine ⟨_, rfl, ?_⟩
    have hol : out.length = i := by
      rw [hp.length_eq, List.length_take]
      omega
    have hc : ∀ zs : List Dat, (μ ++ [Cell.lst zs])[μ.length]? = some (.lst zs) := fun zs => getElem?_mid
    have hlen : fLenQ [.cell μ.length] (μ ++ [.lst (out.map tupN)]) = .ok (.int (out.length : Int)) (μ ++ [.lst (out.map tupN)]) := by
      simp only [fLenQ, seqD, lstAt, hc]
      rw [List.length_map]
    walk_at "nwp"
    rw [hlen]
    walk_at "nwp"
    refine wps_while (N := 12) (n := out.length) (fun n δ μ2 => ∃ z : Int, z = (n : Int) ∧ δ = [some (.cell k), some (.cell μ.length), some (tupN nl[i]), some (.int z)] ∧ μ2 = μ ++ [.lst (out.map tupN)] ∧ n ≤ out.length ∧ ∀ j (hj : j < out.length), n ≤ j → lexS nl[i].reverse out[j].reverse = true) (by omega) ⟨_, rfl, rfl, rfl, Nat.le_refl _, fun j hj h => by omega⟩ ?_
    rintro n δ μ2 ⟨z, hz, rfl, rfl, hn2, hb⟩
    walk_at "nwp"
    have finish : (∀ hp : 0 < n, ∀ h : n - 1 < out.length, lexS nl[i].reverse out[n - 1].reverse = false) → wps ((msDrop (mBM fInsert (mVar 1) (maCons (mVar 3) (maCons (mVar 2) maNil)))) [some (.cell k), some (.cell μ.length), some (tupN nl[i]), some (.int z)] (μ ++ [.lst (out.map tupN)]))
        { nx := fun δ μ2 => ∃ x2 x3 out, δ = [some (.cell k), some (.cell μ.length), x2, x3] ∧ μ2 = μ ++ [.lst (List.map tupN out)] ∧ List.Perm out (nl.take (i + 1)) ∧ List.Pairwise (fun a b => leN a b = true) out, rt := fun d μ' => d = .cell μ.length ∧ ∃ out : List (List Str), μ' = μ ++ [.lst (out.map tupN)] ∧ out.Perm nl ∧ out.Pairwise fun a b => leN a b = true } := by
      intro h2
      unfold mBM
      walk_at "nwp"
      rw [show lstAt (μ ++ [.lst (out.map tupN)]) (.cell μ.length) = some (out.map tupN) from by simp only [lstAt, hc], if_pos (show (some (out.map tupN)).isSome = true from rfl)]
      walk_at "nwp"
      have e : fInsert (.cell μ.length) [.int z, tupN nl[i]] (μ ++ [.lst (out.map tupN)]) = .ok .non (μ ++ [.lst ((out.take n ++ [nl[i]] ++ out.drop n).map tupN)]) := by
        simp only [fInsert, hc]
        rw [if_pos (by rw [sl16, List.length_map]; omega), show z.toNat = n by omega, set_mid, List.map_append, List.map_append, List.map_take, List.map_drop]
        rfl
      rw [e]
      refine ⟨_, _, out.take n ++ [nl[i]] ++ out.drop n, rfl, rfl, ?_, ins_sorted hs hn2 hb h2⟩
      have e2 : nl.take (i + 1) = nl.take i ++ [nl[i]] := by
        rw [List.take_add_one, List.getElem?_eq_getElem hi]
        rfl
      rw [e2]
      exact (ins_perm n).trans ((hp.cons _).trans (List.perm_append_singleton _ _).symm)
    by_cases h0 : 0 < z
    · rw [decide_eq_true h0]
      walk_at "nwp"
      have hj : n - 1 < out.length := by omega
      rw [names_at (hc _) hj (z := z - 1) (by omega)]
      walk_at "nwp"
      refine wp_imp (before_spec (h6 _ (List.getElem_mem hi)) _) ?_
      rintro d μ' ⟨rfl, rfl⟩
      cases hx : lexS nl[i].reverse out[n - 1].reverse with
      | true =>
        walk_at "nwp"
        refine ⟨n - 1, by omega, z - 1, by omega, rfl, by omega, fun j hj2 hle => ?_⟩
        by_cases e : j = n - 1
        · subst e
          exact hx
        · exact hb j hj2 (by omega)
      | false =>
        walk_at "nwp"
        have := finish (fun _ _ => hx)
        unfold msDrop at this
        rw [wps_toS] at this
        exact this
    · rw [decide_eq_false h0]
      walk_at "nwp"
      have := finish (fun h _ => by omega)
      unfold msDrop at this
      rw [wps_toS] at this
      exact this
  · rintro δ μ2 ⟨_, _, out, rfl, rfl, hp, hs⟩
    walk_at "nwp"
    rw [List.length_map, List.take_length] at hp
    exact ⟨out, rfl, hp, hs⟩
end Nh

namespace Nh
open PySem PySem.Spec PyProof.Rows L2
local macro_rules | `(tactic| walk_at "nwp") => `(tactic| try simp only [wp_bind, wp_ok, wp_nrR, wps_toS, wps_nx, wps_rt, wps_seq, wp_run, wps_if, wp_if, wp_tAnd, wp_tOr, wp_tNot, startD, List.map_cons, List.map_nil, List.length_cons, List.length_nil, Nat.reduceAdd, Nat.reduceSub, List.replicate_succ, List.replicate_zero, List.cons_append, List.nil_append, List.getElem?_cons_zero, List.getElem?_cons_succ, List.set_cons_zero, List.set_cons_succ,
  asB, mVar, mC, mOp, mCB, maCons, maNil, mCall, msRet, msAsg, mgName, msDrop, msNext, msRaise, mTup, mChain, mUn, if_true, if_false, Bool.not_true, Bool.not_false, Bool.false_eq_true, reduceIte, Nat.reduceEqDiff, Nat.reduceLeDiff,
  eq_self_iff_true, true_and, isA_str, inSign_star, inSign_one, notInSign_one, fEq_str, fEq_int, fLe_int, fLt_int, fGt_int, fAdd_int, fSub_int, fNeg_int])

/-! ### comprehensions over a list that stands in the store -/
theorem lcLoop_st {s : Src} {mg : MG} {mt : M Bool} {me : M Dat} {δ0 : Env} {μ : Store} {items : List Dat} {p : Dat → Bool} {f : Dat → Dat} (hn : s.n = items.length) (hget : ∀ i acc g, s.get i (μ ++ (.lst acc :: g)) = items[i]?) (hfin : ∀ acc g, s.fin (μ ++ (.lst acc :: g)) = true) (hlen : items.length < sizeLine)
    (step : ∀ (i : Nat) (d : Dat) (g : Store) (acc : List Dat), items[i]? = some d → ∃ δ1, mg d δ0 = some δ1 ∧ wp (mt δ1 (μ ++ (.lst acc :: g))) fun b μ3 => b = p d ∧ ∃ g1, μ3 = μ ++ (.lst acc :: g1) ∧
      (b = true → wp (me δ1 μ3) fun y μ4 => y = f d ∧ ∃ g2, μ4 = μ ++ (.lst acc :: g2))) :
    ∀ (r i : Nat) (acc : List Dat) (g : Store), i + r = items.length → acc.length ≤ i → ∃ g', lcLoop s mg mt me δ0 μ.length r i (μ ++ (.lst acc :: g)) = .ok () (μ ++ (.lst (acc ++ ((items.drop i).filter p).map f) :: g')) := by
  intro r
  induction r with
  | zero =>
    intro i acc g hi ha
    refine ⟨g, ?_⟩
    unfold lcLoop
    rw [if_pos (hfin _ _), List.drop_eq_nil_of_le (by omega), List.filter_nil, List.map_nil, List.append_nil]
  | succ r ih =>
    intro i acc g hi ha
    have hlt : i < items.length := by omega
    obtain ⟨δ1, h1, h2⟩ := step i items[i] g acc (List.getElem?_eq_getElem hlt)
    unfold lcLoop
    rw [hget, List.getElem?_eq_getElem hlt, Option.bind_some, h1]
    dsimp only
    have hd : items.drop i = items[i] :: items.drop (i + 1) := List.drop_eq_getElem_cons hlt
    cases hm : mt δ1 (μ ++ (.lst acc :: g)) with
    | ok b μ3 =>
      rw [hm] at h2
      obtain ⟨rfl, g1, rfl, h3⟩ := h2
      show ∃ g', (if p items[i] = true then _ else _) = _
      rw [hd, List.filter_cons]
      by_cases hp : p items[i] = true
      · rw [if_pos hp, if_pos hp]
        have h4 := h3 hp
        cases hme : me δ1 (μ ++ (.lst acc :: g1)) with
        | ok y μ4 =>
          rw [hme] at h4
          obtain ⟨rfl, g2, rfl⟩ := h4
          dsimp only [nrR, Res.bind]
          rw [getElem?_mid]
          dsimp only
          rw [if_pos (by omega), set_mid, List.map_cons]
          obtain ⟨g', e⟩ := ih (i + 1) (acc ++ [f items[i]]) g2 (by omega) (by simp; omega)
          exact ⟨g', by rw [e]; simp⟩
        | raise n μ4 => rw [hme] at h4; exact h4.elim
        | stuck => rw [hme] at h4; exact h4.elim
      · rw [if_neg hp, if_neg hp]
        exact ih (i + 1) acc g1 (by omega) (by omega)
    | raise n μ3 => rw [hm] at h2; exact h2.elim
    | stuck => rw [hm] at h2; exact h2.elim
/-- over the list at k -/
theorem wp_lc_cell {a : M Dat} {mg : MG} {mt : M Bool} {me : M Dat} {vs : List Nat} {δ : Env} {μ : Store} {Q : Dat → Store → Prop} {R : Nat → Store → Prop} {k : Nat} (items : List Dat) (p : Dat → Bool) (f : Dat → Dat) (ha : a δ μ = .ok (.cell k) μ) (hk : μ[k]? = some (.lst items)) (hlen : items.length < sizeLine)
    (step : ∀ (i : Nat) (d : Dat) (g : Store) (acc : List Dat), items[i]? = some d → ∃ δ1, mg d (wipeD δ vs) = some δ1 ∧ wp (mt δ1 (μ ++ (.lst acc :: g))) fun b μ3 => b = p d ∧ ∃ g1, μ3 = μ ++ (.lst acc :: g1) ∧
      (b = true → wp (me δ1 μ3) fun y μ4 => y = f d ∧ ∃ g2, μ4 = μ ++ (.lst acc :: g2)))
    (h : ∀ g, Q (.cell μ.length) (μ ++ (.lst ((items.filter p).map f) :: g))) : wp (mLc (miList a) mg mt me vs δ μ) Q R := by
  have hs : miList a δ μ = .ok (srcL k items.length) μ := by
    unfold miList
    rw [ha]
    show (match celL μ (.cell k) with | some ds => Res.ok (srcL k ds.length) μ | none => Res.stuck) = _
    simp only [celL, hk]
  unfold mLc
  rw [hs]
  obtain ⟨g', e⟩ := lcLoop_st (s := srcL k items.length) (items := items) (p := p) (f := f) rfl (fun i acc g => by
    show (celL (μ ++ (.lst acc :: g)) (.cell k)).bind (·[i]?) = _
    simp only [celL, get_app hk]
    rfl) (fun acc g => by
    show (match celL (μ ++ (.lst acc :: g)) (.cell k) with | some ds => decide (ds.length ≤ items.length) | none => false) = true
    simp only [celL, get_app hk]
    exact decide_eq_true (Nat.le_refl _)) hlen step items.length 0 [] [] (by omega) (Nat.zero_le _)
  show wp ((lcLoop (srcL k items.length) mg mt me (wipeD δ vs) μ.length items.length 0 (μ ++ [.lst []])).bind _) Q R
  rw [e]
  exact h g'
/-! ### the program's sorting -/
theorem rank_is (ss : List Str) (μ : Store) : nr (runB 1 b_name_rank) [tupN ss] μ = .ok (tupN ss.reverse) μ := by
  have e : runB 1 b_name_rank [tupN ss] μ = .ok (.tup (ss.map Dat.str).reverse) μ := by rfl
  unfold nr
  rw [e]
  unfold tupN
  rw [List.map_reverse]
theorem keys_are (μ : Store) : ∀ nl : List (List Str), mKeys (runB 1 b_name_rank) (nl.map tupN) μ = .ok (nl.map fun ss => tupN ss.reverse) μ
  | [] => rfl
  | ss :: r => by
    rw [List.map_cons]
    unfold mKeys
    rw [rank_is]
    dsimp only [Res.bind]
    rw [keys_are μ r]
    rfl
theorem py_keys (μ : Store) : ∀ nl : List (List Str), pyAll (py μ 12) (nl.map fun ss => tupN ss.reverse) = some (nl.map keyN)
  | [] => rfl
  | ss :: r => by
    rw [List.map_cons, pyAll, show py μ 12 (tupN ss.reverse) = some (keyN ss) from py_strs μ 10 _, py_keys μ r]
    rfl
theorem keys_ok (nl : List (List Str)) : keysOk (nl.map keyN) = true := by
  unfold keysOk
  rw [Bool.and_eq_true, Bool.and_eq_true, List.all_eq_true, List.all_eq_true, List.all_eq_true]
  refine ⟨fun d hd => List.all_eq_true.mpr fun e he => ?_, fun d hd => ?_, fun d hd => ?_⟩
  · obtain ⟨a, _, rfl⟩ := List.mem_map.mp hd
    obtain ⟨b, _, rfl⟩ := List.mem_map.mp he
    show PySem.W.alike (.tuple (a.reverse.map .str)) (.tuple (b.reverse.map .str)) = true
    simp only [PySem.W.alike, alike_strs]
  · obtain ⟨a, _, rfl⟩ := List.mem_map.mp hd
    rfl
  · obtain ⟨a, _, rfl⟩ := List.mem_map.mp hd
    refine decide_eq_true ?_
    show PyData.depthAll (a.reverse.map .str) + 1 ≤ 8
    rw [depth_strs]
    omega
theorem sort_is {μ : Store} {k : Nat} {nl : List (List Str)} (hk : μ[k]? = some (.lst (nl.map tupN))) : fSortKey (runB 1 b_name_rank) [.cell k] μ = .ok (.cell μ.length) (μ ++ [.lst ((nl.mergeSort leN).map tupN)]) := by
  unfold fSortKey
  dsimp only
  rw [show lstAt μ (.cell k) = some (nl.map tupN) from by simp only [lstAt, hk]]
  dsimp only
  rw [keys_are]
  dsimp only [Res.bind]
  rw [py_keys]
  dsimp only
  rw [if_pos (keys_ok nl), sortedBy_names]
  rfl
theorem ordered_spec {μ : Store} {k : Nat} {ds : List Dat} (hk : μ[k]? = some (.lst ds)) (hn : ds.length ≤ 1000) (hok : ∀ d ∈ ds, OkN μ d) :
    wp (f_ordered_names [.cell k] μ) (fun d μ' => ∃ nl : List (List Str), ds = nl.map tupN ∧ (∀ a ∈ nl, isNameS a = true) ∧ ∃ g, d = .cell (μ ++ g).length ∧ μ' = μ ++ g ++ [.lst ((nl.mergeSort leN).map tupN)]) fun n μ' => n = 1 ∧ ds.all isNameD = false := by
  unfold f_ordered_names
  rw [wp_run]
  unfold b_ordered_names
  walk_at "nwp"
  rw [isA_k (k := "list") (b := true) (by simp only [tyD, kindD, hk]; rfl) (by decide +kernel)]
  walk_at "nwp"
  refine wp_lc_cell (k := k) ds (fun _ => true) (fun d => .bl (isNameD d)) rfl hk (by rw [sl16]; omega) (fun i d g acc hd => ?_) fun g => ?_
  · refine ⟨_, rfl, rfl, g, rfl, fun _ => ?_⟩
    dsimp only [wipeD]
    walk_at "nwp"
    refine wp_imp (is_name_spec ((hok d (List.mem_of_getElem? hd)).app)) ?_
    rintro r μ' ⟨rfl, g2, rfl⟩
    exact ⟨rfl, g ++ g2, by simp⟩
  · rw [filter_yes, fAll_mid (bs := ds.map isNameD) (by rw [List.map_map]; rfl), List.all_map]
    walk_at "nwp"
    cases hall : ds.all isNameD with
    | false =>
      rw [show ds.all (id ∘ isNameD) = false from hall]
      walk_at "nwp"
      exact ⟨rfl, trivial⟩
    | true =>
      rw [show ds.all (id ∘ isNameD) = true from hall]
      walk_at "nwp"
      have hnl : ∀ {es : List Dat}, es.all isNameD = true → ∃ nl : List (List Str), es = nl.map tupN ∧ ∀ a ∈ nl, isNameS a = true := by
        intro es
        induction es with
        | nil => exact fun _ => ⟨[], rfl, fun _ h => nomatch h⟩
        | cons e r ih =>
          intro h
          rw [List.all_cons, Bool.and_eq_true] at h
          obtain ⟨nl, rfl, h2⟩ := ih h.2
          obtain ⟨ss, rfl, h3⟩ := name_strs h.1
          refine ⟨ss :: nl, rfl, fun a ha => ?_⟩
          rcases List.mem_cons.mp ha with rfl | ha
          · exact h3
          · exact h2 a ha
      obtain ⟨nl, rfl, h2⟩ := hnl hall
      rw [sort_is (get_app hk)]
      exact ⟨nl, rfl, h2, _, rfl, by rw [List.append_assoc]⟩
theorem ordered_other {μ : Store} {d : Dat} {k : String} (h1 : tyD μ d = some (.inl k)) (h2 : kitB k "list" = some false) : wp (f_ordered_names [d] μ) (fun _ _ => False) fun n μ' => n = 1 := by
  unfold f_ordered_names
  rw [wp_run]
  unfold b_ordered_names
  walk_at "nwp"
  rw [isA_k h1 h2]
  walk_at "nwp"
  exact rfl
theorem refused_spec {μ : Store} {x : Dat} (h : wp (f_ordered_names [x] μ) (fun _ _ => False) fun n μ' => n = 1) : wp (f__law_refused [x] μ) fun d _ => d = .bl true := by
  refine wp_nr ?_
  rw [wp_run]
  unfold b__law_refused
  walk_at "nwp"
  refine wps_try ?_
  walk_at "nwp"
  refine wp_mono h (fun _ _ z => z.elim) ?_
  rintro n μ' rfl
  refine ⟨rfl, by simp, ?_⟩
  have hk : (μ' ++ [Cell.exc 1])[μ'.length]? = some (.exc 1) := getElem?_mid
  have ht : tyD (μ' ++ [Cell.exc 1]) (.cell μ'.length) = some (.inr 1) := by simp only [tyD, hk]
  unfold mAnd
  walk_at "nwp"
  rw [show fIsA tab [.cell μ'.length, .cls 1] (μ' ++ [Cell.exc 1]) = .ok (.bl true) (μ' ++ [Cell.exc 1]) from by simp only [fIsA, ht]; rfl]
  walk_at "nwp"
  rw [show fIsA tab [.cell μ'.length, .ty "ValueError"] (μ' ++ [Cell.exc 1]) = .ok (.bl true) (μ' ++ [Cell.exc 1]) from by simp only [fIsA, ht]; rfl]
  walk_at "nwp"
end Nh

namespace Nh
open PySem PySem.Spec PyProof.Rows L2
local macro_rules | `(tactic| walk_at "nwp") => `(tactic| try simp only [wp_bind, wp_ok, wp_nrR, wps_toS, wps_nx, wps_rt, wps_seq, wp_run, wps_if, wp_if, wp_tAnd, wp_tOr, wp_tNot, startD, List.map_cons, List.map_nil, List.length_cons, List.length_nil, Nat.reduceAdd, Nat.reduceSub, List.replicate_succ, List.replicate_zero, List.cons_append, List.nil_append, List.getElem?_cons_zero, List.getElem?_cons_succ, List.set_cons_zero, List.set_cons_succ,
  asB, mVar, mC, mOp, mCB, maCons, maNil, mCall, msRet, msAsg, mgName, msDrop, msNext, msRaise, mTup, mChain, mUn, if_true, if_false, Bool.not_true, Bool.not_false, Bool.false_eq_true, reduceIte, Nat.reduceEqDiff, Nat.reduceLeDiff,
  eq_self_iff_true, true_and, isA_str, inSign_star, inSign_one, notInSign_one, fEq_str, fEq_int, fLe_int, fLt_int, fGt_int, fAdd_int, fSub_int, fNeg_int])
def lbBody : MS := msSeq (msAsg (mCall 1 f__law_next (maCons (mVar 1) maNil)) (mgName 5)) (msIf (mtAnd (asB (mOp fNeD (mVar 3) (mLst maNil))) (asB (mOp fEq (mOp fMod (mVar 5) (mC (.int 3))) (mC (.int 0))))) (msSeq (msAsg (mOp fIxL (mVar 3) (mOp fMod (mOp fDiv (mVar 5) (mC (.int 3))) (mCB fLenQ (maCons (mVar 3) maNil)))) (mgName 6)) (msDrop (mBM fAppend (mVar 3) (maCons (mOp fIxL (mLst (maCons (mVar 6) (maCons (mSl fSlT (mVar 6) (moPart (mC (.int 1))) moNone) (maCons (mSl fSlT (mOp fCatT (mTup (maCons (mOp fIxL (mVar 2) (mC (.int 0))) maNil)) (mVar 6)) moNone (moPart (mC (.int 6)))) maNil)))) (mOp fMod (mOp fDiv (mVar 5) (mC (.int 40))) (mC (.int 3)))) maNil)))) (msDrop (mBM fAppend (mVar 3) (maCons (mCall 2 f__law_name (maCons (mVar 1) (maCons (mVar 2) maNil))) maNil))))
def lb4 : MS := msAsg (mLc (miList (mVar 3)) (mgName 13) (asB (mOp (fIn true) (mC (.str "*")) (mSl fSlT (mVar 13) (moPart (mC (.int 1))) moNone))) (mVar 13) [13]) (mgName 3)
def lb5 : MS := msAsg (mCall 1 f__law_sorted (maCons (mVar 3) maNil)) (mgName 7)
def lb6 : MS := msAsg (mCB fListOf (maCons (mVar 3) maNil)) (mgName 8)
def lb7 : MS := msAsg (mCall 1 f_ordered_names (maCons (mVar 8) maNil)) (mgName 9)
def lb8 : MS := msIf (mtOr (mtNot (asB (mCB (fIsA tab) (maCons (mVar 9) (maCons (mC (.ty "list")) maNil))))) (mtOr (asB (mOp fNeD (mVar 9) (mVar 7))) (mtOr (asB (mOp fNeD (mVar 8) (mVar 3))) (asB (mOp fNeD (mCall 1 f_ordered_names (maCons (mBack fBackL (mVar 3) (moPart (mUn fNeg (mC (.int 1))))) maNil)) (mVar 7)))))) (msRet (mC (.bl false))) msNext
def lb9 : MS := msDrop (mBM fAppend (mVar 9) (maCons (mTup maNil) maNil))
def lb10 : MS := msIf (mtOr (asB (mOp fNeD (mVar 8) (mVar 3))) (asB (mOp fNeD (mCall 1 f_ordered_names (maCons (mVar 8) maNil)) (mVar 7)))) (msRet (mC (.bl false))) msNext
def lb11 : MS := msAsg (mCall 1 f__law_next (maCons (mVar 1) maNil)) (mgName 5)
def lb12 : MS := msAsg (mOp fIxL (mLst (maCons (mC .non) (maCons (mTup (maCons (mC (.str "a")) (maCons (mC (.str "*")) maNil))) (maCons (mLst (maCons (mC (.str "a")) maNil)) (maCons (mC (.str "a")) (maCons (mTup (maCons (mC (.str "A")) maNil)) (maCons (mC (.int 5)) (maCons (mOp fRepT (mTup (maCons (mC (.str "a")) maNil)) (mC (.int 7))) (maCons (mC (.bl true)) maNil))))))))) (mOp fMod (mVar 5) (mC (.int 8)))) (mgName 10)
def lb13 : MS := msAsg (mOp fMod (mOp fDiv (mVar 5) (mC (.int 8))) (mOp fAdd (mCB fLenQ (maCons (mVar 3) maNil)) (mC (.int 1)))) (mgName 11)
def lb14 : MS := msAsg (mOp fIxL (mLst (maCons (mOp fCat (mOp fCat (mSl fSlL (mVar 3) moNone (moPart (mVar 11))) (mLst (maCons (mVar 10) maNil))) (mSl fSlL (mVar 3) (moPart (mVar 11)) moNone)) (maCons (mCB fTupleOf (maCons (mVar 3) maNil)) (maCons (mC .non) (maCons (mC (.str "names")) (maCons mDNew maNil)))))) (mOp fMod (mOp fDiv (mVar 5) (mC (.int 100))) (mC (.int 5)))) (mgName 12)
def lb15 : MS := msRet (mCall 1 f__law_refused (maCons (mVar 12) maNil))
def lbRest : MS := msSeq lb4 (msSeq lb5 (msSeq lb6 (msSeq lb7 (msSeq lb8 (msSeq lb9 (msSeq lb10 (msSeq lb11 (msSeq lb12 (msSeq lb13 (msSeq lb14 (lb15)))))))))))
theorem b_law_is : b_law = msSeq (msAsg (mDisp [(mC (.str "cells"), mVar 0), (mC (.str "at"), mC (.int 0))]) (mgName 1)) (msSeq (msAsg (mCall 1 f__law_labels (maCons (mVar 1) maNil)) (mgName 2)) (msSeq (msAsg (mLst maNil) (mgName 3)) (msSeq (msFor (miRange1 (maCons (mOp fMod (mCall 1 f__law_next (maCons (mVar 1) maNil)) (mC (.int 13))) maNil)) (mgName 4) lbBody) (lbRest)))) := rfl

/-! ### lists of names compared -/
def pyN (ss : List Str) : PyData := .tuple (ss.map .str)
theorem py_names (μ : Store) : ∀ nl : List (List Str), pyAll (py μ 11) (nl.map tupN) = some (nl.map pyN)
  | [] => rfl
  | ss :: r => by
    rw [List.map_cons, pyAll, show py μ 11 (tupN ss) = some (pyN ss) from py_strs μ 9 _, py_names μ r]
    rfl
def okNs (nl : List (List Str)) : Prop := ∀ a ∈ nl, ∀ s ∈ a, okS s
theorem shp_names : ∀ {nl : List (List Str)}, okNs nl → Shp (.list (nl.map pyN)) := by
  intro nl h
  have h1 : PyData.canLayAll0 (nl.map pyN) = true := by
    induction nl with
    | nil => rfl
    | cons a r ih =>
      rw [List.map_cons]
      show (PyData.canLayAll0 (a.map .str) && PyData.canLayAll0 (r.map pyN)) = true
      rw [lay_strs (h a List.mem_cons_self), ih fun b hb => h b (List.mem_cons_of_mem _ hb)]
      rfl
  have h2 : PyData.depthAll (nl.map pyN) ≤ 1 := by
    clear h h1
    induction nl with
    | nil => exact Nat.zero_le _
    | cons a r ih =>
      rw [List.map_cons]
      show max (PyData.depthAll (a.map .str) + 1) (PyData.depthAll (r.map pyN)) ≤ 1
      rw [depth_strs]
      omega
  refine ⟨h1, ?_⟩
  show PyData.depthAll (nl.map pyN) + 1 ≤ 5
  omega
theorem eqv_names : ∀ nl : List (List Str), PyData.eqvAll (nl.map pyN) (nl.map pyN) = true
  | [] => rfl
  | a :: r => by
    rw [List.map_cons]
    show (PyData.eqvAll (a.map .str) (a.map .str) && PyData.eqvAll (r.map pyN) (r.map pyN)) = true
    rw [eqv_strs, eqv_names r, decide_eq_true rfl]
    rfl
theorem py_cell {μ : Store} {a : Nat} {nl : List (List Str)} (h : μ[a]? = some (.lst (nl.map tupN))) : py μ 12 (.cell a) = some (.list (nl.map pyN)) := by
  show (match μ[a]? with | some (.lst ds) => (pyAll (py μ 11) ds).map PyData.list | _ => none) = _
  rw [h]
  dsimp only
  rw [py_names]
  rfl
theorem neD_same {μ : Store} {a b : Nat} {nl : List (List Str)} (h1 : μ[a]? = some (.lst (nl.map tupN))) (h2 : μ[b]? = some (.lst (nl.map tupN))) (ok : okNs nl) : fNeD (.cell a) (.cell b) μ = .ok (.bl false) μ := by
  simp only [fNeD, py_cell h1, py_cell h2, (shp_names ok).shaped, Bool.and_self, if_true]
  rw [show PyData.eqv (.list (nl.map pyN)) (.list (nl.map pyN)) = PyData.eqvAll (nl.map pyN) (nl.map pyN) from rfl, eqv_names]
  rfl
theorem neD_empty {μ : Store} {a b : Nat} {nl : List (List Str)} (h1 : μ[a]? = some (.lst (nl.map tupN))) (h2 : μ[b]? = some (.lst [])) (ok : okNs nl) : fNeD (.cell a) (.cell b) μ = .ok (.bl (!nl.isEmpty)) μ := by
  have h3 : py μ 12 (.cell b) = some (.list []) := py_cell (nl := []) h2
  have s2 : SeqAt.shaped (.list []) = true := by decide +kernel
  simp only [fNeD, py_cell h1, h3, (shp_names ok).shaped, s2, Bool.and_self, if_true]
  cases nl with
  | nil => rfl
  | cons a r => rfl
/-! ### the store while the names are drawn -/
def NL (a : List Str) : Prop := a.length ≤ 6 ∧ ∀ t ∈ a, GL t ∨ t = "*"
theorem NL.ok {a : List Str} (h : NL a) : ∀ s ∈ a, s.length ≤ 100000 ∧ okS s := fun s hs => by
  rcases h.2 s hs with g | rfl
  · have := g.2.1
    exact ⟨by omega, g.ok⟩
  · exact ⟨by decide +kernel, label_ok star_label⟩
theorem NL.okN {a : List Str} (h : NL a) {μ : Store} : OkN μ (tupN a) := okN_strs h.ok
theorem NG.nl {a : List Str} (h : NG a) : NL a := ⟨h.1, fun t ht => by
  have ht' : t ∈ a.take 1 ++ a.drop 1 := by rw [List.take_append_drop]; exact ht
  rcases List.mem_append.mp ht' with z | z
  · exact h.2.2 t z
  · exact .inl (h.2.1 t z)⟩
def T3 (ns : List Int) (L : List Str) (c kn : Nat) (nl : List (List Str)) (k : Nat) (μ : Store) : Prop := c < kn ∧ ∃ r, μ = D ns k :: r ∧ r[c]? = some (.lst (L.map .str)) ∧ r[kn]? = some (.lst (nl.map tupN))
section
variable {ns : List Int} {L : List Str} {c kn k : Nat} {nl : List (List Str)} {μ g : Store}
theorem T3.app (h : T3 ns L c kn nl k μ) : T3 ns L c kn nl k (μ ++ g) := by
  obtain ⟨h0, r, rfl, h1, h2⟩ := h
  exact ⟨h0, r ++ g, rfl, get_app h1, get_app h2⟩
theorem T3.lab (h : T3 ns L c kn nl k μ) : μ[c + 1]? = some (.lst (L.map .str)) := by
  obtain ⟨h0, r, rfl, h1, h2⟩ := h
  rw [List.getElem?_cons_succ]
  exact h1
theorem T3.nm (h : T3 ns L c kn nl k μ) : μ[kn + 1]? = some (.lst (nl.map tupN)) := by
  obtain ⟨h0, r, rfl, h1, h2⟩ := h
  rw [List.getElem?_cons_succ]
  exact h2
theorem T3.push (h : T3 ns L c kn nl k μ) (a : List Str) : T3 ns L c kn (nl ++ [a]) k (μ.set (kn + 1) (.lst (nl.map tupN ++ [tupN a]))) := by
  obtain ⟨h0, r, rfl, h1, h2⟩ := h
  refine ⟨h0, r.set kn (.lst (nl.map tupN ++ [tupN a])), by rw [List.set_cons_succ], ?_, ?_⟩
  · rw [List.getElem?_set_ne (by omega)]
    exact h1
  · rw [List.getElem?_set_self (List.getElem?_eq_some_iff.mp h2).1, List.map_append]
    rfl
theorem T3.next (h : T3 ns L c kn nl k μ) (hk : k ≤ 80000) : wp (f__law_next [.cell 0] μ) fun d μ' => ∃ n : Int, d = .int n ∧ 0 ≤ n ∧ n < 268435456 ∧ T3 ns L c kn nl (k + 1) μ' := by
  obtain ⟨h0, r, rfl, h1, h2⟩ := h
  refine wp_imp (next_spec (by omega) r) ?_
  rintro d μ' ⟨n, rfl, n0, n1, rfl⟩
  exact ⟨n, rfl, n0, n1, h0, r, rfl, h1, h2⟩
theorem T3.name (h : T3 ns L c kn nl k μ) (hk : k ≤ 80000) (hl : L.length = 5) (hG : ∀ l ∈ L, GL l) : wp (f__law_name [.cell 0, .cell (c + 1)] μ) fun d μ' => ∃ (ss : List Str) (k' : Nat), d = tupN ss ∧ NL ss ∧ k' ≤ k + 8 ∧ T3 ns L c kn nl k' μ' := by
  obtain ⟨h0, r, rfl, h1, h2⟩ := h
  refine wp_imp (name_spec hk h1 hl hG) ?_
  rintro d μ' ⟨ss, g, k', rfl, e1, rfl, e2⟩
  exact ⟨ss, k', rfl, e1.nl, e2, h0, r ++ g, rfl, get_app h1, get_app h2⟩
theorem cutD_first (ss : List Str) (μ : Store) : fSlT (tupN ss) (some 1) none μ = .ok (tupN (ss.drop 1)) μ := by
  show Res.ok (Dat.tup (cutD (ss.map Dat.str) (some ((1 : Nat) : Int)) none)) μ = _
  rw [cutD_from]
  unfold tupN
  rw [List.map_drop]
theorem cutD_six (ss : List Str) (μ : Store) : fSlT (.tup (ss.map .str)) none (some 6) μ = .ok (tupN (ss.take 6)) μ := by
  show Res.ok (Dat.tup (cutD (ss.map Dat.str) none (some ((6 : Nat) : Int)))) μ = _
  rw [cutD_to]
  unfold tupN
  rw [List.map_take]
theorem tup_at {ds : List Dat} {d : Dat} {xs : List (List Str)} (h : d ∈ xs.map tupN) : ∃ a ∈ xs, d = tupN a := by
  obtain ⟨a, ha, e⟩ := List.mem_map.mp h
  exact ⟨a, ha, e.symm⟩
abbrev E2 (q : Option Dat) (c kn : Nat) (x4 x5 x6 x7 x8 x9 x10 x11 x12 x13 : Option Dat) : Env := [q, some (.cell 0), some (.cell (c + 1)), some (.cell (kn + 1)), x4, x5, x6, x7, x8, x9, x10, x11, x12, x13]
theorem body2 {P : Ps} {q x4 x5 x6 x7 x8 x9 x10 x11 x12 x13 : Option Dat} (h : T3 ns L c kn nl k μ) (hk : k ≤ 60000) (hl : L.length = 5) (hG : ∀ l ∈ L, GL l) (hN : ∀ a ∈ nl, NL a) (hn : nl.length ≤ 12)
    (hP : ∀ x5 x6 a k' μ', NL a → k' ≤ k + 10 → T3 ns L c kn (nl ++ [a]) k' μ' → P.nx (E2 q c kn x4 x5 x6 x7 x8 x9 x10 x11 x12 x13) μ') :
    wps (lbBody (E2 q c kn x4 x5 x6 x7 x8 x9 x10 x11 x12 x13) μ) P := by
  have okn : okNs nl := fun a ha s hs => ((hN a ha).ok s hs).2
  have app : ∀ {k' : Nat} {μ' : Store} (a : List Str), T3 ns L c kn nl k' μ' → fAppend (.cell (kn + 1)) [tupN a] μ' = .ok .non (μ'.set (kn + 1) (.lst (nl.map tupN ++ [tupN a]))) := fun a h' => by
    simp only [fAppend, h'.nm]
    rw [if_pos (by rw [sl16, List.length_map]; omega)]
  have lst : ∀ {k' : Nat} {μ' : Store}, T3 ns L c kn nl k' μ' → lstAt μ' (.cell (kn + 1)) = some (nl.map tupN) := fun h' => by simp only [lstAt, h'.nm]
  unfold lbBody E2 mLst
  walk_at "nwp"
  refine wp_imp (h.next (by omega)) ?_
  rintro d μ1 ⟨n, rfl, n0, n1, h1⟩
  walk_at "nwp"
  rw [if_pos (Nat.zero_le _)]
  unfold allocR
  walk_at "nwp"
  rw [neD_empty (h1.app).nm getElem?_mid okn]
  walk_at "nwp"
  replace h1 := h1.app (g := [.lst []])
  generalize μ1 ++ [Cell.lst []] = μ1 at h1 ⊢
  have other : wps ((msDrop (mBM fAppend (mVar 3) (maCons (mCall 2 f__law_name (maCons (mVar 1) (maCons (mVar 2) maNil))) maNil))) [q, some (.cell 0), some (.cell (c + 1)), some (.cell (kn + 1)), x4, some (.int n), x6, x7, x8, x9, x10, x11, x12, x13] μ1) P := by
    unfold mBM
    walk_at "nwp"
    rw [lst h1, if_pos (show (some (nl.map tupN)).isSome = true from rfl)]
    walk_at "nwp"
    refine wp_imp (h1.name (by omega) hl hG) ?_
    rintro d μ2 ⟨ss, k', rfl, e1, e2, h2⟩
    walk_at "nwp"
    rw [app ss h2]
    exact hP _ _ ss k' _ e1 (by omega) (h2.push ss)
  have other' := other
  unfold msDrop at other'
  rw [wps_toS] at other'
  by_cases he : nl = []
  · rw [show (!nl.isEmpty) = false by rw [he]; rfl]
    walk_at "nwp"
    exact other'
  · have hpos : 0 < nl.length := List.length_pos_iff.mpr he
    rw [show (!nl.isEmpty) = true by cases nl with | nil => exact (he rfl).elim | cons _ _ => rfl]
    walk_at "nwp"
    rw [fMod_int (by omega)]
    walk_at "nwp"
    by_cases h3 : n % 3 = 0
    · rw [decide_eq_true h3]
      walk_at "nwp"
      rw [fDiv_int (by omega)]
      walk_at "nwp"
      obtain ⟨z, hz⟩ : ∃ z : Int, z = (nl.length : Int) := ⟨_, rfl⟩
      have hlen : fLenQ [.cell (kn + 1)] μ1 = .ok (.int z) μ1 := by
        simp only [fLenQ, seqD, lst h1, hz]
        rw [List.length_map]
      rw [hlen]
      walk_at "nwp"
      rw [fMod_int (by omega)]
      walk_at "nwp"
      obtain ⟨d, e, hd⟩ := fIxL_at (i := n / 3 % z) h1.nm (Int.emod_nonneg _ (by omega)) (by rw [List.length_map, ← hz]; exact Int.emod_lt_of_pos _ (by omega))
      obtain ⟨a, ha, rfl⟩ := tup_at (ds := []) hd
      have na := hN a ha
      rw [e]
      unfold mBM mSl moPart moNone
      walk_at "nwp"
      rw [lst h1, if_pos (show (some (nl.map tupN)).isSome = true from rfl)]
      walk_at "nwp"
      rw [cutD_first]
      walk_at "nwp"
      obtain ⟨d, e, hd⟩ := fIxL_at (i := 0) h1.lab (by omega) (by rw [List.length_map, hl]; omega)
      obtain ⟨l, hlm, rfl⟩ := strs_at hd
      rw [e]
      walk_at "nwp"
      rw [if_pos (show 1 ≤ sizeLine by rw [sl16]; omega)]
      walk_at "nwp"
      rw [show ∀ μ, fCatT (.tup [.str l]) (tupN a) μ = .ok (.tup ((l :: a).map .str)) μ from fun μ => by
        unfold fCatT tupN
        dsimp only
        rw [if_pos (by rw [sl16, List.length_map, List.length_singleton]; have := na.1; omega)]
        rfl]
      walk_at "nwp"
      rw [show ∀ μ, fSlT (.tup (.str l :: a.map .str)) none (some 6) μ = .ok (tupN ((l :: a).take 6)) μ from fun μ => cutD_six (l :: a) μ]
      walk_at "nwp"
      rw [if_pos (show 3 ≤ sizeLine by rw [sl16]; omega)]
      walk_at "nwp"
      rw [fDiv_int (by omega)]
      walk_at "nwp"
      rw [fMod_int (by omega)]
      walk_at "nwp"
      obtain ⟨d, e, hd⟩ := fIxL_new (μ := μ1) (ds := [a, a.drop 1, (l :: a).take 6].map tupN) (i := n / 40 % 3) (by omega) (by simp; omega)
      obtain ⟨b, hb, rfl⟩ := tup_at (ds := []) hd
      have e' : fIxL (.cell μ1.length) (.int (n / 40 % 3)) (μ1 ++ [.lst [tupN a, tupN (a.drop 1), tupN ((l :: a).take 6)]]) = .ok (tupN b) (μ1 ++ [.lst [tupN a, tupN (a.drop 1), tupN ((l :: a).take 6)]]) := e
      rw [e']
      walk_at "nwp"
      rw [app b h1.app]
      refine hP _ _ b (k + 1) _ ?_ (by omega) (h1.app.push b)
      simp only [List.mem_cons, List.not_mem_nil, or_false] at hb
      rcases hb with rfl | rfl | rfl
      · exact na
      · exact ⟨by rw [List.length_drop]; have := na.1; omega, fun t ht => na.2 t (List.mem_of_mem_drop ht)⟩
      · refine ⟨by rw [List.length_take]; omega, fun t ht => ?_⟩
        rcases List.mem_cons.mp (List.mem_of_mem_take ht) with rfl | ht
        · exact .inl (hG _ hlm)
        · exact na.2 t ht
    · rw [decide_eq_false h3]
      walk_at "nwp"
      exact other'
end
end Nh

namespace Nh
open PySem PySem.Spec PyProof.Rows L2
local macro_rules | `(tactic| walk_at "nwp") => `(tactic| try simp only [wp_bind, wp_ok, wp_nrR, wps_toS, wps_nx, wps_rt, wps_seq, wp_run, wps_if, wp_if, wp_tAnd, wp_tOr, wp_tNot, startD, List.map_cons, List.map_nil, List.length_cons, List.length_nil, Nat.reduceAdd, Nat.reduceSub, List.replicate_succ, List.replicate_zero, List.cons_append, List.nil_append, List.getElem?_cons_zero, List.getElem?_cons_succ, List.set_cons_zero, List.set_cons_succ,
  asB, mVar, mC, mOp, mCB, maCons, maNil, mCall, msRet, msAsg, mgName, msDrop, msNext, msRaise, mTup, mChain, mUn, if_true, if_false, Bool.not_true, Bool.not_false, Bool.false_eq_true, reduceIte, Nat.reduceEqDiff, Nat.reduceLeDiff,
  eq_self_iff_true, true_and, isA_str, inSign_star, inSign_one, notInSign_one, fEq_str, fEq_int, fLe_int, fLt_int, fGt_int, fAdd_int, fSub_int, fNeg_int])

/-! ### behind the drawing -/
theorem cutD_len' {α : Type} (l : List α) (lo hi : Option Int) : (cutD l lo hi).length ≤ l.length := by
  unfold cutD
  rw [List.length_take, List.length_drop]
  omega
theorem cutD_mem' {α : Type} {l : List α} {lo hi : Option Int} {x : α} (h : x ∈ cutD l lo hi) : x ∈ l := List.mem_of_mem_drop (List.mem_of_mem_take h)
structure F4 (ns : List Int) (k k3 k7 k8 : Nat) (nm srt : List (List Str)) (μ : Store) : Prop where
  shape : ∃ r, μ = D ns k :: r
  pos : 1 ≤ k3 ∧ 1 ≤ k7 ∧ 1 ≤ k8
  g3 : μ[k3]? = some (.lst (nm.map tupN))
  g7 : μ[k7]? = some (.lst (srt.map tupN))
  g8 : μ[k8]? = some (.lst (nm.map tupN))
section
variable {ns : List Int} {k k3 k7 k8 : Nat} {nm srt : List (List Str)} {μ g : Store}
theorem F4.app (h : F4 ns k k3 k7 k8 nm srt μ) : F4 ns k k3 k7 k8 nm srt (μ ++ g) := by
  obtain ⟨⟨r, rfl⟩, p, h3, h7, h8⟩ := h
  exact ⟨⟨r ++ g, rfl⟩, p, get_app h3, get_app h7, get_app h8⟩
theorem F4.put (h : F4 ns k k3 k7 k8 nm srt μ) {j : Nat} {x : Cell} (hj : 1 ≤ j) (n3 : j ≠ k3) (n7 : j ≠ k7) (n8 : j ≠ k8) : F4 ns k k3 k7 k8 nm srt (μ.set j x) := by
  obtain ⟨⟨r, rfl⟩, p, h3, h7, h8⟩ := h
  obtain ⟨i, rfl⟩ : ∃ i, j = i + 1 := ⟨j - 1, by omega⟩
  exact ⟨⟨r.set i x, by rw [List.set_cons_succ]⟩, p, by rw [List.getElem?_set_ne n3]; exact h3, by rw [List.getElem?_set_ne n7]; exact h7, by rw [List.getElem?_set_ne n8]; exact h8⟩
theorem F4.next (h : F4 ns k k3 k7 k8 nm srt μ) (hk : k ≤ 80000) : wp (f__law_next [.cell 0] μ) fun d μ' => ∃ n : Int, d = .int n ∧ 0 ≤ n ∧ n < 268435456 ∧ F4 ns (k + 1) k3 k7 k8 nm srt μ' := by
  obtain ⟨⟨r, rfl⟩, p, h3, h7, h8⟩ := h
  refine wp_imp (next_spec (by omega) r) ?_
  rintro d μ' ⟨n, rfl, n0, n1, rfl⟩
  refine ⟨n, rfl, n0, n1, ⟨r, rfl⟩, p, ?_, ?_, ?_⟩
  · obtain ⟨i, rfl⟩ : ∃ i, k3 = i + 1 := ⟨k3 - 1, by omega⟩
    exact h3
  · obtain ⟨i, rfl⟩ : ∃ i, k7 = i + 1 := ⟨k7 - 1, by omega⟩
    exact h7
  · obtain ⟨i, rfl⟩ : ∃ i, k8 = i + 1 := ⟨k8 - 1, by omega⟩
    exact h8
end
theorem tupN_inj {a b : List Str} (h : tupN a = tupN b) : a = b := by
  have : ∀ {ss ts : List Str}, ss.map Dat.str = ts.map Dat.str → ss = ts := by
    intro ss
    induction ss with
    | nil => intro ts h; cases ts with | nil => rfl | cons _ _ => cases h
    | cons s ss ih =>
      intro ts h
      cases ts with
      | nil => cases h
      | cons t ts =>
        rw [List.map_cons, List.map_cons] at h
        have h' := List.cons.inj h
        rw [Dat.str.inj h'.1, ih h'.2]
  exact this (Dat.tup.inj h)
theorem names_inj : ∀ {a b : List (List Str)}, a.map tupN = b.map tupN → a = b
  | [], [], _ => rfl
  | [], _ :: _, h => nomatch h
  | _ :: _, [], h => nomatch h
  | a :: as, b :: bs, h => by
    rw [List.map_cons, List.map_cons] at h
    have h' := List.cons.inj h
    rw [tupN_inj h'.1, names_inj h'.2]
theorem okN_nameS {a : List Str} (h : isNameS a = true) {μ : Store} : OkN μ (tupN a) := okN_strs fun s hs => by
  have h1 := isNameS_lab h s hs
  have h2 := label_len h1
  exact ⟨by omega, label_ok h1⟩
/-- the program's sorting of a list of names -/
theorem sort_names {μ : Store} {j : Nat} {nm : List (List Str)} (hk : μ[j]? = some (.lst (nm.map tupN))) (hn : nm.length ≤ 12) (hN : ∀ a ∈ nm, isNameS a = true) {R : Nat → Store → Prop} :
    wp (f_ordered_names [.cell j] μ) (fun d μ' => ∃ g, d = .cell (μ ++ g).length ∧ μ' = μ ++ g ++ [.lst ((nm.mergeSort leN).map tupN)]) R := by
  refine wp_mono (ordered_spec hk (by rw [List.length_map]; omega) fun d hd => ?_) ?_ ?_
  · obtain ⟨a, ha, rfl⟩ := List.mem_map.mp hd
    exact okN_nameS (hN a ha)
  · rintro d μ' ⟨nl, e, _, g, rfl, rfl⟩
    rw [← names_inj e]
    exact ⟨g, rfl, rfl⟩
  · rintro n μ' ⟨_, h⟩
    exfalso
    rw [List.all_map] at h
    have : nm.all (isNameD ∘ tupN) = true := List.all_eq_true.mpr fun a ha => hN a ha
    rw [this] at h
    cases h
theorem merge_eq {a b : List (List Str)} (p : a.Perm b) : a.mergeSort leN = b.mergeSort leN := sorted_one (merge_sorted a) (merge_sorted b) (((List.mergeSort_perm a leN).trans p).trans (List.mergeSort_perm b leN).symm)
theorem okNs_of {nm : List (List Str)} (hN : ∀ a ∈ nm, isNameS a = true) : okNs nm := fun a ha s hs => isNameS_ok (hN a ha) s hs
theorem okNs_merge {nm : List (List Str)} (hN : ∀ a ∈ nm, isNameS a = true) : okNs (nm.mergeSort leN) := fun a ha s hs => isNameS_ok (hN a ((List.mergeSort_perm nm leN).mem_iff.mp ha)) s hs
theorem odd8 {μ : Store} {d : Dat} {kk : Nat} (hkk : μ[kk]? = some (.lst [.str "a"])) (h : d ∈ [Dat.non, .tup [.str "a", .str "*"], .cell kk, .str "a", .tup [.str "A"], .int 5, .tup [.str "a", .str "a", .str "a", .str "a", .str "a", .str "a", .str "a"], .bl true]) : OkN μ d ∧ isNameD d = false := by
  have oa : Ok1 μ (.str "a") := .inl ⟨"a", rfl, by decide +kernel, by unfold okS; decide +kernel⟩
  have os : Ok1 μ (.str "*") := .inl ⟨"*", rfl, by decide +kernel, by unfold okS; decide +kernel⟩
  have oA : Ok1 μ (.str "A") := .inl ⟨"A", rfl, by decide +kernel, by unfold okS; decide +kernel⟩
  simp only [List.mem_cons, List.not_mem_nil, or_false] at h
  rcases h with rfl | rfl | rfl | rfl | rfl | rfl | rfl | rfl
  · exact ⟨.inr ⟨(fun _ z => nomatch z), "NoneType", rfl, by decide +kernel⟩, rfl⟩
  · refine ⟨.inl ⟨_, rfl, fun e he => ?_⟩, by decide +kernel⟩
    simp only [List.mem_cons, List.not_mem_nil, or_false] at he
    rcases he with rfl | rfl
    · exact oa
    · exact os
  · exact ⟨.inr ⟨(fun _ z => nomatch z), "list", by simp only [tyD, kindD, hkk]; rfl, by decide +kernel⟩, rfl⟩
  · exact ⟨.inr ⟨(fun _ z => nomatch z), "str", rfl, by decide +kernel⟩, rfl⟩
  · refine ⟨.inl ⟨_, rfl, fun e he => ?_⟩, by decide +kernel⟩
    rw [List.mem_singleton.mp he]
    exact oA
  · exact ⟨.inr ⟨(fun _ z => nomatch z), "int", rfl, by decide +kernel⟩, rfl⟩
  · refine ⟨.inl ⟨_, rfl, fun e he => ?_⟩, by decide +kernel⟩
    rw [show e = .str "a" by simpa using he]
    exact oa
  · exact ⟨.inr ⟨(fun _ z => nomatch z), "bool", rfl, by decide +kernel⟩, rfl⟩
section
variable {ns : List Int} {c k k3 k7 k8 k9 : Nat} {nm srt : List (List Str)} {μ : Store} {q x2 x4 x5 x6 x7 x8 x9 x10 x11 x12 x13 : Option Dat}
/-- what is refused -/
theorem rest_c {P : Ps} (hP : ∀ μ, P.rt (.bl true) μ) (h : F4 ns k k3 k7 k8 nm srt μ) (hk : k ≤ 70000) (hn : nm.length ≤ 12) (hN : ∀ a ∈ nm, isNameS a = true) :
    wps ((msSeq lb11 (msSeq lb12 (msSeq lb13 (msSeq lb14 (lb15))))) [q, some (.cell 0), x2, some (.cell k3), x4, x5, x6, x7, x8, x9, x10, x11, x12, x13] μ) P := by
  rw [wps_seq]
  unfold lb11
  walk_at "nwp"
  refine wp_imp (h.next (by omega)) ?_
  rintro d μ1 ⟨n, rfl, n0, n1, h1⟩
  try dsimp only
  try rw [wps_seq]
  unfold lb12 mLst
  walk_at "nwp"
  rw [if_pos (show 2 ≤ sizeLine by rw [sl16]; omega)]
  unfold allocR
  walk_at "nwp"
  rw [if_pos (show 1 ≤ sizeLine by rw [sl16]; omega)]
  walk_at "nwp"
  rw [if_pos (show 1 ≤ sizeLine by rw [sl16]; omega)]
  walk_at "nwp"
  rw [if_pos (show 1 ≤ sizeLine by rw [sl16]; omega)]
  walk_at "nwp"
  rw [show ∀ μ, fRepT (.tup [.str "a"]) (.int 7) μ = .ok (.tup [.str "a", .str "a", .str "a", .str "a", .str "a", .str "a", .str "a"]) μ from fun _ => by
    unfold fRepT
    dsimp only
    rw [if_pos (by simp)]
    rfl]
  walk_at "nwp"
  rw [if_pos (show 8 ≤ sizeLine by rw [sl16]; omega)]
  walk_at "nwp"
  rw [fMod_int (by omega)]
  walk_at "nwp"
  have h2 := (h1.app (g := [.lst [.str "a"]]))
  have hkk : (μ1 ++ [Cell.lst [.str "a"]])[μ1.length]? = some (.lst [.str "a"]) := getElem?_mid
  generalize hμ2 : μ1 ++ [Cell.lst [.str "a"]] = μ2 at h2 hkk ⊢
  obtain ⟨y, e, hy⟩ := fIxL_new (μ := μ2) (ds := [Dat.non, .tup [.str "a", .str "*"], .cell μ1.length, .str "a", .tup [.str "A"], .int 5, .tup [.str "a", .str "a", .str "a", .str "a", .str "a", .str "a", .str "a"], .bl true]) (i := n % 8) (by omega) (by simp; omega)
  rw [e]
  obtain ⟨oy, ny⟩ := odd8 hkk hy
  try dsimp only
  try rw [wps_seq]
  replace h2 := h2.app (g := [.lst [Dat.non, .tup [.str "a", .str "*"], .cell μ1.length, .str "a", .tup [.str "A"], .int 5, .tup [.str "a", .str "a", .str "a", .str "a", .str "a", .str "a", .str "a"], .bl true]])
  replace oy : OkN (μ2 ++ [.lst [Dat.non, .tup [.str "a", .str "*"], .cell μ1.length, .str "a", .tup [.str "A"], .int 5, .tup [.str "a", .str "a", .str "a", .str "a", .str "a", .str "a", .str "a"], .bl true]]) y := oy.app
  generalize μ2 ++ [Cell.lst [Dat.non, .tup [.str "a", .str "*"], .cell μ1.length, .str "a", .tup [.str "A"], .int 5, .tup [.str "a", .str "a", .str "a", .str "a", .str "a", .str "a", .str "a"], .bl true]] = μ3 at h2 oy ⊢
  unfold lb13
  walk_at "nwp"
  rw [fDiv_int (by omega)]
  walk_at "nwp"
  have lst : ∀ {g : Store}, lstAt (μ3 ++ g) (.cell k3) = some (nm.map tupN) := fun {g} => by simp only [lstAt, h2.app.g3]
  have lst0 : lstAt μ3 (.cell k3) = some (nm.map tupN) := by simp only [lstAt, h2.g3]
  obtain ⟨z, hz⟩ : ∃ z : Int, z = (nm.length : Int) := ⟨_, rfl⟩
  have hlen : fLenQ [.cell k3] μ3 = .ok (.int z) μ3 := by
    simp only [fLenQ, seqD, lst0, hz]
    rw [List.length_map]
  rw [hlen]
  walk_at "nwp"
  rw [fMod_int (by omega)]
  try dsimp only
  try rw [wps_seq]
  unfold lb14 mLst mSl moPart moNone mDNew
  walk_at "nwp"
  have sl1 : ∀ lo hi, fSlL (.cell k3) lo hi μ3 = .ok (.cell μ3.length) (μ3 ++ [.lst (cutD (nm.map tupN) lo hi)]) := fun lo hi => by
    simp only [fSlL, lst0]
    rfl
  rw [sl1]
  walk_at "nwp"
  rw [if_pos (show 1 ≤ sizeLine by rw [sl16]; omega)]
  unfold allocR
  walk_at "nwp"
  have hcl := cutD_len' (nm.map tupN) none (some (n / 8 % (z + 1)))
  have hcl2 := cutD_len' (nm.map tupN) (some (n / 8 % (z + 1))) none
  rw [List.length_map] at hcl hcl2
  have cat1 : ∀ (m : Store) (a b : List Dat), a.length ≤ 100 → b.length ≤ 100 → fCat (.cell m.length) (.cell (m ++ [Cell.lst a]).length) (m ++ [Cell.lst a] ++ [Cell.lst b]) = .ok (.cell (m ++ [Cell.lst a] ++ [Cell.lst b]).length) (m ++ [Cell.lst a] ++ [Cell.lst b] ++ [Cell.lst (a ++ b)]) := fun m a b ha hb => by
    unfold fCat
    rw [show celL (m ++ [Cell.lst a] ++ [.lst b]) (.cell m.length) = some a from by simp only [celL, get_app getElem?_mid], show celL (m ++ [Cell.lst a] ++ [.lst b]) (.cell (m ++ [Cell.lst a]).length) = some b from by simp only [celL, getElem?_mid]]
    dsimp only
    rw [if_pos (by rw [sl16]; omega)]
    rfl
  rw [cat1 _ _ _ (by omega) (by simp)]
  walk_at "nwp"
  generalize hcut : cutD (nm.map tupN) none (some (n / 8 % (z + 1))) = c1 at hcl ⊢
  have hg4 : ∃ g4, μ3 ++ [Cell.lst c1] ++ [.lst [y]] = μ3 ++ g4 := ⟨_, List.append_assoc _ _ _⟩
  obtain ⟨g4, hg4⟩ := hg4
  rw [hg4]
  have sl2 : ∀ lo hi (x : Cell), fSlL (.cell k3) lo hi (μ3 ++ g4 ++ [x]) = .ok (.cell (μ3 ++ g4 ++ [x]).length) (μ3 ++ g4 ++ [x] ++ [.lst (cutD (nm.map tupN) lo hi)]) := fun lo hi x => by
    unfold fSlL
    rw [show lstAt (μ3 ++ g4 ++ [x]) (.cell k3) = some (nm.map tupN) from by rw [List.append_assoc]; exact lst]
    rfl
  rw [sl2]
  walk_at "nwp"
  generalize hcut2 : cutD (nm.map tupN) (some (n / 8 % (z + 1))) none = c2 at hcl2 ⊢
  rw [cat1 (μ3 ++ g4) (c1 ++ [y]) c2 (by rw [List.length_append, List.length_singleton]; omega) (by omega)]
  walk_at "nwp"
  rw [show fTupleOf [.cell k3] (μ3 ++ g4 ++ [Cell.lst (c1 ++ [y])] ++ [.lst c2] ++ [.lst (c1 ++ [y] ++ c2)]) = .ok (.tup (nm.map tupN)) (μ3 ++ g4 ++ [Cell.lst (c1 ++ [y])] ++ [.lst c2] ++ [.lst (c1 ++ [y] ++ c2)]) from by
    unfold fTupleOf seqD
    dsimp only
    rw [show lstAt (μ3 ++ g4 ++ [Cell.lst (c1 ++ [y])] ++ [.lst c2] ++ [.lst (c1 ++ [y] ++ c2)]) (.cell k3) = some (nm.map tupN) from by simp only [List.append_assoc]; exact lst]]
  walk_at "nwp"
  generalize hμ5 : μ3 ++ g4 ++ [Cell.lst (c1 ++ [y])] ++ [.lst c2] = μ5
  rw [if_pos (show 5 ≤ sizeLine by rw [sl16]; omega)]
  walk_at "nwp"
  rw [fDiv_int (by omega)]
  walk_at "nwp"
  rw [fMod_int (by omega)]
  walk_at "nwp"
  obtain ⟨x, e, hx⟩ := fIxL_new (μ := μ5 ++ [.lst (c1 ++ [y] ++ c2)] ++ [.dict []]) (ds := [.cell μ5.length, .tup (nm.map tupN), .non, .str "names", .cell (μ5 ++ [Cell.lst (c1 ++ [y] ++ c2)]).length]) (i := n / 100 % 5) (by omega) (by simp; omega)
  rw [e]
  try dsimp only
  unfold lb15
  walk_at "nwp"
  refine wp_imp (refused_spec ?_) fun d μ' z => by rw [z]; exact hP _
  simp only [List.mem_cons, List.not_mem_nil, or_false] at hx
  rcases hx with rfl | rfl | rfl | rfl | rfl
  · have gx : (μ5 ++ [.lst (c1 ++ [y] ++ c2)] ++ [.dict []] ++ [Cell.lst [Dat.cell μ5.length, .tup (nm.map tupN), .non, .str "names", .cell (μ5 ++ [Cell.lst (c1 ++ [y] ++ c2)]).length]])[μ5.length]? = some (.lst (c1 ++ [y] ++ c2)) := get_app (get_app getElem?_mid)
    have oall : ∀ d ∈ c1 ++ [y] ++ c2, OkN (μ5 ++ [.lst (c1 ++ [y] ++ c2)] ++ [.dict []] ++ [Cell.lst [Dat.cell μ5.length, .tup (nm.map tupN), .non, .str "names", .cell (μ5 ++ [Cell.lst (c1 ++ [y] ++ c2)]).length]]) d := by
      have cu : ∀ d, d ∈ nm.map tupN → ∀ m, OkN m d := fun d hd m => by
        obtain ⟨a, ha, rfl⟩ := List.mem_map.mp hd
        exact okN_nameS (hN a ha)
      intro d hd
      rcases List.mem_append.mp hd with hd | hd
      · rcases List.mem_append.mp hd with hd | hd
        · rw [← hcut] at hd
          exact cu d (cutD_mem' hd) _
        · rw [List.mem_singleton.mp hd, ← hμ5]
          simp only [List.append_assoc]
          exact oy.app
      · rw [← hcut2] at hd
        exact cu d (cutD_mem' hd) _
    refine wp_mono (ordered_spec gx (by rw [List.length_append, List.length_append, List.length_singleton]; omega) oall) ?_ fun n μ' z => z.1
    rintro d μ' ⟨nl, e2, h3, _⟩
    have : isNameD y = true := by
      have hy2 : y ∈ nl.map tupN := by
        rw [← e2]
        simp
      obtain ⟨a, ha, e3⟩ := List.mem_map.mp hy2
      rw [← e3]
      exact h3 a ha
    rw [this] at ny
    cases ny
  · exact ordered_other (k := "tuple") rfl (by decide +kernel)
  · exact ordered_other (k := "NoneType") rfl (by decide +kernel)
  · exact ordered_other (k := "str") rfl (by decide +kernel)
  · refine ordered_other (k := "dict") ?_ (by decide +kernel)
    have : (μ5 ++ [.lst (c1 ++ [y] ++ c2)] ++ [Cell.dict []] ++ [Cell.lst [Dat.cell μ5.length, .tup (nm.map tupN), .non, .str "names", .cell (μ5 ++ [Cell.lst (c1 ++ [y] ++ c2)]).length]])[(μ5 ++ [Cell.lst (c1 ++ [y] ++ c2)]).length]? = some (.dict []) := get_app getElem?_mid
    simp only [tyD, kindD, this]
    rfl
end
end Nh

namespace Nh
open PySem PySem.Spec PyProof.Rows L2
local macro_rules | `(tactic| walk_at "nwp") => `(tactic| try simp only [wp_bind, wp_ok, wp_nrR, wps_toS, wps_nx, wps_rt, wps_seq, wp_run, wps_if, wp_if, wp_tAnd, wp_tOr, wp_tNot, startD, List.map_cons, List.map_nil, List.length_cons, List.length_nil, Nat.reduceAdd, Nat.reduceSub, List.replicate_succ, List.replicate_zero, List.cons_append, List.nil_append, List.getElem?_cons_zero, List.getElem?_cons_succ, List.set_cons_zero, List.set_cons_succ,
  asB, mVar, mC, mOp, mCB, maCons, maNil, mCall, msRet, msAsg, mgName, msDrop, msNext, msRaise, mTup, mChain, mUn, if_true, if_false, Bool.not_true, Bool.not_false, Bool.false_eq_true, reduceIte, Nat.reduceEqDiff, Nat.reduceLeDiff,
  eq_self_iff_true, true_and, isA_str, inSign_star, inSign_one, notInSign_one, fEq_str, fEq_int, fLe_int, fLt_int, fGt_int, fAdd_int, fSub_int, fNeg_int])

section
variable {ns : List Int} {c k k3 k7 k8 k9 : Nat} {nm srt : List (List Str)} {μ : Store} {q x2 x4 x5 x6 x7 x8 x9 x10 x11 x12 x13 : Option Dat}
/-- the lists, compared -/
theorem rest_b {P : Ps} (hP : ∀ μ, P.rt (.bl true) μ) (shape : ∃ r, μ = D ns k :: r) (h1 : 1 ≤ k3) (g3 : μ[k3]? = some (.lst (nm.map tupN))) (hk : k ≤ 70000) (hn : nm.length ≤ 12) (hN : ∀ a ∈ nm, isNameS a = true) (h6 : ∀ a ∈ nm, a.length ≤ 6) :
    wps ((msSeq lb5 (msSeq lb6 (msSeq lb7 (msSeq lb8 (msSeq lb9 (msSeq lb10 (msSeq lb11 (msSeq lb12 (msSeq lb13 (msSeq lb14 (lb15))))))))))) [q, some (.cell 0), x2, some (.cell k3), x4, x5, x6, x7, x8, x9, x10, x11, x12, x13] μ) P := by
  have l3 : k3 < μ.length := (List.getElem?_eq_some_iff.mp g3).1
  rw [wps_seq]
  unfold lb5
  walk_at "nwp"
  refine wp_imp (sorted_spec g3 hn h6) ?_
  rintro d μ1 ⟨rfl, out, rfl, hp, hs⟩
  have eo : out = nm.mergeSort leN := sorted_one hs (merge_sorted nm) (hp.trans (List.mergeSort_perm nm leN).symm)
  subst eo
  try dsimp only
  try rw [wps_seq]
  unfold lb6
  walk_at "nwp"
  rw [show fListOf [.cell k3] (μ ++ [.lst ((nm.mergeSort leN).map tupN)]) = .ok (.cell (μ ++ [Cell.lst ((nm.mergeSort leN).map tupN)]).length) (μ ++ [.lst ((nm.mergeSort leN).map tupN)] ++ [.lst (nm.map tupN)]) from by
    unfold fListOf seqD
    dsimp only
    rw [show lstAt (μ ++ [.lst ((nm.mergeSort leN).map tupN)]) (.cell k3) = some (nm.map tupN) from by simp only [lstAt, get_app g3]]
    rfl]
  have F : F4 ns k k3 μ.length (μ ++ [Cell.lst ((nm.mergeSort leN).map tupN)]).length nm (nm.mergeSort leN) (μ ++ [.lst ((nm.mergeSort leN).map tupN)] ++ [.lst (nm.map tupN)]) := by
    obtain ⟨r, rfl⟩ := shape
    exact ⟨⟨_, rfl⟩, ⟨h1, by simp, by simp⟩, get_app (get_app g3), get_app getElem?_mid, getElem?_mid⟩
  have l8 : (μ ++ [Cell.lst ((nm.mergeSort leN).map tupN)]).length < (μ ++ [Cell.lst ((nm.mergeSort leN).map tupN)] ++ [Cell.lst (nm.map tupN)]).length := by simp
  have l7 : μ.length < (μ ++ [Cell.lst ((nm.mergeSort leN).map tupN)] ++ [Cell.lst (nm.map tupN)]).length := by simp
  generalize hk7 : μ.length = k7 at F l3 l7 ⊢
  generalize hk8 : (μ ++ [Cell.lst ((nm.mergeSort leN).map tupN)]).length = k8 at F l8 ⊢
  generalize μ ++ [Cell.lst ((nm.mergeSort leN).map tupN)] ++ [.lst (nm.map tupN)] = μ2 at F l7 l8 ⊢
  try dsimp only
  try rw [wps_seq]
  unfold lb7
  walk_at "nwp"
  refine wp_imp (sort_names F.g8 hn hN) ?_
  rintro d μ3 ⟨g, rfl, rfl⟩
  have g9 : (μ2 ++ g ++ [Cell.lst ((nm.mergeSort leN).map tupN)])[(μ2 ++ g).length]? = some (.lst ((nm.mergeSort leN).map tupN)) := getElem?_mid
  have F3 : F4 ns k k3 k7 k8 nm (nm.mergeSort leN) (μ2 ++ g ++ [Cell.lst ((nm.mergeSort leN).map tupN)]) := by
    rw [List.append_assoc]
    exact F.app
  have n9 : (μ2 ++ g).length ≠ k3 ∧ (μ2 ++ g).length ≠ k7 ∧ (μ2 ++ g).length ≠ k8 ∧ 1 ≤ (μ2 ++ g).length := by
    rw [List.length_append]
    omega
  generalize (μ2 ++ g).length = k9 at g9 n9 ⊢
  generalize μ2 ++ g ++ [Cell.lst ((nm.mergeSort leN).map tupN)] = μ3 at F3 g9 ⊢
  have ok1 := okNs_of hN
  have ok2 := okNs_merge hN
  try dsimp only
  try rw [wps_seq]
  unfold lb8
  walk_at "nwp"
  rw [isA_k (k := "list") (b := true) (by simp only [tyD, kindD, g9]; rfl) (by decide +kernel)]
  walk_at "nwp"
  rw [neD_same g9 F3.g7 ok2]
  walk_at "nwp"
  rw [neD_same F3.g8 F3.g3 ok1]
  unfold mBack moPart
  walk_at "nwp"
  rw [show fBackL (.cell k3) μ3 = .ok (.cell μ3.length) (μ3 ++ [.lst (nm.reverse.map tupN)]) from by
    unfold fBackL
    rw [show lstAt μ3 (.cell k3) = some (nm.map tupN) from by simp only [lstAt, F3.g3]]
    rw [List.map_reverse]
    rfl]
  walk_at "nwp"
  refine wp_imp (sort_names (nm := nm.reverse) getElem?_mid (by rw [List.length_reverse]; exact hn) (fun a ha => hN a (List.mem_reverse.mp ha))) ?_
  rintro d μ4 ⟨g4, rfl, rfl⟩
  rw [merge_eq (List.reverse_perm nm)]
  walk_at "nwp"
  rw [neD_same (nl := nm.mergeSort leN) getElem?_mid (get_app (get_app (get_app F3.g7))) ok2]
  walk_at "nwp"
  have F4' : F4 ns k k3 k7 k8 nm (nm.mergeSort leN) (μ3 ++ [Cell.lst (nm.reverse.map tupN)] ++ g4 ++ [.lst ((nm.mergeSort leN).map tupN)]) := F3.app.app.app
  have g9' : (μ3 ++ [Cell.lst (nm.reverse.map tupN)] ++ g4 ++ [.lst ((nm.mergeSort leN).map tupN)])[k9]? = some (.lst ((nm.mergeSort leN).map tupN)) := get_app (get_app (get_app g9))
  generalize μ3 ++ [Cell.lst (nm.reverse.map tupN)] ++ g4 ++ [.lst ((nm.mergeSort leN).map tupN)] = μ4 at F4' g9' ⊢
  try dsimp only
  try rw [wps_seq]
  unfold lb9 mBM
  walk_at "nwp"
  rw [show lstAt μ4 (.cell k9) = some ((nm.mergeSort leN).map tupN) from by simp only [lstAt, g9'], if_pos (show (some ((nm.mergeSort leN).map tupN)).isSome = true from rfl)]
  walk_at "nwp"
  rw [if_pos (Nat.zero_le _)]
  walk_at "nwp"
  rw [show fAppend (.cell k9) [.tup []] μ4 = .ok .non (μ4.set k9 (.lst ((nm.mergeSort leN).map tupN ++ [.tup []]))) from by
    simp only [fAppend, g9']
    rw [if_pos (by rw [sl16, List.length_map, List.length_mergeSort]; omega)]]
  have F5 := F4'.put (x := .lst ((nm.mergeSort leN).map tupN ++ [.tup []])) n9.2.2.2 n9.1 n9.2.1 n9.2.2.1
  generalize μ4.set k9 (.lst ((nm.mergeSort leN).map tupN ++ [.tup []])) = μ5 at F5 ⊢
  try dsimp only
  try rw [wps_seq]
  unfold lb10
  walk_at "nwp"
  rw [neD_same F5.g8 F5.g3 ok1]
  walk_at "nwp"
  refine wp_imp (sort_names F5.g8 hn hN) ?_
  rintro d μ6 ⟨g6, rfl, rfl⟩
  walk_at "nwp"
  rw [neD_same (nl := nm.mergeSort leN) getElem?_mid (get_app (get_app F5.g7)) ok2]
  walk_at "nwp"
  have F6 : F4 ns k k3 k7 k8 nm (nm.mergeSort leN) (μ5 ++ g6 ++ [.lst ((nm.mergeSort leN).map tupN)]) := F5.app.app
  have fin := rest_c (P := P) hP (q := q) (x2 := x2) (x4 := x4) (x5 := x5) (x6 := x6) (x7 := some (.cell k7)) (x8 := some (.cell k8)) (x9 := some (.cell k9)) (x10 := x10) (x11 := x11) (x12 := x12) (x13 := x13) F6 hk hn hN
  simp only [wps_seq] at fin
  exact fin
end
def starless (d : Dat) : Bool := match d with
  | .tup ds => !(ds.drop 1).any isStarD
  | _ => false
theorem starless_name {a : List Str} (h : NL a) (hs : starless (tupN a) = true) : isNameS a = true := by
  unfold isNameS isNameD
  dsimp only
  rw [decide_eq_true (by rw [List.length_map]; exact h.1), Bool.true_and, Bool.and_eq_true]
  refine ⟨?_, hs⟩
  rw [List.all_map, List.all_eq_true]
  intro t ht
  show isLabelS t = true
  rcases h.2 t ht with g | rfl
  · exact g.label
  · exact star_label
theorem law_wp (ns : List Int) : wp (f_law [.ro ns] []) fun d _ => d = .bl true := by
  unfold f_law
  rw [wp_run, b_law_is]
  walk_at "nwp"
  rw [show ∀ δ, δ[0]? = some (some (.ro ns)) → mDisp [(mC (.str "cells"), mVar 0), (mC (.str "at"), mC (.int 0))] δ [] = .ok (.cell 0) [D ns 0] from fun δ hδ => by
    unfold mDisp mPairs mPairs mPairs
    simp only [mC, Res.bind, mVar, hδ]
    rfl]
  rotate_left
  · rfl
  walk_at "nwp"
  refine wp_imp (labels_spec (ns := ns) (k := 0) (by omega) []) ?_
  rintro d μ' ⟨ls, g, jj, k', rfl, hg, hl, hG, rfl, hk⟩
  walk_at "nwp"
  unfold mLst
  walk_at "nwp"
  rw [if_pos (Nat.zero_le _)]
  unfold allocR
  walk_at "nwp"
  have hjj : jj < g.length := (List.getElem?_eq_some_iff.mp hg).1
  have T0 : T3 ns ls jj g.length [] k' (D ns k' :: (g ++ [.lst []])) := ⟨hjj, g ++ [.lst []], rfl, get_app hg, getElem?_mid⟩
  have e0 : ([] : Store).length + jj + 1 = jj + 1 := by simp
  have nx := T0.next (by omega)
  cases hnx : f__law_next [.cell 0] (D ns k' :: (g ++ [.lst []])) with
  | raise n μ => rw [hnx] at nx; exact nx.elim
  | stuck => rw [hnx] at nx; exact nx.elim
  | ok d μ1 =>
    rw [hnx] at nx
    obtain ⟨n, rfl, n0, n1, T1⟩ := nx
    have hm0 := Int.emod_nonneg n (show (13 : Int) ≠ 0 by omega)
    have hm1 := Int.emod_lt_of_pos n (show (0 : Int) < 13 by omega)
    obtain ⟨m, hm⟩ : ∃ m : Nat, n % 13 = (m : Int) := ⟨(n % 13).toNat, by omega⟩
    rw [msFor_q (lo := 0) (n := m) (μ1 := μ1) (by
      have e := range_src (j := n % 13) (by omega) [some (.ro ns), some (.cell 0), some (.cell (jj + 1)), some (.cell (g.length + 1)), none, none, none, none, none, none, none, none, none, none] μ1
      rw [show (n % 13).toNat = m by omega] at e
      refine Eq.trans ?_ e
      unfold miRange1
      simp only [maCons, maNil, mOp, mCall, mVar, mC, Res.bind, List.getElem?_cons_succ, List.getElem?_cons_zero, List.length_cons, List.length_nil, Nat.zero_add, if_true, hnx, List.nil_append]
      rw [fMod_int (by omega)])]
    refine wps_for (s := srcQ 0 m) (rangeD 0 m) (fun i δ μ => ∃ x4 x5 x6 x7 x8 x9 x10 x11 x12 x13 k nl, δ = E2 (some (.ro ns)) jj g.length x4 x5 x6 x7 x8 x9 x10 x11 x12 x13 ∧ T3 ns ls jj g.length nl k μ ∧ nl.length = i ∧ (∀ a ∈ nl, NL a) ∧ k ≤ 20 + 10 * i) rfl (rangeD_len _ _).symm (fun _ _ => rfl) (fun _ => rfl) ?_ ?_ ?_
    · refine ⟨none, none, none, none, none, none, none, none, none, none, k' + 1, [], ?_, T1, rfl, (fun _ h => nomatch h), by omega⟩
      simp only [List.length_nil, Nat.zero_add, List.nil_append]
    · rintro i d δ μ hd ⟨x4, x5, x6, x7, x8, x9, x10, x11, x12, x13, k, nl, rfl, h, hli, hN, hk2⟩
      obtain ⟨hi, rfl⟩ := rangeD_get hd
      refine ⟨E2 (some (.ro ns)) jj g.length (some (.int (0 + (i : Nat)))) x5 x6 x7 x8 x9 x10 x11 x12 x13, rfl, ?_⟩
      refine body2 h (by omega) hl hG hN (by omega) ?_
      intro x5 x6 a k3 μ3 na hk3 h3
      refine ⟨_, _, _, _, _, _, _, _, _, _, k3, nl ++ [a], rfl, h3, by rw [List.length_append, List.length_singleton, hli], fun b hb => ?_, by omega⟩
      rcases List.mem_append.mp hb with hb | hb
      · exact hN b hb
      · rw [List.mem_singleton.mp hb]; exact na
    · rintro δ μ ⟨x4, x5, x6, x7, x8, x9, x10, x11, x12, x13, k, nl, rfl, h, hli, hN, hk2⟩
      rw [rangeD_len] at hli hk2
      unfold lbRest
      dsimp only
      rw [wps_seq]
      unfold lb4
      walk_at "nwp"
      refine wp_lc_cell (k := g.length + 1) (nl.map tupN) starless (fun d => d) rfl h.nm (by rw [sl16, List.length_map]; omega) (fun i d g2 acc hd => ?_) fun g2 => ?_
      · rw [List.getElem?_map] at hd
        cases hq : nl[i]? with
        | none => rw [hq] at hd; cases hd
        | some a =>
          rw [hq] at hd
          cases hd
          refine ⟨_, rfl, ?_⟩
          dsimp only [wipeD]
          unfold mSl moPart moNone
          walk_at "nwp"
          rw [cutD_first]
          walk_at "nwp"
          rw [show ∀ μ, fIn true (.str "*") (tupN (a.drop 1)) μ = .ok (.bl (starless (tupN a))) μ from fun μ => by
            show fIn true (.str "*") (.tup ((a.drop 1).map .str)) μ = .ok (.bl (!((a.map Dat.str).drop 1).any isStarD)) μ
            rw [fNotIn_star, List.map_drop]]
          walk_at "nwp"
          exact ⟨g2, rfl, fun _ => ⟨g2, rfl⟩⟩
      · have ef : ((nl.map tupN).filter starless).map (fun d => d) = (nl.filter fun a => starless (tupN a)).map tupN := by
          rw [List.map_id', List.filter_map]
          rfl
        rw [ef]
        obtain ⟨h0, r, rfl, _, _⟩ := h
        have hlen : (nl.filter fun a => starless (tupN a)).length ≤ 12 := Nat.le_trans (List.length_filter_le _ _) (by omega)
        have hNm : ∀ a ∈ nl.filter fun a => starless (tupN a), isNameS a = true := fun a ha => by
          obtain ⟨z1, z2⟩ := List.mem_filter.mp ha
          exact starless_name (hN a z1) z2
        have h66 : ∀ a ∈ nl.filter fun a => starless (tupN a), a.length ≤ 6 := fun a ha => (hN a (List.mem_filter.mp ha).1).1
        have fin := fun (P : Ps) (hP : ∀ μ, P.rt (.bl true) μ) => rest_b (P := P) hP (ns := ns) (k := k) (k3 := (D ns k :: r).length) (nm := nl.filter fun a => starless (tupN a)) (μ := (D ns k :: r) ++ (.lst ((nl.filter fun a => starless (tupN a)).map tupN) :: g2)) (q := some (.ro ns)) (x2 := some (.cell (jj + 1))) (x4 := x4) (x5 := x5) (x6 := x6) (x7 := x7) (x8 := x8) (x9 := x9) (x10 := x10) (x11 := x11) (x12 := x12) (x13 := x13) ⟨_, rfl⟩ (by simp) getElem?_mid (by omega) hlen hNm h66
        first
        | exact fin _ (fun _ => rfl)
        | (simp only [wps_seq] at fin; exact fin _ (fun _ => rfl))
theorem law_true : ∀ ns : List Int, ns.length ≤ 63 → ∃ μ, f_law [.ro ns] [] = .ok (.bl true) μ := by
  intro ns _
  have h := law_wp ns
  cases e : f_law [.ro ns] [] with
  | ok d μ =>
    rw [e] at h
    have h' : d = .bl true := h
    rw [h']
    exact ⟨μ, rfl⟩
  | raise n μ => rw [e] at h; exact h.elim
  | stuck => rw [e] at h; exact h.elim
end Nh

namespace Nh
open PySem PySem.Spec PyProof.Rows L2
def topS (i : Nat) : Stmt := PySem.Challenge.pw_namehouse_k02_names_in_order.main.body.getD i (.Pass ⟨0, 0, 0, 0⟩)
abbrev s_is_label : Stmt := topS 8
theorem sc_is_label : FnScope ["thing", "sign"] ["thing"] (defScope s_is_label) := ⟨rfl, rfl, rfl, by decide +kernel, rfl, by decide +kernel, by decide +kernel⟩
abbrev s_is_name : Stmt := topS 9
theorem sc_is_name : FnScope ["thing", "label"] ["thing"] (defScope s_is_name) := ⟨rfl, rfl, rfl, by decide +kernel, rfl, by decide +kernel, by decide +kernel⟩
abbrev s_name_rank : Stmt := topS 11
theorem sc_name_rank : FnScope ["name"] ["name"] (defScope s_name_rank) := ⟨rfl, rfl, rfl, by decide +kernel, rfl, by decide +kernel, by decide +kernel⟩
abbrev s_ordered_names : Stmt := topS 10
theorem sc_ordered_names : FnScope ["names", "name"] ["names"] (defScope s_ordered_names) := ⟨rfl, rfl, rfl, by decide +kernel, rfl, by decide +kernel, by decide +kernel⟩
abbrev s__law_cell_at : Stmt := topS 13
theorem sc__law_cell_at : FnScope ["_law_script", "_law_k"] ["_law_script", "_law_k"] (defScope s__law_cell_at) := ⟨rfl, rfl, rfl, by decide +kernel, rfl, by decide +kernel, by decide +kernel⟩
abbrev s__law_next : Stmt := topS 14
theorem sc__law_next : FnScope ["_law_state", "_law_k", "_law_cell"] ["_law_state"] (defScope s__law_next) := ⟨rfl, rfl, rfl, by decide +kernel, rfl, by decide +kernel, by decide +kernel⟩
abbrev s__law_signs : Stmt := topS 16
theorem sc__law_signs : FnScope [] [] (defScope s__law_signs) := ⟨rfl, rfl, rfl, by decide +kernel, rfl, by decide +kernel, by decide +kernel⟩
abbrev s__law_label : Stmt := topS 17
theorem sc__law_label : FnScope ["_law_number", "_law_size", "_law_signs_here", "_law_k"] ["_law_number", "_law_size"] (defScope s__law_label) := ⟨rfl, rfl, rfl, by decide +kernel, rfl, by decide +kernel, by decide +kernel⟩
abbrev s__law_labels : Stmt := topS 18
theorem sc__law_labels : FnScope ["_law_state", "_law_base", "_law_found", "_law_turn", "_law_number", "_law_size", "_law_at", "_law_sign"] ["_law_state"] (defScope s__law_labels) := ⟨rfl, rfl, rfl, by decide +kernel, rfl, by decide +kernel, by decide +kernel⟩
abbrev s__law_name : Stmt := topS 19
theorem sc__law_name : FnScope ["_law_state", "_law_labels_here", "_law_number", "_law_many", "_law_found", "_law_turn"] ["_law_state", "_law_labels_here"] (defScope s__law_name) := ⟨rfl, rfl, rfl, by decide +kernel, rfl, by decide +kernel, by decide +kernel⟩
abbrev s__law_before : Stmt := topS 25
theorem sc__law_before : FnScope ["_law_one", "_law_other", "_law_k"] ["_law_one", "_law_other"] (defScope s__law_before) := ⟨rfl, rfl, rfl, by decide +kernel, rfl, by decide +kernel, by decide +kernel⟩
abbrev s__law_sorted : Stmt := topS 26
theorem sc__law_sorted : FnScope ["_law_names", "_law_found", "_law_name_here", "_law_at"] ["_law_names"] (defScope s__law_sorted) := ⟨rfl, rfl, rfl, by decide +kernel, rfl, by decide +kernel, by decide +kernel⟩
abbrev s__law_refused : Stmt := topS 27
theorem sc__law_refused : FnScope ["_law_things", "_law_caught", "e"] ["_law_things"] (defScope s__law_refused) := ⟨rfl, rfl, rfl, by decide +kernel, rfl, by decide +kernel, by decide +kernel⟩
abbrev s_law : Stmt := topS 28
theorem sc_law : FnScope ["_law_script", "_law_state", "_law_labels_here", "_law_names", "_law_turn", "_law_number", "_law_tail", "_law_due", "_law_handed", "_law_found", "_law_odd", "_law_at", "_law_thing", "_law_name_here"] ["_law_script"] (defScope s_law) := ⟨rfl, rfl, rfl, by decide +kernel, rfl, by decide +kernel, by decide +kernel⟩
structure Txt (K : PySem.W.Frag) (mg : Str → Option Value) where
  n_ValueError : mg "ValueError" = none
  n_all : mg "all" = none
  n_isinstance : mg "isinstance" = none
  n_len : mg "len" = none
  n_list : mg "list" = none
  n_max : mg "max" = none
  n_range : mg "range" = none
  n_sorted : mg "sorted" = none
  n_str : mg "str" = none
  n_tuple : mg "tuple" = none
  t_LABEL_SIGNS : Tok
  c_LABEL_SIGNS : mg "LABEL_SIGNS" = some (.str "abcdefghijklmnopqrstuvwxyz0123456789-*" t_LABEL_SIGNS)
  t_MOST_LABELS : Tok
  c_MOST_LABELS : mg "MOST_LABELS" = some (.int 6 t_MOST_LABELS)
  t_MOST_SIGNS : Tok
  c_MOST_SIGNS : mg "MOST_SIGNS" = some (.int 8 t_MOST_SIGNS)
  t_STAR : Tok
  c_STAR : mg "STAR" = some (.str "*" t_STAR)
  C_HouseError : Addr
  C_BadName : Addr
  g_HouseError : mg "HouseError" = some (.ref C_HouseError)
  g_BadName : mg "BadName" = some (.ref C_BadName)
  x_BadName : PySem.W.excIn K C_BadName [.type "ValueError", .type "Exception", .type "BaseException", .type "object"] "ValueError.__new__" = true
  k_BadName : PySem.W.keepIn K (.ref C_BadName) = true
  s_BadName : PySem.W.subIn K (.ref C_BadName) (.type "BaseException") = some true
  t_BadName : PySem.W.typeIn K (.ref C_BadName) = some (.type "type")
  f_is_label : Addr
  fd_is_label : FuncData
  F_is_label : Fun K "is_label" "is_label" s_is_label f_is_label fd_is_label
  b_is_label : Binds K fd_is_label ["thing"] []
  g_is_label : mg "is_label" = some (.ref f_is_label)
  f_is_name : Addr
  fd_is_name : FuncData
  F_is_name : Fun K "is_name" "is_name" s_is_name f_is_name fd_is_name
  b_is_name : Binds K fd_is_name ["thing"] []
  g_is_name : mg "is_name" = some (.ref f_is_name)
  f_name_rank : Addr
  fd_name_rank : FuncData
  F_name_rank : Fun K "name_rank" "name_rank" s_name_rank f_name_rank fd_name_rank
  b_name_rank : Binds K fd_name_rank ["name"] []
  g_name_rank : mg "name_rank" = some (.ref f_name_rank)
  f_ordered_names : Addr
  fd_ordered_names : FuncData
  F_ordered_names : Fun K "ordered_names" "ordered_names" s_ordered_names f_ordered_names fd_ordered_names
  b_ordered_names : Binds K fd_ordered_names ["names"] []
  g_ordered_names : mg "ordered_names" = some (.ref f_ordered_names)
  f__law_cell_at : Addr
  fd__law_cell_at : FuncData
  F__law_cell_at : Fun K "_law_cell_at" "_law_cell_at" s__law_cell_at f__law_cell_at fd__law_cell_at
  b__law_cell_at : Binds K fd__law_cell_at ["_law_script", "_law_k"] []
  g__law_cell_at : mg "_law_cell_at" = some (.ref f__law_cell_at)
  f__law_next : Addr
  fd__law_next : FuncData
  F__law_next : Fun K "_law_next" "_law_next" s__law_next f__law_next fd__law_next
  b__law_next : Binds K fd__law_next ["_law_state"] []
  g__law_next : mg "_law_next" = some (.ref f__law_next)
  f__law_signs : Addr
  fd__law_signs : FuncData
  F__law_signs : Fun K "_law_signs" "_law_signs" s__law_signs f__law_signs fd__law_signs
  b__law_signs : Binds K fd__law_signs [] []
  g__law_signs : mg "_law_signs" = some (.ref f__law_signs)
  f__law_label : Addr
  fd__law_label : FuncData
  F__law_label : Fun K "_law_label" "_law_label" s__law_label f__law_label fd__law_label
  b__law_label : Binds K fd__law_label ["_law_number", "_law_size"] []
  g__law_label : mg "_law_label" = some (.ref f__law_label)
  f__law_labels : Addr
  fd__law_labels : FuncData
  F__law_labels : Fun K "_law_labels" "_law_labels" s__law_labels f__law_labels fd__law_labels
  b__law_labels : Binds K fd__law_labels ["_law_state"] []
  g__law_labels : mg "_law_labels" = some (.ref f__law_labels)
  f__law_name : Addr
  fd__law_name : FuncData
  F__law_name : Fun K "_law_name" "_law_name" s__law_name f__law_name fd__law_name
  b__law_name : Binds K fd__law_name ["_law_state", "_law_labels_here"] []
  g__law_name : mg "_law_name" = some (.ref f__law_name)
  f__law_before : Addr
  fd__law_before : FuncData
  F__law_before : Fun K "_law_before" "_law_before" s__law_before f__law_before fd__law_before
  b__law_before : Binds K fd__law_before ["_law_one", "_law_other"] []
  g__law_before : mg "_law_before" = some (.ref f__law_before)
  f__law_sorted : Addr
  fd__law_sorted : FuncData
  F__law_sorted : Fun K "_law_sorted" "_law_sorted" s__law_sorted f__law_sorted fd__law_sorted
  b__law_sorted : Binds K fd__law_sorted ["_law_names"] []
  g__law_sorted : mg "_law_sorted" = some (.ref f__law_sorted)
  f__law_refused : Addr
  fd__law_refused : FuncData
  F__law_refused : Fun K "_law_refused" "_law_refused" s__law_refused f__law_refused fd__law_refused
  b__law_refused : Binds K fd__law_refused ["_law_things"] []
  g__law_refused : mg "_law_refused" = some (.ref f__law_refused)
  f_law : Addr
  fd_law : FuncData
  F_law : Fun K "law" "law" s_law f_law fd_law
  b_law : Binds K fd_law ["_law_script"] []
  g_law : mg "law" = some (.ref f_law)
  ki_BadName_BadName : PySem.W.kitOne K (.ref C_BadName) (.ref C_BadName) = some true
  ke_BadName_BadName : PySem.W.exmOne K (.ref C_BadName) (.ref C_BadName) = some true
  ki_BadName_HouseError : PySem.W.kitOne K (.ref C_BadName) (.ref C_HouseError) = some true
  ke_BadName_HouseError : PySem.W.exmOne K (.ref C_BadName) (.ref C_HouseError) = some true
  kv_BadName : PySem.W.kitOne K (.ref C_BadName) (.type "ValueError") = some true
  ec_BadName : ExcC K C_BadName
section
variable {K : PySem.W.Frag} {mg : Str → Option Value}
def Txt.cfg (T : Txt K mg) : Cfg := ⟨K, fun n => match n with
  | 0 => T.C_HouseError
  | 1 => T.C_BadName
  | _ => T.C_HouseError⟩
theorem Txt.tabOk (T : Txt K mg) : TabOk T.cfg tab := by
  refine ⟨fun n m b h => ?_, fun n m b h => ?_, (fun n m b h => nomatch h), fun n h => ?_⟩
  · unfold tab at h
    dsimp only at h
    split at h <;> first | (cases h; first | exact T.ki_BadName_BadName | exact T.ki_BadName_HouseError) | cases h
  · unfold tab at h
    dsimp only at h
    split at h
    all_goals first | (split at h <;> first | (cases h; rename_i e; subst e; first | exact T.kv_BadName) | cases h) | cases h
  · by_cases h_BadName : n = 1
    · subst h_BadName
      exact T.ec_BadName
    exfalso
    unfold tab at h
    dsimp only at h
    split at h <;> simp_all
theorem Txt.exm_BadName (T : Txt K mg) : ∀ n k, tab.sub n 1 = some k → PySem.W.exmOne T.cfg.K (.ref (T.cfg.cl n)) (.ref (T.cfg.cl 1)) = some k := by
  intro n k h
  unfold tab at h
  dsimp only at h
  split at h <;> first | (cases h; first | exact T.ke_BadName_BadName) | (rename_i e; cases e) | (rename_i e _; cases e) | (rename_i _ e; cases e) | cases h
theorem Txt.exm_HouseError (T : Txt K mg) : ∀ n k, tab.sub n 0 = some k → PySem.W.exmOne T.cfg.K (.ref (T.cfg.cl n)) (.ref (T.cfg.cl 0)) = some k := by
  intro n k h
  unfold tab at h
  dsimp only at h
  split at h <;> first | (cases h; first | exact T.ke_BadName_HouseError) | (rename_i e; cases e) | (rename_i e _; cases e) | (rename_i _ e; cases e) | cases h
end
section
variable {P : Program} {w : World} {K : PySem.W.Frag} {mg : Str → Option Value} {base : Heap}
theorem ok_is_label (T : Txt K mg) : FnOk P w K mg base CX0 1 T.f_is_label T.fd_is_label ["thing"] (spM T.cfg 1 f_is_label) :=
  fn_sim0 T.F_is_label sc_is_label rfl (fun cdv A outer s H E hr => ⟨_, (pss_cons (ps_if (PW.pt (pw_or (pt_not (pt_val (pe_callB call_isA (by rfl) T.n_isinstance (by decide +kernel) (pa_cons (pv 0) (pa_cons (pe_bltn (v := .ty "str") rfl T.n_str (by decide +kernel) rfl (by decide)) pa_nil))))) (pw_or1 (pt_not (pt_chain op_le op_le pe_int (pe_callB call_len (by rfl) T.n_len (by decide +kernel) (pa_cons (pv 0) pa_nil)) (pe_glob (v := .int 8) rfl T.c_MOST_SIGNS ⟨_, rfl⟩)))))) (pss_one (ps_ret pe_bl)) pss_nil)
  (pss_cons (ps_if (pt_cmpR op_in_sign (pe_glob (v := .str "*") rfl T.c_STAR ⟨_, rfl⟩) (pv 0) (by rfl)) (pss_one (ps_ret (pe_cmpR op_eq (pv 0) (pe_glob (v := .str "*") rfl T.c_STAR ⟨_, rfl⟩) (nomark _)))) pss_nil)
  (pss_one (ps_ret (pe_callB (cr_all rfl) (by rfl) T.n_all (by decide +kernel) (pa_cons (pe_lc (own := [("sign", 1)]) (g := gName 1) rfl sc_is_label.nd (pi_str (pv 0)) (blkOk_by (N := ["thing", "sign"]) (sc := defScope s_is_label) (by decide +kernel)) (fun _ _ _ _ _ => pg_name (i := 1) sc_is_label.nd rfl (Or.inl rfl)) (fun _ _ _ _ _ => pts_nil) (fun _ _ _ _ _ => pe_cmpR op_in_sign (pv 1) (pe_glob (v := .str "abcdefghijklmnopqrstuvwxyz0123456789-*") rfl T.c_LABEL_SIGNS ⟨_, rfl⟩) (by rfl))) pa_nil)))))),
  (sims_seq (sims_if (sim_tOr (sim_tNot (sim_tB (sim_cb (simc_isA T.tabOk) (sim_cons (sim_var 0) (sim_cons (sim_ty _) sim_nil))))) (sim_tNot (sim_tTest (sim_chain simr_le simr_le (sim_int _) (sim_cb simc_len (sim_cons (sim_var 0) sim_nil)) (sim_int _))))) (sims_ret (sim_bl _)) sims_next)
  (sims_seq (sims_if (sim_tTest (sim_op simr_inSign (sim_str _) (sim_var 0))) (sims_ret (sim_op simr_eq (sim_var 0) (sim_str _))) sims_next)
  (sims_ret (sim_cb simc_all (sim_cons (sim_lc (simi_str (sim_var 0)) (simg_name 1) (gw_name (by simp)) sim_yes (sim_op simr_inSign (sim_var 1) (sim_str _))) sim_nil)))))⟩)
theorem ok_is_name (T : Txt K mg) : FnOk P w K mg base CX0 2 T.f_is_name T.fd_is_name ["thing"] (spM T.cfg 1 f_is_name) :=
  fn_sim0 T.F_is_name sc_is_name rfl (fun cdv A outer s H E hr => ⟨_, (pss_cons (ps_if (PW.pt (pw_or (pt_not (pt_val (pe_callB call_isA (by rfl) T.n_isinstance (by decide +kernel) (pa_cons (pv 0) (pa_cons (pe_bltn (v := .ty "tuple") rfl T.n_tuple (by decide +kernel) rfl (by decide)) pa_nil))))) (pw_or1 (pt_cmpR op_gt (pe_callB call_len_seq (by rfl) T.n_len (by decide +kernel) (pa_cons (pv 0) pa_nil)) (pe_glob (v := .int 6) rfl T.c_MOST_LABELS ⟨_, rfl⟩) (nomark _))))) (pss_one (ps_ret pe_bl)) pss_nil)
  (pss_one (ps_ret (pe_and (pe_callB (cr_all rfl) (by rfl) T.n_all (by decide +kernel) (pa_cons (pe_lc (own := [("label", 1)]) (g := gName 1) rfl sc_is_name.nd (pi_tup (pv 0)) (blkOk_by (N := ["thing", "label"]) (sc := defScope s_is_name) (by decide +kernel)) (fun _ _ _ _ _ => pg_name (i := 1) sc_is_name.nd rfl (Or.inl rfl)) (fun _ _ _ _ _ => pts_nil) (fun _ _ _ _ _ => pe_call (ok_is_label T) (hr.mono (by decide)) (by rfl) T.g_is_label T.F_is_label.kp T.b_is_label .nil pass0 (pa_cons (pv 1) pa_nil))) pa_nil)) (pe_one (pe_cmpR op_notIn_seq (pe_glob (v := .str "*") rfl T.c_STAR ⟨_, rfl⟩) (pe_slice sl_tupA (pv 0) (po_some pe_int) po_none) (by rfl))))))),
  (sims_seq (sims_if (sim_tOr (sim_tNot (sim_tB (sim_cb (simc_isA T.tabOk) (sim_cons (sim_var 0) (sim_cons (sim_ty _) sim_nil))))) (sim_tTest (sim_op simr_gt (sim_cb simc_lenQ (sim_cons (sim_var 0) sim_nil)) (sim_int _)))) (sims_ret (sim_bl _)) sims_next)
  (sims_ret (sim_and (sim_cb simc_all (sim_cons (sim_lc (simi_tup (sim_var 0)) (simg_name 1) (gw_name (by simp)) sim_yes (sim_call0 (sim_cons (sim_var 1) sim_nil))) sim_nil)) (sim_op (simr_in true) (sim_str _) (sim_sl sims_tup (sim_var 0) (sim_part (sim_int _)) sim_noPart)))))⟩)
theorem ok_name_rank (T : Txt K mg) : FnOk P w K mg base CX0 1 T.f_name_rank T.fd_name_rank ["name"] (spM T.cfg 1 f_name_rank) :=
  fn_sim0 T.F_name_rank sc_name_rank rfl (fun cdv A outer s H E hr => ⟨_, (pss_one (ps_ret (pe_back back_tup (pv 0) (po_some (pe_un un_neg pe_int))))),
  (sims_ret (sim_back simb_backT (sim_var 0) (sim_part (sim_neg (sim_int _)))))⟩)
theorem ok_ordered_names (T : Txt K mg) : FnOk P w K mg base (L2.CX P w) 3 T.f_ordered_names T.fd_ordered_names ["names"] (spM T.cfg 1 f_ordered_names) :=
  fn_simX T.F_ordered_names sc_ordered_names rfl (fun cdv A outer s H E hr => ⟨_, (pss_cons (ps_if (PW.pt (pw_or (pt_not (pt_val (pe_callB call_isA (by rfl) T.n_isinstance (by decide +kernel) (pa_cons (pv 0) (pa_cons (pe_bltn (v := .ty "list") rfl T.n_list (by decide +kernel) rfl (by decide)) pa_nil))))) (pw_or1 (pt_not (pt_val (pe_callB (cr_all rfl) (by rfl) T.n_all (by decide +kernel) (pa_cons (pe_lc (own := [("name", 1)]) (g := gName 1) rfl sc_ordered_names.nd (pi_list (pv 0)) (blkOk_by (N := ["names", "name"]) (sc := defScope s_ordered_names) (by decide +kernel)) (fun _ _ _ _ _ => pg_name (i := 1) sc_ordered_names.nd rfl (Or.inl rfl)) (fun _ _ _ _ _ => pts_nil) (fun _ _ _ _ _ => pe_call (ok_is_name T) (hr.mono (by decide)) (by rfl) T.g_is_name T.F_is_name.kp T.b_is_name .nil pass0 (pa_cons (pv 1) pa_nil))) pa_nil))))))) (pss_one (ps_raise rfl (takes_of rfl rfl rfl rfl) (pmk_own PySem.F.excBase_ValueError T.x_BadName T.g_BadName T.k_BadName (raises_own T.s_BadName T.t_BadName) rfl))) pss_nil)
  (pss_one (ps_ret (pe_callBK (cr_sortKey (ok_name_rank T) (room_in (hr.mono (by decide))) T.b_name_rank) (by rfl) T.n_sorted (by decide +kernel) (pa_cons (pv 0) pa_nil) (pk_cons (pe_glob (v := .ref T.f_name_rank) rfl T.g_name_rank rfl) pk_nil))))),
  (sims_seq (sims_if (sim_tOr (sim_tNot (sim_tB (sim_cb (simc_isA T.tabOk) (sim_cons (sim_var 0) (sim_cons (sim_ty _) sim_nil))))) (sim_tNot (sim_tB (sim_cb simc_all (sim_cons (sim_lc (simi_list (sim_var 0)) (simg_name 1) (gw_name (by simp)) sim_yes (sim_call0 (sim_cons (sim_var 1) sim_nil))) sim_nil))))) (sims_raise 1) sims_next)
  (sims_ret (sim_sortKey (fm := runB 1 b_name_rank) (sim_cons (sim_var 0) sim_nil))))⟩)
theorem ok__law_cell_at (T : Txt K mg) : FnOk P w K mg base CX0 1 T.f__law_cell_at T.fd__law_cell_at ["_law_script", "_law_k"] (spM T.cfg 2 f__law_cell_at) :=
  fn_sim0 T.F__law_cell_at sc__law_cell_at rfl (fun cdv A outer s H E hr => ⟨_, (pss_cons (ps_if (pt_cmpR op_lt (pv 1) (pe_callB call_len_seq (by rfl) T.n_len (by decide +kernel) (pa_cons (pv 0) pa_nil)) (nomark _)) (pss_one (ps_ret (pe_ix ix_list (pv 0) (pv 1) (fun _ _ => rfl)))) pss_nil)
  (pss_one (ps_ret pe_int))),
  (sims_seq (sims_if (sim_tTest (sim_op simr_lt (sim_var 1) (sim_cb simc_lenQ (sim_cons (sim_var 0) sim_nil)))) (sims_ret (sim_op simr_ixL (sim_var 0) (sim_var 1))) sims_next)
  (sims_ret (sim_int _)))⟩)
theorem ok__law_next (T : Txt K mg) : FnOk P w K mg base CX0 2 T.f__law_next T.fd__law_next ["_law_state"] (spM T.cfg 1 f__law_next) :=
  fn_sim0 T.F__law_next sc__law_next rfl (fun cdv A outer s H E hr => ⟨_, (pss_cons (ps_dput (hu_of hr) (pv 0) pe_str (pe_op op_add (pe_dget (hu_of hr) (pv 0) pe_str (fun _ _ => rfl)) pe_int) rfl)
  (pss_cons (ps_set (i := 1) sc__law_next.nd rfl (Or.inl rfl) (pe_dget (hu_of hr) (pv 0) pe_str (fun _ _ => rfl)))
  (pss_cons (ps_set (i := 2) sc__law_next.nd rfl (Or.inl rfl) (pe_call (ok__law_cell_at T) (hr.mono (by decide)) (by rfl) T.g__law_cell_at T.F__law_cell_at.kp T.b__law_cell_at .nil pass0 (pa_cons (pe_dget (hu_of hr) (pv 0) pe_str (fun _ _ => rfl)) (pa_cons (pe_op op_mod (pv 1) (pe_callB (call_max2 rfl) (by rfl) T.n_max (by decide +kernel) (pa_cons pe_int (pa_cons (pe_callB call_len_seq (by rfl) T.n_len (by decide +kernel) (pa_cons (pe_dget (hu_of hr) (pv 0) pe_str (fun _ _ => rfl)) pa_nil)) pa_nil)))) pa_nil))))
  (pss_one (ps_ret (pe_op op_fdiv (pe_op op_mod (pe_op op_add (pe_op op_mul (pv 2) pe_int) (pe_op op_mul (pe_op op_mul (pv 1) (pv 1)) pe_int)) pe_int) pe_int)))))),
  (sims_seq (sims_dput (sim_var 0) (sim_str _) (sim_op simr_add (sim_dget (sim_var 0) (sim_str _)) (sim_int _)))
  (sims_seq (sims_asg (sim_dget (sim_var 0) (sim_str _)) (simg_name 1))
  (sims_seq (sims_asg (sim_call0 (sim_cons (sim_dget (sim_var 0) (sim_str _)) (sim_cons (sim_op simr_mod (sim_var 1) (sim_cb simc_max2 (sim_cons (sim_int _) (sim_cons (sim_cb simc_lenQ (sim_cons (sim_dget (sim_var 0) (sim_str _)) sim_nil)) sim_nil)))) sim_nil))) (simg_name 2))
  (sims_ret (sim_op simr_fdiv (sim_op simr_mod (sim_op simr_add (sim_op simr_mul (sim_var 2) (sim_int _)) (sim_op simr_mul (sim_op simr_mul (sim_var 1) (sim_var 1)) (sim_int _))) (sim_int _)) (sim_int _))))))⟩)
theorem ok__law_signs (T : Txt K mg) : FnOk P w K mg base CX0 1 T.f__law_signs T.fd__law_signs [] (spM T.cfg 0 f__law_signs) :=
  fn_sim0 T.F__law_signs sc__law_signs rfl (fun cdv A outer s H E hr => ⟨_, (pss_one (ps_ret pe_str)),
  (sims_ret (sim_str _))⟩)
theorem ok__law_label (T : Txt K mg) : FnOk P w K mg base CX0 2 T.f__law_label T.fd__law_label ["_law_number", "_law_size"] (spM T.cfg 2 f__law_label) :=
  fn_sim0 T.F__law_label sc__law_label rfl (fun cdv A outer s H E hr => ⟨_, (pss_cons (ps_set (i := 2) sc__law_label.nd rfl (Or.inr rfl) (pe_call0 (ok__law_signs T) (hr.mono (by decide)) (by rfl) T.g__law_signs T.F__law_signs.kp T.b__law_signs .nil pass0))
  (pss_one (ps_ret (pe_join pe_str (pe_lc (own := [("_law_k", 3)]) (g := gName 3) rfl sc__law_label.nd (pi_range1 rfl T.n_range (pa_cons (pv 1) pa_nil)) (blkOk_by (N := ["_law_number", "_law_size", "_law_signs_here", "_law_k"]) (sc := defScope s__law_label) (by decide +kernel)) (fun _ _ _ _ _ => pg_name (i := 3) sc__law_label.nd rfl (Or.inl rfl)) (fun _ _ _ _ _ => pts_nil) (fun _ _ _ _ _ => pe_ix ix_str (pv 2) (pe_op op_mod (pe_op op_add (pe_op op_add (pe_op op_fdiv (pv 0) pe_int) (pe_op op_mul (pe_op op_mul pe_int (pv 3)) (pv 3))) (pe_op op_mul pe_int (pv 3))) pe_int) (fun _ _ => rfl))))))),
  (sims_seq (sims_asg (sim_call0 sim_nil) (simg_name 2))
  (sims_ret (sim_m1 simm_join (sim_str _) (sim_lc (simi_range1 (sim_cons (sim_var 1) sim_nil)) (simg_name 3) (gw_name (by simp)) sim_yes (sim_op simr_ixS (sim_var 2) (sim_op simr_mod (sim_op simr_add (sim_op simr_add (sim_op simr_fdiv (sim_var 0) (sim_int _)) (sim_op simr_mul (sim_op simr_mul (sim_int _) (sim_var 3)) (sim_var 3))) (sim_op simr_mul (sim_int _) (sim_var 3))) (sim_int _)))))))⟩)
theorem ok__law_labels (T : Txt K mg) : FnOk P w K mg base CX0 3 T.f__law_labels T.fd__law_labels ["_law_state"] (spM T.cfg 1 f__law_labels) :=
  fn_sim0 T.F__law_labels sc__law_labels rfl (fun cdv A outer s H E hr => ⟨_, (pss_cons (ps_set (i := 1) sc__law_labels.nd rfl (Or.inl rfl) (pe_call (ok__law_label T) (hr.mono (by decide)) (by rfl) T.g__law_label T.F__law_label.kp T.b__law_label .nil pass0 (pa_cons (pe_call (ok__law_next T) (hr.mono (by decide)) (by rfl) T.g__law_next T.F__law_next.kp T.b__law_next .nil pass0 (pa_cons (pv 0) pa_nil)) (pa_cons pe_int pa_nil))))
  (pss_cons (ps_set (i := 2) sc__law_labels.nd rfl (Or.inl rfl) (pe_lst pa_nil))
  (pss_cons (ps_for PassesOwn.never rfl (pi_range1 rfl T.n_range (pa_cons pe_int pa_nil)) (pg_name (i := 3) sc__law_labels.nd rfl (Or.inl rfl)) (pss_cons (ps_set (i := 4) sc__law_labels.nd rfl (Or.inl rfl) (pe_call (ok__law_next T) (hr.mono (by decide)) (by rfl) T.g__law_next T.F__law_next.kp T.b__law_next .nil pass0 (pa_cons (pv 0) pa_nil)))
  (pss_cons (ps_set (i := 5) sc__law_labels.nd rfl (Or.inl rfl) (pe_ix ix_list (pe_lst (pa_cons pe_int (pa_cons pe_int (pa_cons (pe_op op_add pe_int (pe_op op_mod (pe_op op_fdiv (pv 4) pe_int) pe_int)) (pa_cons pe_int (pa_cons pe_int pa_nil)))))) (pe_op op_mod (pv 4) pe_int) (fun _ _ => rfl)))
  (pss_cons (ps_set (i := 6) sc__law_labels.nd rfl (Or.inl rfl) (pe_op op_mod (pe_op op_fdiv (pv 4) pe_int) (pv 5)))
  (pss_cons (ps_set (i := 7) sc__law_labels.nd rfl (Or.inl rfl) (pe_ix ix_str (pe_call0 (ok__law_signs T) (hr.mono (by decide)) (by rfl) T.g__law_signs T.F__law_signs.kp T.b__law_signs .nil pass0) (pe_op op_mod (pe_op op_fdiv (pv 4) pe_int) pe_int) (fun _ _ => rfl)))
  (pss_one (ps_expr (pe_bm PySem.F.plainAttrs_list PySem.F.slot_list_append PySem.F.type_list_append mt_append (pv 2) (pa_cons (pe_op op_add_str (pe_op op_add_str (pe_slice sl_str (pv 1) po_none (po_some (pv 6))) (pv 7)) (pe_slice sl_str (pv 1) (po_some (pe_op op_add (pv 6) pe_int)) (po_some (pv 5)))) pa_nil)))))))))
  (pss_cons (ps_set (i := 4) sc__law_labels.nd rfl (Or.inl rfl) (pe_call (ok__law_next T) (hr.mono (by decide)) (by rfl) T.g__law_next T.F__law_next.kp T.b__law_next .nil pass0 (pa_cons (pv 0) pa_nil)))
  (pss_cons (ps_set (i := 7) sc__law_labels.nd rfl (Or.inl rfl) (pe_ix ix_str (pe_call0 (ok__law_signs T) (hr.mono (by decide)) (by rfl) T.g__law_signs T.F__law_signs.kp T.b__law_signs .nil pass0) (pe_op op_mod (pe_op op_fdiv (pv 4) pe_int) pe_int) (fun _ _ => rfl)))
  (pss_cons (ps_expr (pe_bm PySem.F.plainAttrs_list PySem.F.slot_list_append PySem.F.type_list_append mt_append (pv 2) (pa_cons (pe_ifExp (pt_cmpR op_lt (pe_callB call_len (by rfl) T.n_len (by decide +kernel) (pa_cons (pe_ix ix_list (pv 2) pe_int (fun _ _ => rfl)) pa_nil)) pe_int (nomark _)) (pe_slice sl_str (pe_op op_add_str (pv 7) (pe_ix ix_list (pv 2) pe_int (fun _ _ => rfl))) po_none (po_some pe_int)) (pe_slice sl_str (pe_ix ix_list (pv 2) pe_int (fun _ _ => rfl)) (po_some pe_int) po_none)) pa_nil)))
  (pss_one (ps_ret (pe_op op_cat (pv 2) (pe_lst (pa_cons (pe_op op_add_str (pe_op op_add_str (pe_slice sl_str (pe_ix ix_list (pv 2) (pe_op op_mod (pv 4) pe_int) (fun _ _ => rfl)) po_none (po_some pe_int)) pe_str) (pe_op op_mulS (pv 7) (pe_op op_mod (pe_op op_fdiv (pv 4) pe_int) pe_int))) pa_nil))))))))))),
  (sims_seq (sims_asg (sim_call0 (sim_cons (sim_call0 (sim_cons (sim_var 0) sim_nil)) (sim_cons (sim_int _) sim_nil))) (simg_name 1))
  (sims_seq (sims_asg (sim_lst sim_nil) (simg_name 2))
  (sims_seq (sims_for (simi_range1 (sim_cons (sim_int _) sim_nil)) (simg_name 3) (sims_seq (sims_asg (sim_call0 (sim_cons (sim_var 0) sim_nil)) (simg_name 4))
  (sims_seq (sims_asg (sim_op simr_ixL (sim_lst (sim_cons (sim_int _) (sim_cons (sim_int _) (sim_cons (sim_op simr_add (sim_int _) (sim_op simr_mod (sim_op simr_fdiv (sim_var 4) (sim_int _)) (sim_int _))) (sim_cons (sim_int _) (sim_cons (sim_int _) sim_nil)))))) (sim_op simr_mod (sim_var 4) (sim_int _))) (simg_name 5))
  (sims_seq (sims_asg (sim_op simr_mod (sim_op simr_fdiv (sim_var 4) (sim_int _)) (sim_var 5)) (simg_name 6))
  (sims_seq (sims_asg (sim_op simr_ixS (sim_call0 sim_nil) (sim_op simr_mod (sim_op simr_fdiv (sim_var 4) (sim_int _)) (sim_int _))) (simg_name 7))
  (sims_drop (sim_bm simb_append (sim_var 2) (sim_cons (sim_op simr_addS (sim_op simr_addS (sim_sl sims_str (sim_var 1) sim_noPart (sim_part (sim_var 6))) (sim_var 7)) (sim_sl sims_str (sim_var 1) (sim_part (sim_op simr_add (sim_var 6) (sim_int _))) (sim_part (sim_var 5)))) sim_nil))))))))
  (sims_seq (sims_asg (sim_call0 (sim_cons (sim_var 0) sim_nil)) (simg_name 4))
  (sims_seq (sims_asg (sim_op simr_ixS (sim_call0 sim_nil) (sim_op simr_mod (sim_op simr_fdiv (sim_var 4) (sim_int _)) (sim_int _))) (simg_name 7))
  (sims_seq (sims_drop (sim_bm simb_append (sim_var 2) (sim_cons (sim_if (sim_tTest (sim_op simr_lt (sim_cb simc_len (sim_cons (sim_op simr_ixL (sim_var 2) (sim_int _)) sim_nil)) (sim_int _))) (sim_sl sims_str (sim_op simr_addS (sim_var 7) (sim_op simr_ixL (sim_var 2) (sim_int _))) sim_noPart (sim_part (sim_int _))) (sim_sl sims_str (sim_op simr_ixL (sim_var 2) (sim_int _)) (sim_part (sim_int _)) sim_noPart)) sim_nil)))
  (sims_ret (sim_op simr_cat (sim_var 2) (sim_lst (sim_cons (sim_op simr_addS (sim_op simr_addS (sim_sl sims_str (sim_op simr_ixL (sim_var 2) (sim_op simr_mod (sim_var 4) (sim_int _))) sim_noPart (sim_part (sim_int _))) (sim_str _)) (sim_op simr_mulS (sim_var 7) (sim_op simr_mod (sim_op simr_fdiv (sim_var 4) (sim_int _)) (sim_int _)))) sim_nil))))))))))⟩)
theorem ok__law_name (T : Txt K mg) : FnOk P w K mg base CX0 3 T.f__law_name T.fd__law_name ["_law_state", "_law_labels_here"] (spM T.cfg 2 f__law_name) :=
  fn_sim0 T.F__law_name sc__law_name rfl (fun cdv A outer s H E hr => ⟨_, (pss_cons (ps_set (i := 2) sc__law_name.nd rfl (Or.inl rfl) (pe_call (ok__law_next T) (hr.mono (by decide)) (by rfl) T.g__law_next T.F__law_next.kp T.b__law_next .nil pass0 (pa_cons (pv 0) pa_nil)))
  (pss_cons (ps_set (i := 3) sc__law_name.nd rfl (Or.inl rfl) (pe_ix ix_list (pe_lst (pa_cons pe_int (pa_cons pe_int (pa_cons pe_int (pa_cons pe_int (pa_cons pe_int (pa_cons pe_int (pa_cons pe_int pa_nil)))))))) (pe_op op_mod (pv 2) pe_int) (fun _ _ => rfl)))
  (pss_cons (ps_setLc (i := 4) (own := [("_law_turn", 5)]) (g := gName 5) rfl sc__law_name.nd rfl rfl (sw_true rfl rfl rfl (by decide +kernel)) (pi_range1 rfl T.n_range (pa_cons (pv 3) pa_nil)) (blkOk_by (N := ["_law_state", "_law_labels_here", "_law_number", "_law_many", "_law_found", "_law_turn"]) (sc := defScope s__law_name) (by decide +kernel)) (fun _ _ _ _ _ => pg_name (i := 5) sc__law_name.nd rfl (Or.inl rfl)) (fun _ _ _ _ _ => pts_nil) (fun _ _ _ _ _ => pe_ix ix_list (pv 1) (pe_op op_mod (pe_call (ok__law_next T) (hr.mono (by decide)) (by rfl) T.g__law_next T.F__law_next.kp T.b__law_next .nil pass0 (pa_cons (pv 0) pa_nil)) pe_int) (fun _ _ => rfl)))
  (pss_cons (ps_if (PW.pt (pw_and (pt_cmpR (op_neD hr.units) (pv 4) (pe_lst pa_nil) (nomark _)) (pw_and1 (pt_cmpR op_eq (pe_op op_mod (pe_op op_fdiv (pv 2) pe_int) pe_int) pe_int (nomark _))))) (pss_one (ps_asg pe_str (pg_sub (pv 4) pe_int set_list (fun _ => rfl)))) pss_nil)
  (pss_one (ps_ret (pe_callTy call_tuple_of (by rfl) T.n_tuple (by decide +kernel) (pa_cons (pv 4) pa_nil)))))))),
  (sims_seq (sims_asg (sim_call0 (sim_cons (sim_var 0) sim_nil)) (simg_name 2))
  (sims_seq (sims_asg (sim_op simr_ixL (sim_lst (sim_cons (sim_int _) (sim_cons (sim_int _) (sim_cons (sim_int _) (sim_cons (sim_int _) (sim_cons (sim_int _) (sim_cons (sim_int _) (sim_cons (sim_int _) sim_nil)))))))) (sim_op simr_mod (sim_var 2) (sim_int _))) (simg_name 3))
  (sims_seq (sims_asg (sim_lc (simi_range1 (sim_cons (sim_var 3) sim_nil)) (simg_name 5) (gw_name (by simp)) sim_yes (sim_op simr_ixL (sim_var 1) (sim_op simr_mod (sim_call0 (sim_cons (sim_var 0) sim_nil)) (sim_int _)))) (simg_name 4))
  (sims_seq (sims_if (sim_tAnd (sim_tTest (sim_op simr_neD (sim_var 4) (sim_lst sim_nil))) (sim_tTest (sim_op simr_eq (sim_op simr_mod (sim_op simr_fdiv (sim_var 2) (sim_int _)) (sim_int _)) (sim_int _)))) (sims_sub (sim_var 4) (sim_int _) (sim_str _)) sims_next)
  (sims_ret (sim_cb simc_tupleOf (sim_cons (sim_var 4) sim_nil)))))))⟩)
theorem ok__law_before (T : Txt K mg) : FnOk P w K mg base CX0 1 T.f__law_before T.fd__law_before ["_law_one", "_law_other"] (spM T.cfg 2 f__law_before) :=
  fn_sim0 T.F__law_before sc__law_before rfl (fun cdv A outer s H E hr => ⟨_, (pss_cons (ps_set (i := 2) sc__law_before.nd rfl (Or.inl rfl) pe_int)
  (pss_cons (ps_while PassesOwn.never (PW.pt (pw_and (pt_cmpR op_le (pv 2) (pe_callB call_len_seq (by rfl) T.n_len (by decide +kernel) (pa_cons (pv 0) pa_nil)) (nomark _)) (pw_and1 (pt_cmpR op_le (pv 2) (pe_callB call_len_seq (by rfl) T.n_len (by decide +kernel) (pa_cons (pv 1) pa_nil)) (nomark _))))) (pss_cons (ps_if (pt_cmpR op_ne (pe_ix ix_tup (pv 0) (pe_un un_neg (pv 2)) (fun _ _ => rfl)) (pe_ix ix_tup (pv 1) (pe_un un_neg (pv 2)) (fun _ _ => rfl)) (nomark _)) (pss_one (ps_ret (pe_cmpR op_lt_str (pe_ix ix_tup (pv 0) (pe_un un_neg (pv 2)) (fun _ _ => rfl)) (pe_ix ix_tup (pv 1) (pe_un un_neg (pv 2)) (fun _ _ => rfl)) (nomark _)))) pss_nil)
  (pss_one (ps_set (i := 2) sc__law_before.nd rfl (Or.inl rfl) (pe_op op_add (pv 2) pe_int)))))
  (pss_one (ps_ret (pe_cmpR op_lt (pe_callB call_len_seq (by rfl) T.n_len (by decide +kernel) (pa_cons (pv 0) pa_nil)) (pe_callB call_len_seq (by rfl) T.n_len (by decide +kernel) (pa_cons (pv 1) pa_nil)) (nomark _)))))),
  (sims_seq (sims_asg (sim_int _) (simg_name 2))
  (sims_seq (sims_while 7 (sim_tAnd (sim_tTest (sim_op simr_le (sim_var 2) (sim_cb simc_lenQ (sim_cons (sim_var 0) sim_nil)))) (sim_tTest (sim_op simr_le (sim_var 2) (sim_cb simc_lenQ (sim_cons (sim_var 1) sim_nil))))) (sims_seq (sims_if (sim_tTest (sim_op simr_ne (sim_op simr_ixT (sim_var 0) (sim_neg (sim_var 2))) (sim_op simr_ixT (sim_var 1) (sim_neg (sim_var 2))))) (sims_ret (sim_op simr_ltS (sim_op simr_ixT (sim_var 0) (sim_neg (sim_var 2))) (sim_op simr_ixT (sim_var 1) (sim_neg (sim_var 2))))) sims_next)
  (sims_asg (sim_op simr_add (sim_var 2) (sim_int _)) (simg_name 2))))
  (sims_ret (sim_op simr_lt (sim_cb simc_lenQ (sim_cons (sim_var 0) sim_nil)) (sim_cb simc_lenQ (sim_cons (sim_var 1) sim_nil))))))⟩)
theorem ok__law_sorted (T : Txt K mg) : FnOk P w K mg base CX0 2 T.f__law_sorted T.fd__law_sorted ["_law_names"] (spM T.cfg 1 f__law_sorted) :=
  fn_sim0 T.F__law_sorted sc__law_sorted rfl (fun cdv A outer s H E hr => ⟨_, (pss_cons (ps_set (i := 1) sc__law_sorted.nd rfl (Or.inl rfl) (pe_lst pa_nil))
  (pss_cons (ps_for PassesOwn.never rfl (pi_list (pv 0)) (pg_name (i := 2) sc__law_sorted.nd rfl (Or.inl rfl)) (pss_cons (ps_set (i := 3) sc__law_sorted.nd rfl (Or.inl rfl) (pe_callB call_len_seq (by rfl) T.n_len (by decide +kernel) (pa_cons (pv 1) pa_nil)))
  (pss_cons (ps_while PassesOwn.never (PW.pt (pw_and (pt_cmpR op_gt (pv 3) pe_int (nomark _)) (pw_and1 (pt_val (pe_call (ok__law_before T) (hr.mono (by decide)) (by rfl) T.g__law_before T.F__law_before.kp T.b__law_before .nil pass0 (pa_cons (pv 2) (pa_cons (pe_ix ix_list (pv 1) (pe_op op_sub (pv 3) pe_int) (fun _ _ => rfl)) pa_nil))))))) (pss_one (ps_set (i := 3) sc__law_sorted.nd rfl (Or.inl rfl) (pe_op op_sub (pv 3) pe_int))))
  (pss_one (ps_expr (pe_bm PySem.F.plainAttrs_list PySem.F.slot_list_insert PySem.F.type_list_insert mt_insert (pv 1) (pa_cons (pv 3) (pa_cons (pv 2) pa_nil))))))))
  (pss_one (ps_ret (pv 1))))),
  (sims_seq (sims_asg (sim_lst sim_nil) (simg_name 1))
  (sims_seq (sims_for (simi_list (sim_var 0)) (simg_name 2) (sims_seq (sims_asg (sim_cb simc_lenQ (sim_cons (sim_var 1) sim_nil)) (simg_name 3))
  (sims_seq (sims_while 13 (sim_tAnd (sim_tTest (sim_op simr_gt (sim_var 3) (sim_int _))) (sim_tB (sim_call0 (sim_cons (sim_var 2) (sim_cons (sim_op simr_ixL (sim_var 1) (sim_op simr_sub (sim_var 3) (sim_int _))) sim_nil))))) (sims_asg (sim_op simr_sub (sim_var 3) (sim_int _)) (simg_name 3)))
  (sims_drop (sim_bm simb_insert (sim_var 1) (sim_cons (sim_var 3) (sim_cons (sim_var 2) sim_nil)))))))
  (sims_ret (sim_var 1))))⟩)
theorem ok__law_refused (T : Txt K mg) : FnOk P w K mg base CX0 4 T.f__law_refused T.fd__law_refused ["_law_things"] (spM T.cfg 1 f__law_refused) :=
  fn_sim0 T.F__law_refused sc__law_refused rfl (fun cdv A outer s H E hr => ⟨_, (pss_cons (ps_set (i := 1) sc__law_refused.nd rfl (Or.inl rfl) pe_non)
  (pss_cons (ps_try_keep (i := 2) (Wout := fun _ _ _ _ => False) rfl rfl rfl sc__law_refused.nd rfl rfl ⟨rfl, by decide, Or.inl T.g_HouseError⟩ takes0 (fun W pn xe tk _ => pss_one (ps_expr (by exact (pe_callS (ok_ordered_names T) (hr.mono (by decide)) rfl T.g_ordered_names T.F_ordered_names.kp T.b_ordered_names (fun σ => passAt tk σ) (pa_cons (pv 0) pa_nil))))) (fun a oe cls d pn hz hf => pss_one (ps_set (i := 1) sc__law_refused.nd rfl (Or.inl rfl) (pv 2))))
  (pss_one (ps_ret (pe_and (pe_callB call_isA (by rfl) T.n_isinstance (by decide +kernel) (pa_cons (pv 1) (pa_cons (pe_glob (v := .ref (T.cfg.cl 1)) rfl T.g_BadName rfl) pa_nil))) (pe_one (pe_callB call_isA (by rfl) T.n_isinstance (by decide +kernel) (pa_cons (pv 1) (pa_cons (pe_bltn (v := .ty "ValueError") rfl T.n_ValueError (by decide +kernel) rfl (by decide)) pa_nil))))))))),
  (sims_seq (sims_asg sim_non (simg_name 1))
  (sims_seq (sims_try (m := 0) (i := 2) (j := 1) T.exm_HouseError (fun W => (sims_drop (sim_callS (sim_cons (sim_var 0) sim_nil)))))
  (sims_ret (sim_and (sim_cb (simc_isA T.tabOk) (sim_cons (sim_var 1) (sim_cons (sim_cls 1) sim_nil))) (sim_cb (simc_isA T.tabOk) (sim_cons (sim_var 1) (sim_cons (sim_ty _) sim_nil)))))))⟩)
theorem ok_law (T : Txt K mg) : FnOk P w K mg base (L2.CX P w) 5 T.f_law T.fd_law ["_law_script"] (spM T.cfg 1 f_law) :=
  fn_simX T.F_law sc_law rfl (fun cdv A outer s H E hr => ⟨_, (pss_cons (ps_set (i := 1) sc_law.nd rfl (Or.inl rfl) (pe_disp (pps_cons pe_str (pv 0) (pps_cons pe_str pe_int pps_nil)) (by rfl) (by rfl) (fun z => by cases z) (by decide)))
  (pss_cons (ps_set (i := 2) sc_law.nd rfl (Or.inl rfl) (pe_call (ok__law_labels T) (hr.mono (by decide)) (by rfl) T.g__law_labels T.F__law_labels.kp T.b__law_labels .nil pass0 (pa_cons (pv 1) pa_nil)))
  (pss_cons (ps_set (i := 3) sc_law.nd rfl (Or.inl rfl) (pe_lst pa_nil))
  (pss_cons (ps_for (passes_of rfl) rfl (pi_range1 rfl T.n_range (pa_cons (pe_op op_mod (pe_call (ok__law_next T) (hr.mono (by decide)) (by rfl) T.g__law_next T.F__law_next.kp T.b__law_next .nil pass0 (pa_cons (pv 1) pa_nil)) pe_int) pa_nil)) (pg_name (i := 4) sc_law.nd rfl (Or.inl rfl)) (pss_cons (ps_set (i := 5) sc_law.nd rfl (Or.inl rfl) (pe_call (ok__law_next T) (hr.mono (by decide)) (by rfl) T.g__law_next T.F__law_next.kp T.b__law_next .nil pass0 (pa_cons (pv 1) pa_nil)))
  (pss_one (ps_if (PW.pt (pw_and (pt_cmpR (op_neD hr.units) (pv 3) (pe_lst pa_nil) (nomark _)) (pw_and1 (pt_cmpR op_eq (pe_op op_mod (pv 5) pe_int) pe_int (nomark _))))) (pss_cons (ps_set (i := 6) sc_law.nd rfl (Or.inl rfl) (pe_ix ix_list (pv 3) (pe_op op_mod (pe_op op_fdiv (pv 5) pe_int) (pe_callB call_len_seq (by rfl) T.n_len (by decide +kernel) (pa_cons (pv 3) pa_nil))) (fun _ _ => rfl)))
  (pss_one (ps_expr (pe_bm PySem.F.plainAttrs_list PySem.F.slot_list_append PySem.F.type_list_append mt_append (pv 3) (pa_cons (pe_ix ix_list (pe_lst (pa_cons (pv 6) (pa_cons (pe_slice sl_tupA (pv 6) (po_some pe_int) po_none) (pa_cons (pe_slice sl_tupA (pe_op op_catA (pe_tup (pa_cons (pe_ix ix_list (pv 2) pe_int (fun _ _ => rfl)) pa_nil)) (pv 6)) po_none (po_some pe_int)) pa_nil)))) (pe_op op_mod (pe_op op_fdiv (pv 5) pe_int) pe_int) (fun _ _ => rfl)) pa_nil))))) (pss_one (ps_expr (pe_bm PySem.F.plainAttrs_list PySem.F.slot_list_append PySem.F.type_list_append mt_append (pv 3) (pa_cons (pe_call (ok__law_name T) (hr.mono (by decide)) (by rfl) T.g__law_name T.F__law_name.kp T.b__law_name .nil pass0 (pa_cons (pv 1) (pa_cons (pv 2) pa_nil))) pa_nil))))))))
  (pss_cons (ps_setLc (i := 3) (own := [("_law_name_here", 13)]) (g := gName 13) rfl sc_law.nd rfl rfl (sw_true rfl rfl rfl (by decide +kernel)) (pi_list (pv 3)) (blkOk_by (N := ["_law_script", "_law_state", "_law_labels_here", "_law_names", "_law_turn", "_law_number", "_law_tail", "_law_due", "_law_handed", "_law_found", "_law_odd", "_law_at", "_law_thing", "_law_name_here"]) (sc := defScope s_law) (by decide +kernel)) (fun _ _ _ _ _ => pg_name (i := 13) sc_law.nd rfl (Or.inl rfl)) (fun _ _ _ _ _ => pts_one (pt_cmpR op_notIn_seq pe_str (pe_slice sl_tupA (pv 13) (po_some pe_int) po_none) (by rfl))) (fun _ _ _ _ _ => pv 13))
  (pss_cons (ps_set (i := 7) sc_law.nd rfl (Or.inl rfl) (pe_call (ok__law_sorted T) (hr.mono (by decide)) (by rfl) T.g__law_sorted T.F__law_sorted.kp T.b__law_sorted .nil pass0 (pa_cons (pv 3) pa_nil)))
  (pss_cons (ps_set (i := 8) sc_law.nd rfl (Or.inl rfl) (pe_callTy call_list_of (by rfl) T.n_list (by decide +kernel) (pa_cons (pv 3) pa_nil)))
  (pss_cons (ps_set (i := 9) sc_law.nd rfl (Or.inl rfl) (pe_call (ok_ordered_names T) (hr.mono (by decide)) (by rfl) T.g_ordered_names T.F_ordered_names.kp T.b_ordered_names .nil (passes_call (takes_of rfl rfl rfl rfl) (fun _ _ _ _ h => h)) (pa_cons (pv 8) pa_nil)))
  (pss_cons (ps_if (PW.pt (pw_or (pt_not (pt_val (pe_callB call_isA (by rfl) T.n_isinstance (by decide +kernel) (pa_cons (pv 9) (pa_cons (pe_bltn (v := .ty "list") rfl T.n_list (by decide +kernel) rfl (by decide)) pa_nil))))) (pw_or (pt_cmpR (op_neD hr.units) (pv 9) (pv 7) (nomark _)) (pw_or (pt_cmpR (op_neD hr.units) (pv 8) (pv 3) (nomark _)) (pw_or1 (pt_cmpR (op_neD hr.units) (pe_call (ok_ordered_names T) (hr.mono (by decide)) (by rfl) T.g_ordered_names T.F_ordered_names.kp T.b_ordered_names .nil (passes_call (takes_of rfl rfl rfl rfl) (fun _ _ _ _ h => h)) (pa_cons (pe_back back_lst (pv 3) (po_some (pe_un un_neg pe_int))) pa_nil)) (pv 7) (nomark _))))))) (pss_one (ps_ret pe_bl)) pss_nil)
  (pss_cons (ps_expr (pe_bm PySem.F.plainAttrs_list PySem.F.slot_list_append PySem.F.type_list_append mt_append (pv 9) (pa_cons (pe_tup pa_nil) pa_nil)))
  (pss_cons (ps_if (PW.pt (pw_or (pt_cmpR (op_neD hr.units) (pv 8) (pv 3) (nomark _)) (pw_or1 (pt_cmpR (op_neD hr.units) (pe_call (ok_ordered_names T) (hr.mono (by decide)) (by rfl) T.g_ordered_names T.F_ordered_names.kp T.b_ordered_names .nil (passes_call (takes_of rfl rfl rfl rfl) (fun _ _ _ _ h => h)) (pa_cons (pv 8) pa_nil)) (pv 7) (nomark _))))) (pss_one (ps_ret pe_bl)) pss_nil)
  (pss_cons (ps_set (i := 5) sc_law.nd rfl (Or.inl rfl) (pe_call (ok__law_next T) (hr.mono (by decide)) (by rfl) T.g__law_next T.F__law_next.kp T.b__law_next .nil pass0 (pa_cons (pv 1) pa_nil)))
  (pss_cons (ps_set (i := 10) sc_law.nd rfl (Or.inl rfl) (pe_ix ix_list (pe_lst (pa_cons pe_non (pa_cons (pe_tup (pa_cons pe_str (pa_cons pe_str pa_nil))) (pa_cons (pe_lst (pa_cons pe_str pa_nil)) (pa_cons pe_str (pa_cons (pe_tup (pa_cons pe_str pa_nil)) (pa_cons pe_int (pa_cons (pe_op op_repT (pe_tup (pa_cons pe_str pa_nil)) pe_int) (pa_cons pe_bl pa_nil))))))))) (pe_op op_mod (pv 5) pe_int) (fun _ _ => rfl)))
  (pss_cons (ps_set (i := 11) sc_law.nd rfl (Or.inl rfl) (pe_op op_mod (pe_op op_fdiv (pv 5) pe_int) (pe_op op_add (pe_callB call_len_seq (by rfl) T.n_len (by decide +kernel) (pa_cons (pv 3) pa_nil)) pe_int)))
  (pss_cons (ps_set (i := 12) sc_law.nd rfl (Or.inl rfl) (pe_ix ix_list (pe_lst (pa_cons (pe_op op_cat (pe_op op_cat (pe_slice sl_list (pv 3) po_none (po_some (pv 11))) (pe_lst (pa_cons (pv 10) pa_nil))) (pe_slice sl_list (pv 3) (po_some (pv 11)) po_none)) (pa_cons (pe_callTy call_tuple_of (by rfl) T.n_tuple (by decide +kernel) (pa_cons (pv 3) pa_nil)) (pa_cons pe_non (pa_cons pe_str (pa_cons pe_dnewK pa_nil)))))) (pe_op op_mod (pe_op op_fdiv (pv 5) pe_int) pe_int) (fun _ _ => rfl)))
  (pss_one (ps_ret (pe_call (ok__law_refused T) (hr.mono (by decide)) (by rfl) T.g__law_refused T.F__law_refused.kp T.b__law_refused .nil pass0 (pa_cons (pv 12) pa_nil))))))))))))))))))),
  (sims_seq (sims_asg (sim_disp (simp_cons (sim_str _) (sim_var 0) (simp_cons (sim_str _) (sim_int _) simp_nil))) (simg_name 1))
  (sims_seq (sims_asg (sim_call0 (sim_cons (sim_var 1) sim_nil)) (simg_name 2))
  (sims_seq (sims_asg (sim_lst sim_nil) (simg_name 3))
  (sims_seq (sims_for (simi_range1 (sim_cons (sim_op simr_mod (sim_call0 (sim_cons (sim_var 1) sim_nil)) (sim_int _)) sim_nil)) (simg_name 4) (sims_seq (sims_asg (sim_call0 (sim_cons (sim_var 1) sim_nil)) (simg_name 5))
  (sims_if (sim_tAnd (sim_tTest (sim_op simr_neD (sim_var 3) (sim_lst sim_nil))) (sim_tTest (sim_op simr_eq (sim_op simr_mod (sim_var 5) (sim_int _)) (sim_int _)))) (sims_seq (sims_asg (sim_op simr_ixL (sim_var 3) (sim_op simr_mod (sim_op simr_fdiv (sim_var 5) (sim_int _)) (sim_cb simc_lenQ (sim_cons (sim_var 3) sim_nil)))) (simg_name 6))
  (sims_drop (sim_bm simb_append (sim_var 3) (sim_cons (sim_op simr_ixL (sim_lst (sim_cons (sim_var 6) (sim_cons (sim_sl sims_tup (sim_var 6) (sim_part (sim_int _)) sim_noPart) (sim_cons (sim_sl sims_tup (sim_op simr_catT (sim_tup (sim_cons (sim_op simr_ixL (sim_var 2) (sim_int _)) sim_nil)) (sim_var 6)) sim_noPart (sim_part (sim_int _))) sim_nil)))) (sim_op simr_mod (sim_op simr_fdiv (sim_var 5) (sim_int _)) (sim_int _))) sim_nil)))) (sims_drop (sim_bm simb_append (sim_var 3) (sim_cons (sim_call0 (sim_cons (sim_var 1) (sim_cons (sim_var 2) sim_nil))) sim_nil))))))
  (sims_seq (sims_asg (sim_lc (simi_list (sim_var 3)) (simg_name 13) (gw_name (by simp)) (sim_tTest (sim_op (simr_in true) (sim_str _) (sim_sl sims_tup (sim_var 13) (sim_part (sim_int _)) sim_noPart))) (sim_var 13)) (simg_name 3))
  (sims_seq (sims_asg (sim_call0 (sim_cons (sim_var 3) sim_nil)) (simg_name 7))
  (sims_seq (sims_asg (sim_cb simc_listOf (sim_cons (sim_var 3) sim_nil)) (simg_name 8))
  (sims_seq (sims_asg (sim_callE (sim_cons (sim_var 8) sim_nil)) (simg_name 9))
  (sims_seq (sims_if (sim_tOr (sim_tNot (sim_tB (sim_cb (simc_isA T.tabOk) (sim_cons (sim_var 9) (sim_cons (sim_ty _) sim_nil))))) (sim_tOr (sim_tTest (sim_op simr_neD (sim_var 9) (sim_var 7))) (sim_tOr (sim_tTest (sim_op simr_neD (sim_var 8) (sim_var 3))) (sim_tTest (sim_op simr_neD (sim_callE (sim_cons (sim_back simb_backL (sim_var 3) (sim_part (sim_neg (sim_int _)))) sim_nil)) (sim_var 7)))))) (sims_ret (sim_bl _)) sims_next)
  (sims_seq (sims_drop (sim_bm simb_append (sim_var 9) (sim_cons (sim_tup sim_nil) sim_nil)))
  (sims_seq (sims_if (sim_tOr (sim_tTest (sim_op simr_neD (sim_var 8) (sim_var 3))) (sim_tTest (sim_op simr_neD (sim_callE (sim_cons (sim_var 8) sim_nil)) (sim_var 7)))) (sims_ret (sim_bl _)) sims_next)
  (sims_seq (sims_asg (sim_call0 (sim_cons (sim_var 1) sim_nil)) (simg_name 5))
  (sims_seq (sims_asg (sim_op simr_ixL (sim_lst (sim_cons sim_non (sim_cons (sim_tup (sim_cons (sim_str _) (sim_cons (sim_str _) sim_nil))) (sim_cons (sim_lst (sim_cons (sim_str _) sim_nil)) (sim_cons (sim_str _) (sim_cons (sim_tup (sim_cons (sim_str _) sim_nil)) (sim_cons (sim_int _) (sim_cons (sim_op simr_repT (sim_tup (sim_cons (sim_str _) sim_nil)) (sim_int _)) (sim_cons (sim_bl _) sim_nil))))))))) (sim_op simr_mod (sim_var 5) (sim_int _))) (simg_name 10))
  (sims_seq (sims_asg (sim_op simr_mod (sim_op simr_fdiv (sim_var 5) (sim_int _)) (sim_op simr_add (sim_cb simc_lenQ (sim_cons (sim_var 3) sim_nil)) (sim_int _))) (simg_name 11))
  (sims_seq (sims_asg (sim_op simr_ixL (sim_lst (sim_cons (sim_op simr_cat (sim_op simr_cat (sim_sl sims_lst (sim_var 3) sim_noPart (sim_part (sim_var 11))) (sim_lst (sim_cons (sim_var 10) sim_nil))) (sim_sl sims_lst (sim_var 3) (sim_part (sim_var 11)) sim_noPart)) (sim_cons (sim_cb simc_tupleOf (sim_cons (sim_var 3) sim_nil)) (sim_cons sim_non (sim_cons (sim_str _) (sim_cons sim_dnew sim_nil)))))) (sim_op simr_mod (sim_op simr_fdiv (sim_var 5) (sim_int _)) (sim_int _))) (simg_name 12))
  (sims_ret (sim_call0 (sim_cons (sim_var 12) sim_nil))))))))))))))))))⟩)
end
theorem all_mk {l : PySem.W.OpenLaw} {w : World} {K : PySem.W.Frag} {h : Heap} {mg : Str → Option Value} {fa : Addr} (X : K.In h) (G : h.Ns mainGlobals mg) (hfa : mg "law" = some (.ref fa))
    {od_is_label an_is_label : Option Addr} {sl_is_label : Array (Option Value)} {oc_is_label kV_is_label dc_is_label pm_is_label cd_is_label ct_is_label : Value} {f_is_label : Addr}
    {od_is_name an_is_name : Option Addr} {sl_is_name : Array (Option Value)} {oc_is_name kV_is_name dc_is_name pm_is_name cd_is_name ct_is_name : Value} {f_is_name : Addr}
    {od_name_rank an_name_rank : Option Addr} {sl_name_rank : Array (Option Value)} {oc_name_rank kV_name_rank dc_name_rank pm_name_rank cd_name_rank ct_name_rank : Value} {f_name_rank : Addr}
    {od_ordered_names an_ordered_names : Option Addr} {sl_ordered_names : Array (Option Value)} {oc_ordered_names kV_ordered_names dc_ordered_names pm_ordered_names cd_ordered_names ct_ordered_names : Value} {f_ordered_names : Addr}
    {od__law_cell_at an__law_cell_at : Option Addr} {sl__law_cell_at : Array (Option Value)} {oc__law_cell_at kV__law_cell_at dc__law_cell_at pm__law_cell_at cd__law_cell_at ct__law_cell_at : Value} {f__law_cell_at : Addr}
    {od__law_next an__law_next : Option Addr} {sl__law_next : Array (Option Value)} {oc__law_next kV__law_next dc__law_next pm__law_next cd__law_next ct__law_next : Value} {f__law_next : Addr}
    {od__law_signs an__law_signs : Option Addr} {sl__law_signs : Array (Option Value)} {oc__law_signs kV__law_signs dc__law_signs pm__law_signs cd__law_signs ct__law_signs : Value} {f__law_signs : Addr}
    {od__law_label an__law_label : Option Addr} {sl__law_label : Array (Option Value)} {oc__law_label kV__law_label dc__law_label pm__law_label cd__law_label ct__law_label : Value} {f__law_label : Addr}
    {od__law_labels an__law_labels : Option Addr} {sl__law_labels : Array (Option Value)} {oc__law_labels kV__law_labels dc__law_labels pm__law_labels cd__law_labels ct__law_labels : Value} {f__law_labels : Addr}
    {od__law_name an__law_name : Option Addr} {sl__law_name : Array (Option Value)} {oc__law_name kV__law_name dc__law_name pm__law_name cd__law_name ct__law_name : Value} {f__law_name : Addr}
    {od__law_before an__law_before : Option Addr} {sl__law_before : Array (Option Value)} {oc__law_before kV__law_before dc__law_before pm__law_before cd__law_before ct__law_before : Value} {f__law_before : Addr}
    {od__law_sorted an__law_sorted : Option Addr} {sl__law_sorted : Array (Option Value)} {oc__law_sorted kV__law_sorted dc__law_sorted pm__law_sorted cd__law_sorted ct__law_sorted : Value} {f__law_sorted : Addr}
    {od__law_refused an__law_refused : Option Addr} {sl__law_refused : Array (Option Value)} {oc__law_refused kV__law_refused dc__law_refused pm__law_refused cd__law_refused ct__law_refused : Value} {f__law_refused : Addr}
    {od_law an_law : Option Addr} {sl_law : Array (Option Value)} {oc_law kV_law dc_law pm_law cd_law ct_law : Value} {f_law : Addr}
    {t_LABEL_SIGNS : Tok}
    {t_MOST_LABELS : Tok}
    {t_MOST_SIGNS : Tok}
    {t_STAR : Tok}
    {C_HouseError : Addr}
    {C_BadName : Addr}
    (a_is_label : PySem.W.nsIn K mainGlobals "is_label" = some (some (.ref f_is_label)))
    (l_is_label : K.lookup f_is_label = some ⟨oc_is_label, od_is_label, .func (PySem.W.fnOf "is_label" "is_label" (defArgs s_is_label) (defBody s_is_label) (defScope s_is_label) .none kV_is_label dc_is_label pm_is_label an_is_label cd_is_label ct_is_label), sl_is_label⟩)
    (c_is_label : PySem.W.codeIn K cd_is_label "is_label" = true)
    (k_is_label : PySem.W.keepIn K (.ref f_is_label) = true)
    (a_is_name : PySem.W.nsIn K mainGlobals "is_name" = some (some (.ref f_is_name)))
    (l_is_name : K.lookup f_is_name = some ⟨oc_is_name, od_is_name, .func (PySem.W.fnOf "is_name" "is_name" (defArgs s_is_name) (defBody s_is_name) (defScope s_is_name) .none kV_is_name dc_is_name pm_is_name an_is_name cd_is_name ct_is_name), sl_is_name⟩)
    (c_is_name : PySem.W.codeIn K cd_is_name "is_name" = true)
    (k_is_name : PySem.W.keepIn K (.ref f_is_name) = true)
    (a_name_rank : PySem.W.nsIn K mainGlobals "name_rank" = some (some (.ref f_name_rank)))
    (l_name_rank : K.lookup f_name_rank = some ⟨oc_name_rank, od_name_rank, .func (PySem.W.fnOf "name_rank" "name_rank" (defArgs s_name_rank) (defBody s_name_rank) (defScope s_name_rank) .none kV_name_rank dc_name_rank pm_name_rank an_name_rank cd_name_rank ct_name_rank), sl_name_rank⟩)
    (c_name_rank : PySem.W.codeIn K cd_name_rank "name_rank" = true)
    (k_name_rank : PySem.W.keepIn K (.ref f_name_rank) = true)
    (a_ordered_names : PySem.W.nsIn K mainGlobals "ordered_names" = some (some (.ref f_ordered_names)))
    (l_ordered_names : K.lookup f_ordered_names = some ⟨oc_ordered_names, od_ordered_names, .func (PySem.W.fnOf "ordered_names" "ordered_names" (defArgs s_ordered_names) (defBody s_ordered_names) (defScope s_ordered_names) .none kV_ordered_names dc_ordered_names pm_ordered_names an_ordered_names cd_ordered_names ct_ordered_names), sl_ordered_names⟩)
    (c_ordered_names : PySem.W.codeIn K cd_ordered_names "ordered_names" = true)
    (k_ordered_names : PySem.W.keepIn K (.ref f_ordered_names) = true)
    (a__law_cell_at : PySem.W.nsIn K mainGlobals "_law_cell_at" = some (some (.ref f__law_cell_at)))
    (l__law_cell_at : K.lookup f__law_cell_at = some ⟨oc__law_cell_at, od__law_cell_at, .func (PySem.W.fnOf "_law_cell_at" "_law_cell_at" (defArgs s__law_cell_at) (defBody s__law_cell_at) (defScope s__law_cell_at) .none kV__law_cell_at dc__law_cell_at pm__law_cell_at an__law_cell_at cd__law_cell_at ct__law_cell_at), sl__law_cell_at⟩)
    (c__law_cell_at : PySem.W.codeIn K cd__law_cell_at "_law_cell_at" = true)
    (k__law_cell_at : PySem.W.keepIn K (.ref f__law_cell_at) = true)
    (a__law_next : PySem.W.nsIn K mainGlobals "_law_next" = some (some (.ref f__law_next)))
    (l__law_next : K.lookup f__law_next = some ⟨oc__law_next, od__law_next, .func (PySem.W.fnOf "_law_next" "_law_next" (defArgs s__law_next) (defBody s__law_next) (defScope s__law_next) .none kV__law_next dc__law_next pm__law_next an__law_next cd__law_next ct__law_next), sl__law_next⟩)
    (c__law_next : PySem.W.codeIn K cd__law_next "_law_next" = true)
    (k__law_next : PySem.W.keepIn K (.ref f__law_next) = true)
    (a__law_signs : PySem.W.nsIn K mainGlobals "_law_signs" = some (some (.ref f__law_signs)))
    (l__law_signs : K.lookup f__law_signs = some ⟨oc__law_signs, od__law_signs, .func (PySem.W.fnOf "_law_signs" "_law_signs" (defArgs s__law_signs) (defBody s__law_signs) (defScope s__law_signs) .none kV__law_signs dc__law_signs pm__law_signs an__law_signs cd__law_signs ct__law_signs), sl__law_signs⟩)
    (c__law_signs : PySem.W.codeIn K cd__law_signs "_law_signs" = true)
    (k__law_signs : PySem.W.keepIn K (.ref f__law_signs) = true)
    (a__law_label : PySem.W.nsIn K mainGlobals "_law_label" = some (some (.ref f__law_label)))
    (l__law_label : K.lookup f__law_label = some ⟨oc__law_label, od__law_label, .func (PySem.W.fnOf "_law_label" "_law_label" (defArgs s__law_label) (defBody s__law_label) (defScope s__law_label) .none kV__law_label dc__law_label pm__law_label an__law_label cd__law_label ct__law_label), sl__law_label⟩)
    (c__law_label : PySem.W.codeIn K cd__law_label "_law_label" = true)
    (k__law_label : PySem.W.keepIn K (.ref f__law_label) = true)
    (a__law_labels : PySem.W.nsIn K mainGlobals "_law_labels" = some (some (.ref f__law_labels)))
    (l__law_labels : K.lookup f__law_labels = some ⟨oc__law_labels, od__law_labels, .func (PySem.W.fnOf "_law_labels" "_law_labels" (defArgs s__law_labels) (defBody s__law_labels) (defScope s__law_labels) .none kV__law_labels dc__law_labels pm__law_labels an__law_labels cd__law_labels ct__law_labels), sl__law_labels⟩)
    (c__law_labels : PySem.W.codeIn K cd__law_labels "_law_labels" = true)
    (k__law_labels : PySem.W.keepIn K (.ref f__law_labels) = true)
    (a__law_name : PySem.W.nsIn K mainGlobals "_law_name" = some (some (.ref f__law_name)))
    (l__law_name : K.lookup f__law_name = some ⟨oc__law_name, od__law_name, .func (PySem.W.fnOf "_law_name" "_law_name" (defArgs s__law_name) (defBody s__law_name) (defScope s__law_name) .none kV__law_name dc__law_name pm__law_name an__law_name cd__law_name ct__law_name), sl__law_name⟩)
    (c__law_name : PySem.W.codeIn K cd__law_name "_law_name" = true)
    (k__law_name : PySem.W.keepIn K (.ref f__law_name) = true)
    (a__law_before : PySem.W.nsIn K mainGlobals "_law_before" = some (some (.ref f__law_before)))
    (l__law_before : K.lookup f__law_before = some ⟨oc__law_before, od__law_before, .func (PySem.W.fnOf "_law_before" "_law_before" (defArgs s__law_before) (defBody s__law_before) (defScope s__law_before) .none kV__law_before dc__law_before pm__law_before an__law_before cd__law_before ct__law_before), sl__law_before⟩)
    (c__law_before : PySem.W.codeIn K cd__law_before "_law_before" = true)
    (k__law_before : PySem.W.keepIn K (.ref f__law_before) = true)
    (a__law_sorted : PySem.W.nsIn K mainGlobals "_law_sorted" = some (some (.ref f__law_sorted)))
    (l__law_sorted : K.lookup f__law_sorted = some ⟨oc__law_sorted, od__law_sorted, .func (PySem.W.fnOf "_law_sorted" "_law_sorted" (defArgs s__law_sorted) (defBody s__law_sorted) (defScope s__law_sorted) .none kV__law_sorted dc__law_sorted pm__law_sorted an__law_sorted cd__law_sorted ct__law_sorted), sl__law_sorted⟩)
    (c__law_sorted : PySem.W.codeIn K cd__law_sorted "_law_sorted" = true)
    (k__law_sorted : PySem.W.keepIn K (.ref f__law_sorted) = true)
    (a__law_refused : PySem.W.nsIn K mainGlobals "_law_refused" = some (some (.ref f__law_refused)))
    (l__law_refused : K.lookup f__law_refused = some ⟨oc__law_refused, od__law_refused, .func (PySem.W.fnOf "_law_refused" "_law_refused" (defArgs s__law_refused) (defBody s__law_refused) (defScope s__law_refused) .none kV__law_refused dc__law_refused pm__law_refused an__law_refused cd__law_refused ct__law_refused), sl__law_refused⟩)
    (c__law_refused : PySem.W.codeIn K cd__law_refused "_law_refused" = true)
    (k__law_refused : PySem.W.keepIn K (.ref f__law_refused) = true)
    (a_law : PySem.W.nsIn K mainGlobals "law" = some (some (.ref f_law)))
    (l_law : K.lookup f_law = some ⟨oc_law, od_law, .func (PySem.W.fnOf "law" "law" (defArgs s_law) (defBody s_law) (defScope s_law) .none kV_law dc_law pm_law an_law cd_law ct_law), sl_law⟩)
    (c_law : PySem.W.codeIn K cd_law "law" = true)
    (k_law : PySem.W.keepIn K (.ref f_law) = true)
    (z_ValueError : PySem.W.nsIn K mainGlobals "ValueError" = some none)
    (z_all : PySem.W.nsIn K mainGlobals "all" = some none)
    (z_isinstance : PySem.W.nsIn K mainGlobals "isinstance" = some none)
    (z_len : PySem.W.nsIn K mainGlobals "len" = some none)
    (z_list : PySem.W.nsIn K mainGlobals "list" = some none)
    (z_max : PySem.W.nsIn K mainGlobals "max" = some none)
    (z_range : PySem.W.nsIn K mainGlobals "range" = some none)
    (z_sorted : PySem.W.nsIn K mainGlobals "sorted" = some none)
    (z_str : PySem.W.nsIn K mainGlobals "str" = some none)
    (z_tuple : PySem.W.nsIn K mainGlobals "tuple" = some none)
    (v_LABEL_SIGNS : PySem.W.nsIn K mainGlobals "LABEL_SIGNS" = some (some (.str "abcdefghijklmnopqrstuvwxyz0123456789-*" t_LABEL_SIGNS)))
    (v_MOST_LABELS : PySem.W.nsIn K mainGlobals "MOST_LABELS" = some (some (.int 6 t_MOST_LABELS)))
    (v_MOST_SIGNS : PySem.W.nsIn K mainGlobals "MOST_SIGNS" = some (some (.int 8 t_MOST_SIGNS)))
    (v_STAR : PySem.W.nsIn K mainGlobals "STAR" = some (some (.str "*" t_STAR)))
    (g_HouseError : PySem.W.nsIn K mainGlobals "HouseError" = some (some (.ref C_HouseError)))
    (g_BadName : PySem.W.nsIn K mainGlobals "BadName" = some (some (.ref C_BadName)))
    (x_BadName : PySem.W.excIn K C_BadName [.type "ValueError", .type "Exception", .type "BaseException", .type "object"] "ValueError.__new__" = true)
    (kc_BadName : PySem.W.keepIn K (.ref C_BadName) = true)
    (s_BadName_ : PySem.W.subIn K (.ref C_BadName) (.type "BaseException") = some true)
    (ty_BadName : PySem.W.typeIn K (.ref C_BadName) = some (.type "type"))
    (ci_BadName : PySem.W.isClsIn K C_BadName = true)
    (ss_BadName : PySem.W.subIn K (.ref C_BadName) (.ref C_BadName) = some true)
    (s_HouseError_ : PySem.W.subIn K (.ref C_HouseError) (.type "BaseException") = some true)
    (ty_HouseError : PySem.W.typeIn K (.ref C_HouseError) = some (.type "type"))
    (ci_HouseError : PySem.W.isClsIn K C_HouseError = true)
    (ss_HouseError : PySem.W.subIn K (.ref C_HouseError) (.ref C_HouseError) = some true)
    (sp_BadName_HouseError : PySem.W.subIn K (.ref C_BadName) (.ref C_HouseError) = some true)
    (sv_BadName : PySem.W.subIn K (.ref C_BadName) (.type "ValueError") = some true)
    (e1_BadName : PySem.W.findIn K (.ref C_BadName) "__getattribute__" = some (some (.builtin "BaseException.__getattribute__")))
    (e2_BadName : PySem.W.findIn K (.ref C_BadName) "__getattr__" = some none)
    (e3_BadName : PySem.W.hasDictIn K C_BadName = true)
    (e4_BadName : PySem.W.findIn K (.ref C_BadName) "__class__" = some (some (.builtin "object.__class__")))
    (e6_BadName : PySem.W.mroIn K C_BadName (.type "object") = some true)
    (e5a : PySem.W.specialIn K (.builtin "object.__class__") "__get__" = some (some (.builtin "getset_descriptor.__get__")))
    (e5b : PySem.W.takesIn K (.builtin "object.__class__") = some true) :
    ∃ fd : FuncData, (∀ (s : Shared) (v : Value), BindsTo s fd ⟨[v], []⟩ [("_law_script", v)]) ∧ ∀ base : Heap, K.In base → base.Ns mainGlobals mg → FnOk l.prog w K mg base (L2.CX l.prog w) 5 fa fd ["_law_script"] (spLaw K) := by
  have e := hfa.symm.trans (PySem.W.mg_of X G a_law)
  cases e
  have F_is_label := fun_mk (st := s_is_label) l_is_label c_is_label k_is_label
  have b_is_label := F_is_label.binds (ps := ["thing"]) fun _ _ _ _ _ _ us hl => match us, hl with | [_], _ => rfl
  have F_is_name := fun_mk (st := s_is_name) l_is_name c_is_name k_is_name
  have b_is_name := F_is_name.binds (ps := ["thing"]) fun _ _ _ _ _ _ us hl => match us, hl with | [_], _ => rfl
  have F_name_rank := fun_mk (st := s_name_rank) l_name_rank c_name_rank k_name_rank
  have b_name_rank := F_name_rank.binds (ps := ["name"]) fun _ _ _ _ _ _ us hl => match us, hl with | [_], _ => rfl
  have F_ordered_names := fun_mk (st := s_ordered_names) l_ordered_names c_ordered_names k_ordered_names
  have b_ordered_names := F_ordered_names.binds (ps := ["names"]) fun _ _ _ _ _ _ us hl => match us, hl with | [_], _ => rfl
  have F__law_cell_at := fun_mk (st := s__law_cell_at) l__law_cell_at c__law_cell_at k__law_cell_at
  have b__law_cell_at := F__law_cell_at.binds (ps := ["_law_script", "_law_k"]) fun _ _ _ _ _ _ us hl => match us, hl with | [_, _], _ => rfl
  have F__law_next := fun_mk (st := s__law_next) l__law_next c__law_next k__law_next
  have b__law_next := F__law_next.binds (ps := ["_law_state"]) fun _ _ _ _ _ _ us hl => match us, hl with | [_], _ => rfl
  have F__law_signs := fun_mk (st := s__law_signs) l__law_signs c__law_signs k__law_signs
  have b__law_signs := F__law_signs.binds (ps := []) fun _ _ _ _ _ _ us hl => match us, hl with | [], _ => rfl
  have F__law_label := fun_mk (st := s__law_label) l__law_label c__law_label k__law_label
  have b__law_label := F__law_label.binds (ps := ["_law_number", "_law_size"]) fun _ _ _ _ _ _ us hl => match us, hl with | [_, _], _ => rfl
  have F__law_labels := fun_mk (st := s__law_labels) l__law_labels c__law_labels k__law_labels
  have b__law_labels := F__law_labels.binds (ps := ["_law_state"]) fun _ _ _ _ _ _ us hl => match us, hl with | [_], _ => rfl
  have F__law_name := fun_mk (st := s__law_name) l__law_name c__law_name k__law_name
  have b__law_name := F__law_name.binds (ps := ["_law_state", "_law_labels_here"]) fun _ _ _ _ _ _ us hl => match us, hl with | [_, _], _ => rfl
  have F__law_before := fun_mk (st := s__law_before) l__law_before c__law_before k__law_before
  have b__law_before := F__law_before.binds (ps := ["_law_one", "_law_other"]) fun _ _ _ _ _ _ us hl => match us, hl with | [_, _], _ => rfl
  have F__law_sorted := fun_mk (st := s__law_sorted) l__law_sorted c__law_sorted k__law_sorted
  have b__law_sorted := F__law_sorted.binds (ps := ["_law_names"]) fun _ _ _ _ _ _ us hl => match us, hl with | [_], _ => rfl
  have F__law_refused := fun_mk (st := s__law_refused) l__law_refused c__law_refused k__law_refused
  have b__law_refused := F__law_refused.binds (ps := ["_law_things"]) fun _ _ _ _ _ _ us hl => match us, hl with | [_], _ => rfl
  have F_law := fun_mk (st := s_law) l_law c_law k_law
  have b_law := F_law.binds (ps := ["_law_script"]) fun _ _ _ _ _ _ us hl => match us, hl with | [_], _ => rfl
  let T : Txt K mg := {
    n_ValueError := PySem.W.mg_none_of X G z_ValueError,
    n_all := PySem.W.mg_none_of X G z_all,
    n_isinstance := PySem.W.mg_none_of X G z_isinstance,
    n_len := PySem.W.mg_none_of X G z_len,
    n_list := PySem.W.mg_none_of X G z_list,
    n_max := PySem.W.mg_none_of X G z_max,
    n_range := PySem.W.mg_none_of X G z_range,
    n_sorted := PySem.W.mg_none_of X G z_sorted,
    n_str := PySem.W.mg_none_of X G z_str,
    n_tuple := PySem.W.mg_none_of X G z_tuple,
    t_LABEL_SIGNS := t_LABEL_SIGNS,
    c_LABEL_SIGNS := PySem.W.mg_of X G v_LABEL_SIGNS,
    t_MOST_LABELS := t_MOST_LABELS,
    c_MOST_LABELS := PySem.W.mg_of X G v_MOST_LABELS,
    t_MOST_SIGNS := t_MOST_SIGNS,
    c_MOST_SIGNS := PySem.W.mg_of X G v_MOST_SIGNS,
    t_STAR := t_STAR,
    c_STAR := PySem.W.mg_of X G v_STAR,
    C_HouseError := C_HouseError,
    C_BadName := C_BadName,
    g_HouseError := PySem.W.mg_of X G g_HouseError,
    g_BadName := PySem.W.mg_of X G g_BadName,
    x_BadName := x_BadName,
    k_BadName := kc_BadName,
    s_BadName := s_BadName_,
    t_BadName := ty_BadName,
    f_is_label := f_is_label,
    fd_is_label := _,
    F_is_label := F_is_label,
    b_is_label := b_is_label,
    g_is_label := PySem.W.mg_of X G a_is_label,
    f_is_name := f_is_name,
    fd_is_name := _,
    F_is_name := F_is_name,
    b_is_name := b_is_name,
    g_is_name := PySem.W.mg_of X G a_is_name,
    f_name_rank := f_name_rank,
    fd_name_rank := _,
    F_name_rank := F_name_rank,
    b_name_rank := b_name_rank,
    g_name_rank := PySem.W.mg_of X G a_name_rank,
    f_ordered_names := f_ordered_names,
    fd_ordered_names := _,
    F_ordered_names := F_ordered_names,
    b_ordered_names := b_ordered_names,
    g_ordered_names := PySem.W.mg_of X G a_ordered_names,
    f__law_cell_at := f__law_cell_at,
    fd__law_cell_at := _,
    F__law_cell_at := F__law_cell_at,
    b__law_cell_at := b__law_cell_at,
    g__law_cell_at := PySem.W.mg_of X G a__law_cell_at,
    f__law_next := f__law_next,
    fd__law_next := _,
    F__law_next := F__law_next,
    b__law_next := b__law_next,
    g__law_next := PySem.W.mg_of X G a__law_next,
    f__law_signs := f__law_signs,
    fd__law_signs := _,
    F__law_signs := F__law_signs,
    b__law_signs := b__law_signs,
    g__law_signs := PySem.W.mg_of X G a__law_signs,
    f__law_label := f__law_label,
    fd__law_label := _,
    F__law_label := F__law_label,
    b__law_label := b__law_label,
    g__law_label := PySem.W.mg_of X G a__law_label,
    f__law_labels := f__law_labels,
    fd__law_labels := _,
    F__law_labels := F__law_labels,
    b__law_labels := b__law_labels,
    g__law_labels := PySem.W.mg_of X G a__law_labels,
    f__law_name := f__law_name,
    fd__law_name := _,
    F__law_name := F__law_name,
    b__law_name := b__law_name,
    g__law_name := PySem.W.mg_of X G a__law_name,
    f__law_before := f__law_before,
    fd__law_before := _,
    F__law_before := F__law_before,
    b__law_before := b__law_before,
    g__law_before := PySem.W.mg_of X G a__law_before,
    f__law_sorted := f__law_sorted,
    fd__law_sorted := _,
    F__law_sorted := F__law_sorted,
    b__law_sorted := b__law_sorted,
    g__law_sorted := PySem.W.mg_of X G a__law_sorted,
    f__law_refused := f__law_refused,
    fd__law_refused := _,
    F__law_refused := F__law_refused,
    b__law_refused := b__law_refused,
    g__law_refused := PySem.W.mg_of X G a__law_refused,
    f_law := fa,
    fd_law := _,
    F_law := F_law,
    b_law := b_law,
    g_law := PySem.W.mg_of X G a_law,
    ki_BadName_BadName := kit_one ci_BadName ty_BadName ss_BadName ss_BadName,
    ke_BadName_BadName := exm_one_ s_BadName_ ci_BadName ty_BadName ss_BadName,
    ki_BadName_HouseError := kit_one ci_HouseError ty_HouseError ss_HouseError sp_BadName_HouseError,
    ke_BadName_HouseError := exm_one_ s_HouseError_ ci_HouseError ty_HouseError sp_BadName_HouseError,
    kv_BadName := kit_val sv_BadName (by decide +kernel),
    ec_BadName := ⟨e1_BadName, e2_BadName, s_BadName_, e3_BadName, e4_BadName, e5a, e5b, e6_BadName⟩ }
  exact ⟨_, fun s v => .of_eq rfl, fun base _ _ => fn_mono (ok_law T) (fun vs H Q E z => sp_law T.cfg Nh.f_law law_true z) fun _ _ _ _ _ _ => trivial⟩
end Nh
open PySem PySem.W PyProof.Rows
set_option maxHeartbeats 0 in
theorem PySem.Challenge.cw_namehouse_k02_names_in_order_holds : PySem.Challenge.rw_namehouse_k02_names_in_order.Holds := by
  w_on; o_law; k_head; (case hw => w_witness2)
  k_fill
  refine L2.walk_of (l := PySem.Challenge.rw_namehouse_k02_names_in_order) (n := 63) (k := 5) (x := "_law_script") (CX := fun w => L2.CX PySem.Challenge.rw_namehouse_k02_names_in_order.prog w) (sp := fun w => Nh.spLaw _) rfl (by decide) rfl ⟨rfl, by decide, by decide⟩ (fun w h Y => PySem.W.kIn_of Y) ?F (fun _ _ a ns hl hO hS => ⟨a, ns, rfl, hl, hO, hS, fun _ => rfl⟩) (fun _ _ _ _ _ h => by obtain ⟨_, _, _, _, _, _, _, _, _, _, _, _, z⟩ := h; exact z)
  case F =>
    intro w mg fa h KX G hmg
    refine' Nh.all_mk KX G hmg ?a_is_label ?l_is_label ?c_is_label ?k_is_label ?a_is_name ?l_is_name ?c_is_name ?k_is_name ?a_name_rank ?l_name_rank ?c_name_rank ?k_name_rank ?a_ordered_names ?l_ordered_names ?c_ordered_names ?k_ordered_names ?a__law_cell_at ?l__law_cell_at ?c__law_cell_at ?k__law_cell_at ?a__law_next ?l__law_next ?c__law_next ?k__law_next ?a__law_signs ?l__law_signs ?c__law_signs ?k__law_signs ?a__law_label ?l__law_label ?c__law_label ?k__law_label ?a__law_labels ?l__law_labels ?c__law_labels ?k__law_labels ?a__law_name ?l__law_name ?c__law_name ?k__law_name ?a__law_before ?l__law_before ?c__law_before ?k__law_before ?a__law_sorted ?l__law_sorted ?c__law_sorted ?k__law_sorted ?a__law_refused ?l__law_refused ?c__law_refused ?k__law_refused ?a_law ?l_law ?c_law ?k_law ?z_ValueError ?z_all ?z_isinstance ?z_len ?z_list ?z_max ?z_range ?z_sorted ?z_str ?z_tuple ?v_LABEL_SIGNS ?v_MOST_LABELS ?v_MOST_SIGNS ?v_STAR ?g_HouseError ?g_BadName ?x_BadName ?kc_BadName ?s_BadName_ ?ty_BadName ?ci_BadName ?ss_BadName ?s_HouseError_ ?ty_HouseError ?ci_HouseError ?ss_HouseError ?sp_BadName_HouseError ?sv_BadName ?e1_BadName ?e2_BadName ?e3_BadName ?e4_BadName ?e6_BadName ?e5a ?e5b
    (case a_is_label => k_is)
    (case l_is_label => k_is)
    (case c_is_label => k_is)
    (case k_is_label => k_is)
    (case a_is_name => k_is)
    (case l_is_name => k_is)
    (case c_is_name => k_is)
    (case k_is_name => k_is)
    (case a_name_rank => k_is)
    (case l_name_rank => k_is)
    (case c_name_rank => k_is)
    (case k_name_rank => k_is)
    (case a_ordered_names => k_is)
    (case l_ordered_names => k_is)
    (case c_ordered_names => k_is)
    (case k_ordered_names => k_is)
    (case a__law_cell_at => k_is)
    (case l__law_cell_at => k_is)
    (case c__law_cell_at => k_is)
    (case k__law_cell_at => k_is)
    (case a__law_next => k_is)
    (case l__law_next => k_is)
    (case c__law_next => k_is)
    (case k__law_next => k_is)
    (case a__law_signs => k_is)
    (case l__law_signs => k_is)
    (case c__law_signs => k_is)
    (case k__law_signs => k_is)
    (case a__law_label => k_is)
    (case l__law_label => k_is)
    (case c__law_label => k_is)
    (case k__law_label => k_is)
    (case a__law_labels => k_is)
    (case l__law_labels => k_is)
    (case c__law_labels => k_is)
    (case k__law_labels => k_is)
    (case a__law_name => k_is)
    (case l__law_name => k_is)
    (case c__law_name => k_is)
    (case k__law_name => k_is)
    (case a__law_before => k_is)
    (case l__law_before => k_is)
    (case c__law_before => k_is)
    (case k__law_before => k_is)
    (case a__law_sorted => k_is)
    (case l__law_sorted => k_is)
    (case c__law_sorted => k_is)
    (case k__law_sorted => k_is)
    (case a__law_refused => k_is)
    (case l__law_refused => k_is)
    (case c__law_refused => k_is)
    (case k__law_refused => k_is)
    (case a_law => k_is)
    (case l_law => k_is)
    (case c_law => k_is)
    (case k_law => k_is)
    (case z_ValueError => k_is)
    (case z_all => k_is)
    (case z_isinstance => k_is)
    (case z_len => k_is)
    (case z_list => k_is)
    (case z_max => k_is)
    (case z_range => k_is)
    (case z_sorted => k_is)
    (case z_str => k_is)
    (case z_tuple => k_is)
    (case v_LABEL_SIGNS => k_is)
    (case v_MOST_LABELS => k_is)
    (case v_MOST_SIGNS => k_is)
    (case v_STAR => k_is)
    (case g_HouseError => k_is)
    (case g_BadName => k_is)
    (case x_BadName => k_exc)
    (case kc_BadName => k_is)
    (case s_BadName_ => k_is)
    (case ty_BadName => k_is)
    (case ci_BadName => k_is)
    (case ss_BadName => first | rfl | k_is)
    (case s_HouseError_ => k_is)
    (case ty_HouseError => k_is)
    (case ci_HouseError => k_is)
    (case ss_HouseError => first | rfl | k_is)
    (case sp_BadName_HouseError => first | rfl | k_is)
    (case sv_BadName => first | rfl | k_is)
    (case e1_BadName => k_is)
    (case e2_BadName => k_is)
    (case e3_BadName => k_is)
    (case e4_BadName => k_is)
    (case e6_BadName => k_is)
    (case e5a => k_is)
    (case e5b => k_is)
