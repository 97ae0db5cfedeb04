import PyProof.Rows.All
import Wide.All
import OpenK.AllK
import Wide.FinOn
import HandS.ForMost
import HandS.IsInst
import HandS.Deep
import HandS.Codes
import HandS.Flow
import PyProof.Rows.StrMul
import HandS.Ends
import HandS.Strs
import HandS.SetFor
import HandS.More
import KE.DataMinMax
import HandS.SortKw
import ObjForm.LawKit
import HandS.FStr
import HandS.Steps
import KE.GoesMore
import HandS.Conv
import HandS.SetBool
import PyProof.StrWalks
import HandS.Star
import HandS.TupAny
import PyProof.SetRoads
import PyProof.P3In
import HandS.ExcInit
import HandS.ExcOwn
import KE.KExcInit
import KE.KExcIs
import HandS.Defaults
import HandS.WideBits
import HandS.ExcValue
import PyProof.ReprLen
import HandS.ExcIs
import KE.KExcLine
import PySem.Challenge.RW_triesgrow_k05_texts_of_no_pattern
set_option Elab.async false
set_option linter.all false
set_option maxRecDepth 100000
set_option maxHeartbeats 2000000
/-! TL1: data under a heap that grows, the slots of a frame, and what is kept of both. -/
namespace TL
open PySem PySem.Spec L2

/-- all that stands in the one stands in the other -/
def Ex (H H' : Hp) : Prop := ∀ a o, H a = some o → H' a = some o
theorem Ex.refl (H : Hp) : Ex H H := fun _ _ h => h
theorem Ex.trans {H H1 H2 : Hp} (a : Ex H H1) (b : Ex H1 H2) : Ex H H2 := fun x o h => b x o (a x o h)
theorem Ex.new {H : Hp} {p : Addr} {o : HO} (h : H p = none) : Ex H (upd H p o) := fun a u e => by
  rw [upd_ne (ne_of_none e h)]
  exact e
theorem Ex.upd2 {G H : Hp} {p : Addr} {o : HO} (e : Ex G H) : Ex (upd G p o) (upd H p o) := fun a u h => by
  by_cases ha : a = p
  · subst ha
    rw [upd_same] at h ⊢
    exact h
  · rw [upd_ne ha] at h ⊢
    exact e a u h
theorem Ex.none {H H' : Hp} (e : Ex H H') {p : Addr} (h : H' p = Option.none) : H p = Option.none := by
  cases q : H p with
  | none => rfl
  | some o =>
    rw [e p o q] at h
    cases h

/-! ### data -/
/-- an error's object: its class, its dict -/
def errO (e C : Addr) (od : Option Addr) : HO := .ext fun h => ∃ (ox : Obj) (vs : Array Value), h.get? e = some ox ∧ ox.cls = .ref C ∧ ox.dict = od ∧ ox.data = .fields vs
/-- the datum of an error of the class at C with fields of these names, the last told first -/
def errD (C : Addr) (ns : List Str) (ds : List PyData) : PyData := .dict [(.list ds, .tuple (.int (C : Int) :: ns.map PyData.str))]
def isErr : List (PyData × PyData) → Bool
  | (.list _, _) :: _ => true
  | _ => false
mutual
/-- the value v is the datum d, read in the heap G (of a dict only that it is one) -/
inductive Rp (K : PySem.W.Frag) (G : Hp) : V → PyData → Prop
  | non : Rp K G .non .none
  | bl (b : Bool) : Rp K G (.bl b) (.bool b)
  | int (i : Int) : Rp K G (.int i) (.int i)
  | str (x : Str) : Rp K G (.str x) (.str x)
  | lst {a : Addr} {xs : List V} {ds : List PyData} : G a = some (.lst xs) → RpAll K G xs ds → Rp K G (.ref a) (.list ds)
  | tup {a : Addr} {xs : List V} {ds : List PyData} : G a = some (.tup xs) → RpAll K G xs ds → Rp K G (.ref a) (.tuple ds)
  | dic {a : Addr} {kvs : List (Key × V)} {ds : List (PyData × PyData)} : G a = some (.dK kvs) → kvs.length = ds.length → isErr ds = false → Rp K G (.ref a) (.dict ds)
  | err0 {a C : Addr} : G a = some (errO a C none) → Rp K G (.ref a) (errD C [] [])
  | err {a C dd : Addr} {fs : List (Str × V)} {ns : List Str} {vs : List V} {ds : List PyData} : G a = some (errO a C (some dd)) → G dd = some (.xd fs) → fs = ns.zip vs → RpAll K G vs ds → ns.length = ds.length → Rp K G (.ref a) (errD C ns ds)
inductive RpAll (K : PySem.W.Frag) (G : Hp) : List V → List PyData → Prop
  | nil : RpAll K G [] []
  | cons {v : V} {vs : List V} {d : PyData} {ds : List PyData} : Rp K G v d → RpAll K G vs ds → RpAll K G (v :: vs) (d :: ds)
end
section
variable {K : PySem.W.Frag} {G G' : Hp}
theorem ex_l {a : Addr} {xs : List V} (e : Ex G G') (h : SqL K G a xs) : SqL K G' a xs := by
  rcases h with (h | ⟨o, h⟩) | h
  · exact .inl (.inl (e _ _ h))
  · exact .inl (.inr ⟨o, e _ _ h⟩)
  · exact .inr h
mutual
theorem Rp.mono (e : Ex G G') : ∀ {d : PyData} {v : V}, Rp K G v d → Rp K G' v d
  | _, _, .non => .non
  | _, _, .bl b => .bl b
  | _, _, .int i => .int i
  | _, _, .str x => .str x
  | _, _, .lst h r => .lst (e _ _ h) (RpAll.mono e r)
  | _, _, .tup h r => .tup (e _ _ h) (RpAll.mono e r)
  | _, _, .dic h r q => .dic (e _ _ h) r q
  | _, _, .err0 h => .err0 (e _ _ h)
  | _, _, .err h h2 q r n => .err (e _ _ h) (e _ _ h2) q (RpAll.mono e r) n
theorem RpAll.mono (e : Ex G G') : ∀ {ds : List PyData} {vs : List V}, RpAll K G vs ds → RpAll K G' vs ds
  | _, _, .nil => .nil
  | _, _, .cons h r => .cons (Rp.mono e h) (RpAll.mono e r)
end
theorem Rp.up {v : V} {d : PyData} (h : Rp K G v d) (e : Ex G G') : Rp K G' v d := Rp.mono e h
theorem RpAll.up {vs : List V} {ds : List PyData} (h : RpAll K G vs ds) (e : Ex G G') : RpAll K G' vs ds := RpAll.mono e h
mutual
theorem Rp.dp : ∀ (d : PyData) (v : V), Rp K G v d → d.canLay0 = true → Dp K G v d
  | .none, _, .non, _ => .non
  | .bool _, _, .bl b, _ => .bl b
  | .int _, _, .int i, _ => .int i
  | .str _, _, .str x, _ => .str x
  | .list ds, _, .lst h r, c => .lst (.inl (.inl h)) (RpAll.dp ds _ r (by simpa [PyData.canLay0] using c))
  | .tuple ds, _, .tup h r, c => .tup (.inl (.inl h)) (RpAll.dp ds _ r (by simpa [PyData.canLay0] using c))
  | .dict ds, _, _, c => by simp [PyData.canLay0] at c
theorem RpAll.dp : ∀ (ds : List PyData) (vs : List V), RpAll K G vs ds → PyData.canLayAll0 ds = true → DpAll K G vs ds
  | [], _, .nil, _ => .nil
  | d :: ds, _, .cons h r, c => by
    have c' : d.canLay0 = true ∧ PyData.canLayAll0 ds = true := by simpa [PyData.canLayAll0] using c
    exact .cons (Rp.dp d _ h c'.1) (RpAll.dp ds _ r c'.2)
end
theorem RpAll.len : ∀ {vs : List V} {ds : List PyData}, RpAll K G vs ds → vs.length = ds.length
  | _, _, .nil => rfl
  | _, _, .cons _ r => by rw [List.length_cons, List.length_cons, RpAll.len r]
theorem RpAll.get : ∀ {vs : List V} {ds : List PyData} {i : Nat} {d : PyData}, RpAll K G vs ds → ds[i]? = some d → ∃ v, vs[i]? = some v ∧ Rp K G v d
  | _, _, _, _, .nil, h => by simp at h
  | _, _, 0, _, .cons h _, e => by
    simp at e
    subst e
    exact ⟨_, rfl, h⟩
  | _, _, i + 1, d, .cons _ r, e => by
    obtain ⟨v, h1, h2⟩ := RpAll.get (i := i) (d := d) r (by simpa using e)
    exact ⟨v, by simpa using h1, h2⟩
theorem RpAll.get' : ∀ {vs : List V} {ds : List PyData} {i : Nat} {v : V}, RpAll K G vs ds → vs[i]? = some v → ∃ d, ds[i]? = some d ∧ Rp K G v d
  | _, _, _, _, .nil, h => by simp at h
  | _, _, 0, _, .cons h _, e => by
    simp at e
    subst e
    exact ⟨_, rfl, h⟩
  | _, _, i + 1, v, .cons _ r, e => by
    obtain ⟨d, h1, h2⟩ := RpAll.get' (i := i) (v := v) r (by simpa using e)
    exact ⟨d, by simpa using h1, h2⟩
theorem RpAll.app : ∀ {vs ws : List V} {ds es : List PyData}, RpAll K G vs ds → RpAll K G ws es → RpAll K G (vs ++ ws) (ds ++ es)
  | _, _, _, _, .nil, s => s
  | _, _, _, _, .cons h r, s => .cons h (RpAll.app r s)
theorem RpAll.one {v : V} {d : PyData} (h : Rp K G v d) : RpAll K G [v] [d] := .cons h .nil
theorem RpAll.set {v : V} {d : PyData} (h : Rp K G v d) : ∀ {vs : List V} {ds : List PyData} (i : Nat), RpAll K G vs ds → RpAll K G (vs.set i v) (ds.set i d)
  | _, _, _, .nil => .nil
  | _, _, 0, .cons _ t => .cons h t
  | _, _, i + 1, .cons q t => .cons q (RpAll.set h i t)
theorem RpAll.take : ∀ {vs : List V} {ds : List PyData} (n : Nat), RpAll K G vs ds → RpAll K G (vs.take n) (ds.take n)
  | _, _, 0, _ => .nil
  | _, _, _ + 1, .nil => .nil
  | _, _, n + 1, .cons r t => .cons r (RpAll.take n t)
theorem RpAll.drop : ∀ {vs : List V} {ds : List PyData} (n : Nat), RpAll K G vs ds → RpAll K G (vs.drop n) (ds.drop n)
  | _, _, 0, r => r
  | _, _, _ + 1, .nil => .nil
  | _, _, n + 1, .cons _ t => RpAll.drop n t
/-- what a datum's value is -/
theorem Rp.int_of {v : V} {i : Int} (h : Rp K G v (.int i)) : v = .int i := by cases h; rfl
theorem Rp.bl_of {v : V} {b : Bool} (h : Rp K G v (.bool b)) : v = .bl b := by cases h; rfl
theorem Rp.str_of {v : V} {x : Str} (h : Rp K G v (.str x)) : v = .str x := by cases h; rfl
theorem Rp.non_of {v : V} (h : Rp K G v .none) : v = .non := by cases h; rfl
theorem Rp.lst_of {v : V} {ds : List PyData} (h : Rp K G v (.list ds)) : ∃ a xs, v = .ref a ∧ G a = some (.lst xs) ∧ RpAll K G xs ds := by
  cases h with
  | lst q r => exact ⟨_, _, rfl, q, r⟩
theorem Rp.tup_of {v : V} {ds : List PyData} (h : Rp K G v (.tuple ds)) : ∃ a xs, v = .ref a ∧ G a = some (.tup xs) ∧ RpAll K G xs ds := by
  cases h with
  | tup q r => exact ⟨_, _, rfl, q, r⟩
end

/-! ### the slots of a frame -/
inductive Sl where
  | no
  | dat (d : PyData)
  | own (t : Option Nat) (ds : List PyData)
  | scr (ds : List PyData)
/-- what a def was called in: the tags' addresses, how many; what stays, the heap; and the lists that are being made -/
structure Cf where
  τ : Nat → Addr
  n : Nat
  G0 : Hp
  H0 : Hp
  hid : List (Addr × HO)
def SlOk (K : PySem.W.Frag) (c : Cf) (G H : Hp) (v : Option (Option V)) : Sl → Prop
  | .no => True
  | .dat d => ∃ x, v = some (some x) ∧ Rp K G x d
  | .scr ds => ∃ a xs, v = some (some (.ref a)) ∧ SqL K G a xs ∧ RpAll K G xs ds
  | .own t ds => ∃ p xs, v = some (some (.ref p)) ∧ G p = none ∧ H p = some (.lst xs) ∧ RpAll K G xs ds ∧
      (match t with
        | some j => j < c.n ∧ p = c.τ j
        | none => c.H0 p = none ∧ ∀ j, j < c.n → p ≠ c.τ j)
structure EnvC (K : PySem.W.Frag) (c : Cf) (G H : Hp) (σ : L2.St) (δ : List Sl) : Prop where
  g0 : Ex c.G0 G
  ex : Ex G H
  fr : ∀ a o, c.H0 a = some o → (∀ j, j < c.n → a ≠ c.τ j) → H a = some o
  fs : ∀ a, c.G0 a = none → c.H0 a ≠ none → G a = none
  tg : ∀ j, j < c.n → H (c.τ j) ≠ none ∧ G (c.τ j) = none
  len : σ.length = δ.length
  sl : ∀ (i : Nat) (s : Sl), δ[i]? = some s → SlOk K c G H (σ[i]?) s
  ap : ∀ (i j : Nat) (t1 : Option Nat) (d1 : List PyData) (t2 : Option Nat) (d2 : List PyData), i ≠ j → δ[i]? = some (.own t1 d1) → δ[j]? = some (.own t2 d2) → σ[i]? ≠ σ[j]?
  hd : ∀ p o, (p, o) ∈ c.hid → H p = some o ∧ G p = none ∧ c.H0 p = none ∧ (∀ j, j < c.n → p ≠ c.τ j) ∧ ∀ (i : Nat) (t : Option Nat) (ds : List PyData), δ[i]? = some (.own t ds) → σ[i]? ≠ some (some (.ref p))
/-- of an error that leaves: its class, its dict, its datum -/
inductive ErrRp (K : PySem.W.Frag) (G : Hp) : Value → Option Addr → PyData → Prop
  | none {C : Addr} : ErrRp K G (.ref C) none (errD C [] [])
  | some {C dd : Addr} {fs : List (Str × V)} {ns : List Str} {vs : List V} {ds : List PyData} : G dd = some (.xd fs) → fs = ns.zip vs → RpAll K G vs ds → ns.length = ds.length → ErrRp K G (.ref C) (some dd) (errD C ns ds)
/-- where errors go: what is wished of them, and the reading of that -/
class XW where
  w : Value → Option Addr → L2.St → Hp → Prop
  xr : PyData → List Sl → Prop
/-- nowhere -/
instance XW0 : XW := ⟨fun _ _ _ _ => False, fun _ _ => False⟩
structure EnvOk [XW] (K : PySem.W.Frag) (c : Cf) (G H : Hp) (σ : L2.St) (δ : List Sl) : Prop extends EnvC K c G H σ δ where
  xw : ∀ (cls : Value) (d : Option Addr) (err : PyData) (G' H' : Hp) (σ' : L2.St) (δ' : List Sl), XW.xr err δ' → EnvC K { c with hid := [] } G' H' σ' δ' → ErrRp K G' cls d err → XW.w cls d σ' H'
theorem EnvC.ok {K : PySem.W.Frag} {c : Cf} {G H : Hp} {σ : L2.St} {δ : List Sl} (E : EnvC K c G H σ δ) : EnvOk K c G H σ δ := ⟨E, fun _ _ _ _ _ _ _ h _ _ => h.elim⟩
variable [XW]
/-- new things were laid -/
structure Al (G H G' H' : Hp) : Prop where
  g : Ex G G'
  h : Ex H H'
  ex : Ex G' H'
  fs : ∀ a, G a = none → H a ≠ none → G' a = none
theorem Al.refl {G H : Hp} (e : Ex G H) : Al G H G H := ⟨Ex.refl _, Ex.refl _, e, fun _ h _ => h⟩
theorem Al.trans {G H G1 H1 G2 H2 : Hp} (a : Al G H G1 H1) (b : Al G1 H1 G2 H2) : Al G H G2 H2 := ⟨a.g.trans b.g, a.h.trans b.h, b.ex, fun x h1 h2 => by
  refine b.fs x (a.fs x h1 h2) ?_
  cases q : H x with
  | none => exact absurd q h2
  | some o =>
    rw [a.h x o q]
    exact fun z => nomatch z⟩
/-- a new thing that stays -/
theorem Al.new {G H : Hp} {p : Addr} {o : HO} (e : Ex G H) (hp : H p = none) : Al G H (upd G p o) (upd H p o) := ⟨Ex.new (e.none hp), Ex.new hp, e.upd2, fun a h1 h2 => by
  have ha : a ≠ p := fun z => h2 (by rw [z]; exact hp)
  rw [upd_ne ha]
  exact h1⟩
/-- a new thing that is to change -/
theorem Al.tmp {G H : Hp} {p : Addr} {o : HO} (e : Ex G H) (hp : H p = none) : Al G H G (upd H p o) := ⟨Ex.refl _, Ex.new hp, e.trans (Ex.new hp), fun a h1 _ => h1⟩
section
variable {K : PySem.W.Frag} {c : Cf} {G H G' H' : Hp} {σ : L2.St} {δ : List Sl}
theorem SlOk.al (A : Al G H G' H') {v : Option (Option V)} {s : Sl} (h : SlOk K c G H v s) : SlOk K c G' H' v s := by
  cases s with
  | no => trivial
  | dat d =>
    obtain ⟨x, e, r⟩ := h
    exact ⟨x, e, r.up A.g⟩
  | scr ds =>
    obtain ⟨a, xs, e, h, r⟩ := h
    exact ⟨a, xs, e, ex_l A.g h, r.up A.g⟩
  | own t ds =>
    obtain ⟨p, xs, e, g, hh, r, q⟩ := h
    exact ⟨p, xs, e, A.fs p g (by rw [hh]; exact fun z => nomatch z), A.h _ _ hh, r.up A.g, q⟩
theorem EnvOk.al (E : EnvOk K c G H σ δ) (A : Al G H G' H') : EnvOk K c G' H' σ δ where
  g0 := E.g0.trans A.g
  xw := E.xw
  ex := A.ex
  fr := fun a o h q => A.h _ _ (E.fr a o h q)
  fs := fun a h1 h2 => by
    by_cases ht : ∃ j, j < c.n ∧ a = c.τ j
    · obtain ⟨j, hj, rfl⟩ := ht
      exact A.fs _ (E.tg j hj).2 (E.tg j hj).1
    · refine A.fs a (E.fs a h1 h2) ?_
      cases q : c.H0 a with
      | none => exact absurd q h2
      | some o =>
        rw [E.fr a o q fun j hj z => ht ⟨j, hj, z⟩]
        exact fun z => nomatch z
  tg := fun j hj => by
    obtain ⟨h1, h2⟩ := E.tg j hj
    refine ⟨fun z => h1 (A.h.none z), A.fs _ h2 h1⟩
  len := E.len
  sl := fun i s h => (E.sl i s h).al A
  ap := E.ap
  hd := fun p xs h => by
    obtain ⟨h1, h2, h3⟩ := E.hd p xs h
    exact ⟨A.h _ _ h1, A.fs p h2 (by rw [h1]; exact fun z => nomatch z), h3⟩
/-- a slot is given a datum -/
theorem EnvOk.put (E : EnvOk K c G H σ δ) {i : Nat} {v : V} {d : PyData} (r : Rp K G v d) : EnvOk K c G H (σ.set i (some v)) (δ.set i (.dat d)) where
  g0 := E.g0
  xw := E.xw
  ex := E.ex
  fr := E.fr
  fs := E.fs
  tg := E.tg
  len := by rw [List.length_set, List.length_set, E.len]
  sl := fun j s h => by
    rw [List.getElem?_set] at h ⊢
    by_cases hj : i = j
    · rw [if_pos hj] at h ⊢
      by_cases hl : i < δ.length
      · rw [if_pos (by omega)] at h
        rw [if_pos (by rw [E.len]; omega)]
        cases h
        exact ⟨v, rfl, r⟩
      · rw [if_neg (by omega)] at h
        cases h
    · rw [if_neg hj] at h ⊢
      exact E.sl j s h
  ap := fun a b t1 d1 t2 d2 hab h1 h2 => by
    rw [List.getElem?_set] at h1 h2
    by_cases ha : i = a
    · rw [if_pos ha] at h1
      split at h1 <;> cases h1
    · by_cases hb : i = b
      · rw [if_pos hb] at h2
        split at h2 <;> cases h2
      · rw [if_neg ha] at h1
        rw [if_neg hb] at h2
        rw [List.getElem?_set_ne ha, List.getElem?_set_ne hb]
        exact E.ap a b t1 d1 t2 d2 hab h1 h2
  hd := fun p xs h => by
    obtain ⟨h1, h2, h3, h4, h5⟩ := E.hd p xs h
    refine ⟨h1, h2, h3, h4, fun j t ds hj => ?_⟩
    rw [List.getElem?_set] at hj
    by_cases hi : i = j
    · rw [if_pos hi] at hj
      split at hj <;> cases hj
    · rw [if_neg hi] at hj
      rw [List.getElem?_set_ne hi]
      exact h5 j t ds hj
/-- a slot is forgotten -/
theorem EnvOk.drop (E : EnvOk K c G H σ δ) {i : Nat} {v : Option V} : EnvOk K c G H (σ.set i v) (δ.set i .no) where
  g0 := E.g0
  xw := E.xw
  ex := E.ex
  fr := E.fr
  fs := E.fs
  tg := E.tg
  len := by rw [List.length_set, List.length_set, E.len]
  sl := fun j s h => by
    rw [List.getElem?_set] at h ⊢
    by_cases hj : i = j
    · rw [if_pos hj] at h
      split at h
      · cases h
        trivial
      · cases h
    · rw [if_neg hj] at h ⊢
      exact E.sl j s h
  ap := fun a b t1 d1 t2 d2 hab h1 h2 => by
    rw [List.getElem?_set] at h1 h2
    by_cases ha : i = a
    · rw [if_pos ha] at h1
      split at h1 <;> cases h1
    · by_cases hb : i = b
      · rw [if_pos hb] at h2
        split at h2 <;> cases h2
      · rw [if_neg ha] at h1
        rw [if_neg hb] at h2
        rw [List.getElem?_set_ne ha, List.getElem?_set_ne hb]
        exact E.ap a b t1 d1 t2 d2 hab h1 h2
  hd := fun p xs h => by
    obtain ⟨h1, h2, h3, h4, h5⟩ := E.hd p xs h
    refine ⟨h1, h2, h3, h4, fun j t ds hj => ?_⟩
    rw [List.getElem?_set] at hj
    by_cases hi : i = j
    · rw [if_pos hi] at hj
      split at hj <;> cases hj
    · rw [if_neg hi] at hj
      rw [List.getElem?_set_ne hi]
      exact h5 j t ds hj
/-- the list in a slot stays from here on -/
theorem EnvOk.freeze (E : EnvOk K c G H σ δ) {i : Nat} {p : Addr} {ds : List PyData} (hs : δ[i]? = some (.own none ds)) (hp : σ[i]? = some (some (.ref p))) :
    ∃ G', Ex G G' ∧ Rp K G' (.ref p) (.list ds) ∧ EnvOk K c G' H σ (δ.set i (.dat (.list ds))) := by
  obtain ⟨p', xs, e, hg, hh, r, h0, hne⟩ := E.sl i _ hs
  rw [hp] at e
  obtain rfl : p = p' := by
    have e1 := Option.some.inj (Option.some.inj e)
    exact V.ref.inj e1
  have eg : Ex G (upd G p (.lst xs)) := Ex.new hg
  have rp : Rp K (upd G p (.lst xs)) (.ref p) (.list ds) := .lst upd_same (r.up eg)
  refine ⟨upd G p (.lst xs), eg, rp, ?_⟩
  have other : ∀ j s, i ≠ j → δ[j]? = some s → SlOk K c (upd G p (.lst xs)) H (σ[j]?) s := fun j s hj h => by
    have q := E.sl j s h
    cases s with
    | no => trivial
    | dat d =>
      obtain ⟨x, e1, r1⟩ := q
      exact ⟨x, e1, r1.up eg⟩
    | scr es =>
      obtain ⟨a, ys, e1, h1, r1⟩ := q
      exact ⟨a, ys, e1, ex_l eg h1, r1.up eg⟩
    | own t es =>
      obtain ⟨p1, ys, e1, g1, h1, r1, q1⟩ := q
      have ne : p1 ≠ p := fun z => E.ap i j _ _ _ _ hj hs h (by rw [hp, e1, z])
      exact ⟨p1, ys, e1, by rw [upd_ne ne]; exact g1, h1, r1.up eg, q1⟩
  exact {
    g0 := E.g0.trans eg
    xw := E.xw
    ex := fun a o h => by
      by_cases ha : a = p
      · subst ha
        rw [upd_same] at h
        cases h
        exact hh
      · rw [upd_ne ha] at h
        exact E.ex a o h
    fr := E.fr
    fs := fun a h1 h2 => by
      have ha : a ≠ p := fun z => h2 (by rw [z]; exact h0)
      rw [upd_ne ha]
      exact E.fs a h1 h2
    tg := fun j hj => ⟨(E.tg j hj).1, by rw [upd_ne (hne j hj).symm]; exact (E.tg j hj).2⟩
    len := by rw [List.length_set, E.len]
    sl := fun j s h => by
      rw [List.getElem?_set] at h
      by_cases hj : i = j
      · rw [if_pos hj] at h
        split at h
        · cases h
          exact ⟨_, by rw [← hj]; exact hp, rp⟩
        · cases h
      · rw [if_neg hj] at h
        exact other j s hj h
    ap := fun a b t1 d1 t2 d2 hab h1 h2 => by
      rw [List.getElem?_set] at h1 h2
      by_cases ha : i = a
      · rw [if_pos ha] at h1
        split at h1 <;> cases h1
      · by_cases hb : i = b
        · rw [if_pos hb] at h2
          split at h2 <;> cases h2
        · rw [if_neg ha] at h1
          rw [if_neg hb] at h2
          exact E.ap a b t1 d1 t2 d2 hab h1 h2
    hd := fun q ys h => by
      obtain ⟨h1, h2, h3, h4, h5⟩ := E.hd q ys h
      have ne : q ≠ p := fun z => h5 i _ _ hs (by rw [hp, z])
      refine ⟨h1, by rw [upd_ne ne]; exact h2, h3, h4, fun j t es hj => ?_⟩
      rw [List.getElem?_set] at hj
      by_cases hi : i = j
      · rw [if_pos hi] at hj
        split at hj <;> cases hj
      · rw [if_neg hi] at hj
        exact h5 j t es hj }
/-- the list in a slot is changed -/
theorem EnvOk.poke (E : EnvOk K c G H σ δ) {i : Nat} {p : Addr} {t : Option Nat} {ds es : List PyData} {ys : List V} (hs : δ[i]? = some (.own t ds)) (hp : σ[i]? = some (some (.ref p))) (r : RpAll K G ys es) :
    EnvOk K c G (upd H p (.lst ys)) σ (δ.set i (.own t es)) := by
  obtain ⟨p', xs, e, hg, hh, _, q⟩ := E.sl i _ hs
  rw [hp] at e
  obtain rfl : p = p' := by
    have e1 := Option.some.inj (Option.some.inj e)
    exact V.ref.inj e1
  exact {
    g0 := E.g0
    xw := E.xw
    ex := fun a o h => by
      rw [upd_ne (ne_of_none h hg)]
      exact E.ex a o h
    fr := fun a o h k => by
      have ha : a ≠ p := by
        cases t with
        | none =>
          intro z
          rw [z, q.1] at h
          cases h
        | some j => exact fun z => k j q.1 (z.trans q.2)
      rw [upd_ne ha]
      exact E.fr a o h k
    fs := E.fs
    tg := fun j hj => by
      refine ⟨?_, (E.tg j hj).2⟩
      by_cases ha : c.τ j = p
      · rw [ha, upd_same]
        exact fun z => nomatch z
      · rw [upd_ne ha]
        exact (E.tg j hj).1
    len := by rw [List.length_set, E.len]
    sl := fun j s h => by
      rw [List.getElem?_set] at h
      by_cases hj : i = j
      · rw [if_pos hj] at h
        split at h
        · cases h
          subst hj
          exact ⟨p, ys, hp, hg, upd_same, r, q⟩
        · cases h
      · rw [if_neg hj] at h
        have z := E.sl j s h
        cases s with
        | no => trivial
        | dat d => exact z
        | scr es => exact z
        | own t' es' =>
          obtain ⟨p1, zs, e1, g1, h1, r1, q1⟩ := z
          have ne : p1 ≠ p := fun z => E.ap i j _ _ _ _ hj hs h (by rw [hp, e1, z])
          exact ⟨p1, zs, e1, g1, by rw [upd_ne ne]; exact h1, r1, q1⟩
    ap := fun a b t1 d1 t2 d2 hab h1 h2 => by
      have f : ∀ (a : Nat) (t1 : Option Nat) (d1 : List PyData), (δ.set i (Sl.own t es))[a]? = some (Sl.own t1 d1) → ∃ (t3 : Option Nat) (d3 : List PyData), δ[a]? = some (Sl.own t3 d3) := fun a t1 d1 h1 => by
        rw [List.getElem?_set] at h1
        by_cases ha : i = a
        · subst ha
          exact ⟨_, _, hs⟩
        · rw [if_neg ha] at h1
          exact ⟨_, _, h1⟩
      obtain ⟨t3, d3, e3⟩ := f a t1 d1 h1
      obtain ⟨t4, d4, e4⟩ := f b t2 d2 h2
      exact E.ap a b t3 d3 t4 d4 hab e3 e4
    hd := fun w zs h => by
      obtain ⟨h1, h2, h3, h4, h5⟩ := E.hd w zs h
      have ne : w ≠ p := fun z => h5 i _ _ hs (by rw [hp, z])
      refine ⟨by rw [upd_ne ne]; exact h1, h2, h3, h4, fun j t' es' hj => ?_⟩
      rw [List.getElem?_set] at hj
      by_cases hi : i = j
      · subst hi
        exact h5 i _ _ hs
      · rw [if_neg hi] at hj
        exact h5 j t' es' hj }
/-- a new list in a slot -/
theorem EnvOk.fresh (E : EnvOk K c G H σ δ) {i : Nat} {p : Addr} {ds : List PyData} {xs : List V} (hp : H p = none) (h0 : c.H0 p = none) (r : RpAll K G xs ds) :
    EnvOk K c G (upd H p (.lst xs)) (σ.set i (some (.ref p))) (δ.set i (.own none ds)) := by
  have E1 := E.al (Al.tmp (o := .lst xs) E.ex hp)
  have ht : ∀ j, j < c.n → p ≠ c.τ j := fun j hj z => (E.tg j hj).1 (by rw [← z]; exact hp)
  have old : ∀ (j : Nat) (t : Option Nat) (es : List PyData), δ[j]? = some (Sl.own t es) → σ[j]? ≠ some (some (V.ref p)) := fun j t es h z => by
    obtain ⟨p', ys, e, _, hh, _⟩ := E.sl j _ h
    rw [z] at e
    have e1 := V.ref.inj (Option.some.inj (Option.some.inj e))
    rw [← e1, hp] at hh
    cases hh
  exact {
    g0 := E1.g0
    xw := E1.xw
    ex := E1.ex
    fr := E1.fr
    fs := E1.fs
    tg := E1.tg
    len := by rw [List.length_set, List.length_set, E.len]
    sl := fun j s h => by
      rw [List.getElem?_set] at h ⊢
      by_cases hj : i = j
      · rw [if_pos hj] at h ⊢
        by_cases hl : i < δ.length
        · rw [if_pos (by omega)] at h
          rw [if_pos (by rw [E.len]; omega)]
          cases h
          exact ⟨p, xs, rfl, E.ex.none hp, upd_same, r, h0, ht⟩
        · rw [if_neg (by omega)] at h
          cases h
      · rw [if_neg hj] at h ⊢
        exact E1.sl j s h
    ap := fun a b t1 d1 t2 d2 hab h1 h2 => by
      rw [List.getElem?_set] at h1 h2
      by_cases ha : i = a
      · rw [if_neg (fun z => hab (ha.symm.trans z))] at h2
        rw [List.getElem?_set, if_pos ha]
        split
        · rw [List.getElem?_set_ne (fun z => hab (ha.symm.trans z))]
          exact fun z => old b _ _ h2 z.symm
        · rw [if_pos ha] at h1
          split at h1
          · rename_i u w
            rw [E.len] at u
            exact absurd w u
          · cases h1
      · rw [if_neg ha] at h1
        by_cases hb : i = b
        · rw [List.getElem?_set_ne ha, List.getElem?_set, if_pos hb]
          split
          · exact old a _ _ h1
          · rw [if_pos hb] at h2
            split at h2
            · rename_i u w
              rw [E.len] at u
              exact absurd w u
            · cases h2
        · rw [if_neg hb] at h2
          rw [List.getElem?_set_ne ha, List.getElem?_set_ne hb]
          exact E.ap a b t1 d1 t2 d2 hab h1 h2
    hd := fun w zs h => by
      obtain ⟨h1, h2, h3, h4, h5⟩ := E1.hd w zs h
      have ne : w ≠ p := fun z => by
        have h1' := (E.hd w zs h).1
        rw [z, hp] at h1'
        cases h1'
      refine ⟨h1, h2, h3, h4, fun j t' es' hj => ?_⟩
      rw [List.getElem?_set] at hj ⊢
      by_cases hi : i = j
      · rw [if_pos hi]
        split
        · exact fun z => ne (V.ref.inj (Option.some.inj (Option.some.inj z))).symm
        · exact fun z => nomatch z
      · rw [if_neg hi] at hj ⊢
        exact h5 j t' es' hj }
/-- a list is being made beside -/
theorem EnvOk.hide (E : EnvOk K c G H σ δ) {p : Addr} {ob : HO} (hp : H p = none) (h0 : c.H0 p = none) : EnvOk K { c with hid := (p, ob) :: c.hid } G (upd H p ob) σ δ := by
  have E1 := E.al (Al.tmp (o := ob) E.ex hp)
  exact {
    g0 := E1.g0
    xw := E1.xw
    ex := E1.ex
    fr := E1.fr
    fs := E1.fs
    tg := E1.tg
    len := E1.len
    sl := fun i s h => by
      have z := E1.sl i s h
      cases s with
      | no => trivial
      | dat d => exact z
      | scr es => exact z
      | own t ds => exact z
    ap := E1.ap
    hd := fun q ys h => by
      rcases List.mem_cons.mp h with e | h
      · cases e
        refine ⟨upd_same, E.ex.none hp, h0, fun j hj z => (E.tg j hj).1 (by rw [← z]; exact hp), fun i t ds hs z => ?_⟩
        obtain ⟨p', zs, e, _, hh, _⟩ := E.sl i _ hs
        rw [z] at e
        rw [← V.ref.inj (Option.some.inj (Option.some.inj e)), hp] at hh
        cases hh
      · exact E1.hd q ys h }
/-- .. and grows -/
theorem EnvOk.grow {p : Addr} {ob ob' : HO} (E : EnvOk K { c with hid := (p, ob) :: c.hid } G H σ δ) (hn : ∀ zs, (p, zs) ∉ c.hid) : EnvOk K { c with hid := (p, ob') :: c.hid } G (upd H p ob') σ δ := by
  obtain ⟨a1, a2, a3, a4, a5⟩ := E.hd p ob List.mem_cons_self
  exact {
    g0 := E.g0
    xw := E.xw
    ex := fun a o h => by
      rw [upd_ne (ne_of_none h a2)]
      exact E.ex a o h
    fr := fun a o h k => by
      rw [upd_ne (ne_of_none h a3)]
      exact E.fr a o h k
    fs := E.fs
    tg := fun j hj => by
      refine ⟨?_, (E.tg j hj).2⟩
      rw [upd_ne (a4 j hj).symm]
      exact (E.tg j hj).1
    len := E.len
    sl := fun i s h => by
      have z := E.sl i s h
      cases s with
      | no => trivial
      | dat d => exact z
      | scr es => exact z
      | own t ds =>
        obtain ⟨p1, zs, e1, g1, h1, r1, q1⟩ := z
        have ne : p1 ≠ p := fun z => a5 i t ds h (by rw [e1, z])
        exact ⟨p1, zs, e1, g1, by rw [upd_ne ne]; exact h1, r1, q1⟩
    ap := E.ap
    hd := fun q zs h => by
      rcases List.mem_cons.mp h with e | h
      · cases e
        exact ⟨upd_same, a2, a3, a4, a5⟩
      · obtain ⟨h1, h2, h3⟩ := E.hd q zs (List.mem_cons_of_mem _ h)
        have ne : q ≠ p := fun z => hn zs (by rw [← z]; exact h)
        exact ⟨by rw [upd_ne ne]; exact h1, h2, h3⟩ }
/-- .. and is there -/
theorem EnvOk.show {p : Addr} {xs : List V} {ds : List PyData} (E : EnvOk K { c with hid := (p, .lst xs) :: c.hid } G H σ δ) (hn : ∀ zs, (p, zs) ∉ c.hid) (r : RpAll K G xs ds) :
    ∃ G', Ex G G' ∧ Rp K G' (.ref p) (.list ds) ∧ EnvOk K c G' H σ δ := by
  obtain ⟨a1, a2, a3, a4, a5⟩ := E.hd p (.lst xs) List.mem_cons_self
  have eg : Ex G (upd G p (.lst xs)) := Ex.new a2
  refine ⟨upd G p (.lst xs), eg, .lst upd_same (r.up eg), ?_⟩
  exact {
    g0 := E.g0.trans eg
    xw := E.xw
    ex := fun a o h => by
      by_cases ha : a = p
      · subst ha
        rw [upd_same] at h
        cases h
        exact a1
      · rw [upd_ne ha] at h
        exact E.ex a o h
    fr := E.fr
    fs := fun a h1 h2 => by
      have ha : a ≠ p := fun z => h2 (by rw [z]; exact a3)
      rw [upd_ne ha]
      exact E.fs a h1 h2
    tg := fun j hj => ⟨(E.tg j hj).1, by rw [upd_ne (a4 j hj).symm]; exact (E.tg j hj).2⟩
    len := E.len
    sl := fun i s h => by
      have z := E.sl i s h
      cases s with
      | no => trivial
      | dat d =>
        obtain ⟨x, e1, r1⟩ := z
        exact ⟨x, e1, r1.up eg⟩
      | scr es =>
        obtain ⟨a, ys, e1, h1, r1⟩ := z
        exact ⟨a, ys, e1, ex_l eg h1, r1.up eg⟩
      | own t es =>
        obtain ⟨p1, zs, e1, g1, h1, r1, q1⟩ := z
        have ne : p1 ≠ p := fun z => a5 i t es h (by rw [e1, z])
        exact ⟨p1, zs, e1, by rw [upd_ne ne]; exact g1, h1, r1.up eg, q1⟩
    ap := E.ap
    hd := fun q zs h => by
      obtain ⟨h1, h2, h3⟩ := E.hd q zs (List.mem_cons_of_mem _ h)
      have ne : q ≠ p := fun z => hn zs (by rw [← z]; exact h)
      exact ⟨h1, by rw [upd_ne ne]; exact h2, h3⟩ }
/-- .. and is forgotten -/
theorem EnvOk.unhide {p : Addr} {ob : HO} (E : EnvOk K { c with hid := (p, ob) :: c.hid } G H σ δ) : EnvOk K c G H σ δ where
  g0 := E.g0
  xw := E.xw
  ex := E.ex
  fr := E.fr
  fs := E.fs
  tg := E.tg
  len := E.len
  sl := fun i s h => by
    have z := E.sl i s h
    cases s with
    | no => trivial
    | dat d => exact z
    | scr es => exact z
    | own t ds => exact z
  ap := E.ap
  hd := fun q zs h => E.hd q zs (List.mem_cons_of_mem _ h)
end
end TL

set_option Elab.async false
set_option linter.all false
set_option maxRecDepth 100000
set_option maxHeartbeats 2000000
/-! TL2: expressions by data. -/
namespace TL
open PySem PySem.Spec L2
variable [XW]

abbrev DQ := PyData → List Sl → Prop
abbrev DTE := List Sl → DQ → Prop
abbrev DTT := List Sl → (Bool → List Sl → Prop) → Prop
abbrev DTA := List Sl → (List PyData → List Sl → Prop) → Prop
abbrev DTO := List Sl → (Option Int → List Sl → Prop) → Prop
abbrev R2D := PyData → PyData → (PyData → Prop) → Prop
abbrev R1D := PyData → (PyData → Prop) → Prop

def RE (K : PySem.W.Frag) (t : TE) (u : DTE) : Prop := ∀ (c : Cf) (σ : L2.St) (G H : Hp) (δ : List Sl) (Q : VK) (R : DQ), EnvOk K c G H σ δ → u δ R →
  (∀ d δ' v G' H', R d δ' → EnvOk K c G' H' σ δ' → Ex G G' → Rp K G' v d → Q v H') → t σ H Q
def RT (K : PySem.W.Frag) (t : TT) (u : DTT) : Prop := ∀ (c : Cf) (σ : L2.St) (G H : Hp) (δ : List Sl) (Q : Bool → Hp → Prop) (R : Bool → List Sl → Prop), EnvOk K c G H σ δ → u δ R →
  (∀ b δ' G' H', R b δ' → EnvOk K c G' H' σ δ' → Ex G G' → Q b H') → t σ H Q
def RA (K : PySem.W.Frag) (t : TA) (u : DTA) : Prop := ∀ (c : Cf) (σ : L2.St) (G H : Hp) (δ : List Sl) (Q : List V → Hp → Prop) (R : List PyData → List Sl → Prop), EnvOk K c G H σ δ → u δ R →
  (∀ ds δ' vs G' H', R ds δ' → EnvOk K c G' H' σ δ' → Ex G G' → RpAll K G' vs ds → Q vs H') → t σ H Q
def ROp (K : PySem.W.Frag) (t : TO) (u : DTO) : Prop := ∀ (c : Cf) (σ : L2.St) (G H : Hp) (δ : List Sl) (Q : Option Int → Hp → Prop) (R : Option Int → List Sl → Prop), EnvOk K c G H σ δ → u δ R →
  (∀ o δ' G' H', R o δ' → EnvOk K c G' H' σ δ' → Ex G G' → Q o H') → t σ H Q
structure DE (X : Cx) (e : Expr) (t : TE) (u : DTE) : Prop where
  pe : PE X e t
  re : RE X.K t u
structure DT (X : Cx) (e : Expr) (t : TT) (u : DTT) : Prop where
  pt : PT X e t
  rt : RT X.K t u
structure DW (X : Cx) (e : Expr) (t : TT) (u : DTT) : Prop where
  pw : PW X e t
  rt : RT X.K t u
structure DA (X : Cx) (es : List Expr) (t : TA) (u : DTA) : Prop where
  pa : PA X es t
  ra : RA X.K t u
structure DO (X : Cx) (e : Option Expr) (t : TO) (u : DTO) : Prop where
  po : PO X e t
  ro : ROp X.K t u

/-- an operation by values -/
def RO (K : PySem.W.Frag) (r : R2) (rd : R2D) : Prop := ∀ (G H : Hp) (x y : V) (d1 d2 : PyData) (Q : VK) (R : PyData → Prop), Ex G H → Rp K G x d1 → Rp K G y d2 → rd d1 d2 R →
  (∀ d v G' H', R d → Al G H G' H' → Rp K G' v d → Q v H') → r x y H Q
def R1 (K : PySem.W.Frag) (r : V → Hp → VK → Prop) (rd : R1D) : Prop := ∀ (G H : Hp) (x : V) (d : PyData) (Q : VK) (R : PyData → Prop), Ex G H → Rp K G x d → rd d R →
  (∀ d v G' H', R d → Al G H G' H' → Rp K G' v d → Q v H') → r x H Q

/-! ### readings -/
def dVar (i : Nat) : DTE := fun δ R => match δ[i]? with
  | some (.dat d) => R d δ
  | some (.own none ds) => R (.list ds) (δ.set i (.dat (.list ds)))
  | _ => False
def dC (d : PyData) : DTE := fun δ R => R d δ
def dOp (rd : R2D) (ua ub : DTE) : DTE := fun δ R => ua δ fun d1 δ1 => ub δ1 fun d2 δ2 => rd d1 d2 fun d => R d δ2
def dUn (rd : R1D) (ua : DTE) : DTE := fun δ R => ua δ fun d1 δ1 => rd d1 fun d => R d δ1
def dTest (u : DTE) : DTT := fun δ R => u δ fun d δ' => match d with
  | .bool b => R b δ'
  | _ => False
def dAnd (t u : DTT) : DTT := fun δ R => t δ fun b δ1 => if b = true then u δ1 R else R false δ1
def dOr (t u : DTT) : DTT := fun δ R => t δ fun b δ1 => if b = true then R true δ1 else u δ1 R
def dNot (t : DTT) : DTT := fun δ R => t δ fun b δ1 => R (!b) δ1
def dAndV (ua ub : DTE) : DTE := fun δ R => ua δ fun d δ1 => match d with
  | .bool b => if b = true then ub δ1 R else R (.bool false) δ1
  | _ => False
def dOrV (ua ub : DTE) : DTE := fun δ R => ua δ fun d δ1 => match d with
  | .bool b => if b = true then R (.bool true) δ1 else ub δ1 R
  | _ => False
def dNotV (ua : DTE) : DTE := fun δ R => ua δ fun d δ1 => match d with
  | .bool b => R (.bool (!b)) δ1
  | _ => False
def dIf (t : DTT) (ua ub : DTE) : DTE := fun δ R => t δ fun b δ1 => if b = true then ua δ1 R else ub δ1 R
def dNil : DTA := fun δ R => R [] δ
def dCons (u : DTE) (ur : DTA) : DTA := fun δ R => u δ fun d δ1 => ur δ1 fun ds δ2 => R (d :: ds) δ2
def dTup (u : DTA) : DTE := fun δ R => u δ fun ds δ1 => ds.length ≤ sizeLine ∧ R (.tuple ds) δ1
def dLst (u : DTA) : DTE := fun δ R => u δ fun ds δ1 => ds.length ≤ sizeLine ∧ R (.list ds) δ1
def dNoPart : DTO := fun δ R => R none δ
def dPart (u : DTE) : DTO := fun δ R => u δ fun d δ1 => match d with
  | .int i => R (some i) δ1
  | _ => False

section
variable {K : PySem.W.Frag} {ta tb : TE} {ua ub : DTE} {t t' : TT} {u u' : DTT} {r : R2} {rd : R2D}
theorem re_var {i : Nat} : RE K (tVar i) (dVar i) := by
  intro c σ G H δ Q R E h k
  have h : (match δ[i]? with
    | some (.dat d) => R d δ
    | some (.own none ds) => R (.list ds) (δ.set i (.dat (.list ds)))
    | _ => False) := h
  cases hs : δ[i]? with
  | none =>
    rw [hs] at h
    exact h.elim
  | some s =>
    rw [hs] at h
    have z := E.sl i s hs
    cases s with
    | no => exact h.elim
    | scr ds => exact h.elim
    | dat d =>
      obtain ⟨x, e, r⟩ := z
      exact ⟨x, e, k d δ x G H h E (Ex.refl _) r⟩
    | own t ds =>
      cases t with
      | some j => exact h.elim
      | none =>
        obtain ⟨p, xs, e, _⟩ := z
        obtain ⟨G', eg, rp, E'⟩ := E.freeze hs e
        exact ⟨.ref p, e, k _ _ _ G' H h E' eg rp⟩
theorem re_c {v : V} {d : PyData} (h : ∀ G, Rp K G v d) : RE K (tC v) (dC d) := fun c σ G H δ Q R E hu k => k d δ v G H hu E (Ex.refl _) (h G)
theorem re_op (ha : RE K ta ua) (hb : RE K tb ub) (hr : RO K r rd) : RE K (tOp r ta tb) (dOp rd ua ub) := by
  intro c σ G H δ Q R E h k
  refine ha c σ G H δ _ _ E h fun d1 δ1 v1 G1 H1 h1 E1 e1 r1 => ?_
  refine hb c σ G1 H1 δ1 _ _ E1 h1 fun d2 δ2 v2 G2 H2 h2 E2 e2 r2 => ?_
  refine hr G2 H2 v1 v2 d1 d2 _ _ E2.ex (r1.up e2) r2 h2 fun d v G3 H3 h3 A r3 => ?_
  exact k d δ2 v G3 H3 h3 (E2.al A) ((e1.trans e2).trans A.g) r3
theorem re_un {r : V → Hp → VK → Prop} {rd : R1D} (ha : RE K ta ua) (hr : R1 K r rd) : RE K (tUn r ta) (dUn rd ua) := by
  intro c σ G H δ Q R E h k
  refine ha c σ G H δ _ _ E h fun d1 δ1 v1 G1 H1 h1 E1 e1 r1 => ?_
  refine hr G1 H1 v1 d1 _ _ E1.ex r1 h1 fun d v G3 H3 h3 A r3 => ?_
  exact k d δ1 v G3 H3 h3 (E1.al A) (e1.trans A.g) r3
theorem rt_test (ha : RE K ta ua) : RT K (tTest ta) (dTest ua) := by
  intro c σ G H δ Q R E h k
  refine ha c σ G H δ _ _ E h fun d δ1 v G1 H1 h1 E1 e1 r1 => ?_
  cases d with
  | bool b => exact ⟨b, r1.bl_of, k b δ1 G1 H1 h1 E1 e1⟩
  | _ => exact False.elim h1
theorem rt_and (h1 : RT K t u) (h2 : RT K t' u') : RT K (tAnd t t') (dAnd u u') := by
  intro c σ G H δ Q R E h k
  refine h1 c σ G H δ _ _ E h fun b δ1 G1 H1 q E1 e1 => ?_
  cases b with
  | true => exact h2 c σ G1 H1 δ1 Q R E1 q fun b δ2 G2 H2 q2 E2 e2 => k b δ2 G2 H2 q2 E2 (e1.trans e2)
  | false => exact k false δ1 G1 H1 q E1 e1
theorem rt_or (h1 : RT K t u) (h2 : RT K t' u') : RT K (tOr t t') (dOr u u') := by
  intro c σ G H δ Q R E h k
  refine h1 c σ G H δ _ _ E h fun b δ1 G1 H1 q E1 e1 => ?_
  cases b with
  | false => exact h2 c σ G1 H1 δ1 Q R E1 q fun b δ2 G2 H2 q2 E2 e2 => k b δ2 G2 H2 q2 E2 (e1.trans e2)
  | true => exact k true δ1 G1 H1 q E1 e1
theorem rt_not (h1 : RT K t u) : RT K (tNot t) (dNot u) := by
  intro c σ G H δ Q R E h k
  exact h1 c σ G H δ _ _ E h fun b δ1 G1 H1 q E1 e1 => k (!b) δ1 G1 H1 q E1 e1
theorem re_and (ha : RE K ta ua) (hb : RE K tb ub) : RE K (tAndV ta tb) (dAndV ua ub) := by
  intro c σ G H δ Q R E h k
  refine ha c σ G H δ _ _ E h fun d δ1 v G1 H1 h1 E1 e1 r1 => ?_
  cases d with
  | bool b =>
    refine ⟨b, r1.bl_of, ?_⟩
    cases b with
    | true => exact hb c σ G1 H1 δ1 Q R E1 h1 fun d δ2 v G2 H2 q2 E2 e2 r2 => k d δ2 v G2 H2 q2 E2 (e1.trans e2) r2
    | false => exact k _ δ1 _ G1 H1 h1 E1 e1 (.bl false)
  | _ => exact False.elim h1
theorem re_or (ha : RE K ta ua) (hb : RE K tb ub) : RE K (tOrV ta tb) (dOrV ua ub) := by
  intro c σ G H δ Q R E h k
  refine ha c σ G H δ _ _ E h fun d δ1 v G1 H1 h1 E1 e1 r1 => ?_
  cases d with
  | bool b =>
    refine ⟨b, r1.bl_of, ?_⟩
    cases b with
    | false => exact hb c σ G1 H1 δ1 Q R E1 h1 fun d δ2 v G2 H2 q2 E2 e2 r2 => k d δ2 v G2 H2 q2 E2 (e1.trans e2) r2
    | true => exact k _ δ1 _ G1 H1 h1 E1 e1 (.bl true)
  | _ => exact False.elim h1
theorem re_not (ha : RE K ta ua) : RE K (tNotV ta) (dNotV ua) := by
  intro c σ G H δ Q R E h k
  refine ha c σ G H δ _ _ E h fun d δ1 v G1 H1 h1 E1 e1 r1 => ?_
  cases d with
  | bool b => exact ⟨b, r1.bl_of, k _ δ1 _ G1 H1 h1 E1 e1 (.bl _)⟩
  | _ => exact False.elim h1
theorem re_if (hc : RT K t u) (ha : RE K ta ua) (hb : RE K tb ub) : RE K (tIf t ta tb) (dIf u ua ub) := by
  intro c σ G H δ Q R E h k
  refine hc c σ G H δ _ _ E h fun b δ1 G1 H1 q E1 e1 => ?_
  cases b with
  | true => exact ha c σ G1 H1 δ1 Q R E1 q fun d δ2 v G2 H2 q2 E2 e2 r2 => k d δ2 v G2 H2 q2 E2 (e1.trans e2) r2
  | false => exact hb c σ G1 H1 δ1 Q R E1 q fun d δ2 v G2 H2 q2 E2 e2 r2 => k d δ2 v G2 H2 q2 E2 (e1.trans e2) r2
theorem ra_nil : RA K tNil dNil := fun c σ G H δ Q R E h k => k [] δ [] G H h E (Ex.refl _) .nil
theorem ra_cons {tr : TA} {ur : DTA} (ha : RE K ta ua) (hr : RA K tr ur) : RA K (tCons ta tr) (dCons ua ur) := by
  intro c σ G H δ Q R E h k
  refine ha c σ G H δ _ _ E h fun d δ1 v G1 H1 h1 E1 e1 r1 => ?_
  exact hr c σ G1 H1 δ1 _ _ E1 h1 fun ds δ2 vs G2 H2 h2 E2 e2 r2 => k _ δ2 _ G2 H2 h2 E2 (e1.trans e2) (.cons (r1.up e2) r2)
theorem re_tup {tr : TA} {ur : DTA} (hr : RA K tr ur) : RE K (tTup tr) (dTup ur) := by
  intro c σ G H δ Q R E h k
  refine hr c σ G H δ _ _ E h fun ds δ1 vs G1 H1 h1 E1 e1 r1 => ?_
  refine ⟨by rw [r1.len]; exact h1.1, fun p hp => ?_⟩
  have A := Al.new (o := .tup vs) E1.ex hp
  exact k _ δ1 _ _ _ h1.2 (E1.al A) (e1.trans A.g) (.tup upd_same (r1.up A.g))
theorem re_lst {tr : TA} {ur : DTA} (hr : RA K tr ur) : RE K (tLst tr) (dLst ur) := by
  intro c σ G H δ Q R E h k
  refine hr c σ G H δ _ _ E h fun ds δ1 vs G1 H1 h1 E1 e1 r1 => ?_
  refine ⟨by rw [r1.len]; exact h1.1, fun p hp => ?_⟩
  have A := Al.new (o := .lst vs) E1.ex hp
  exact k _ δ1 _ _ _ h1.2 (E1.al A) (e1.trans A.g) (.lst upd_same (r1.up A.g))
theorem ro_none : ROp K tNoPart dNoPart := fun c σ G H δ Q R E h k => k none δ G H h E (Ex.refl _)
theorem ro_part (ha : RE K ta ua) : ROp K (tPart ta) (dPart ua) := by
  intro c σ G H δ Q R E h k
  refine ha c σ G H δ _ _ E h fun d δ1 v G1 H1 h1 E1 e1 r1 => ?_
  cases d with
  | int i => exact ⟨i, r1.int_of, k (some i) δ1 G1 H1 h1 E1 e1⟩
  | _ => exact False.elim h1

/-! ### operations by data -/
def dI (g : Int → Int → Int) : R2D := fun a b R => match a, b with
  | .int i, .int j => R (.int (g i j))
  | _, _ => False
def dIC (C : Int → Int → Prop) (g : Int → Int → Int) : R2D := fun a b R => match a, b with
  | .int i, .int j => C i j ∧ R (.int (g i j))
  | _, _ => False
def dB (g : Int → Int → Bool) : R2D := fun a b R => match a, b with
  | .int i, .int j => R (.bool (g i j))
  | _, _ => False
def dS (g : Str → Str → Bool) : R2D := fun a b R => match a, b with
  | .str i, .str j => R (.bool (g i j))
  | _, _ => False
def dCat : R2D := fun a b R => match a, b with
  | .list x, .list y => x.length + y.length ≤ sizeLine ∧ R (.list (x ++ y))
  | _, _ => False
def dAddS : R2D := fun a b R => match a, b with
  | .str x, .str y => x.length + y.length ≤ sizeLine ∧ R (.str (x ++ y))
  | _, _ => False
def dMulS : R2D := fun a b R => match a, b with
  | .str x, .int i => (-(2 ^ 63 : Int) ≤ i ∧ i ≤ 20000 ∧ x.length ≤ 800) ∧ R (.str (Txt.mul x i))
  | _, _ => False
def dEq : R2D := fun a b R => SeqAt.shaped a = true ∧ SeqAt.shaped b = true ∧ R (.bool (PyData.eqv a b))
def dNe : R2D := fun a b R => SeqAt.shaped a = true ∧ SeqAt.shaped b = true ∧ R (.bool (!PyData.eqv a b))
def dIn : R2D := fun a b R => match b with
  | .list ds => SeqAt.shaped a = true ∧ SeqAt.shaped (.list ds) = true ∧ R (.bool (ds.any fun z => PyData.eqv z a))
  | _ => False
def dNotIn : R2D := fun a b R => match b with
  | .list ds => SeqAt.shaped a = true ∧ SeqAt.shaped (.list ds) = true ∧ R (.bool (!ds.any fun z => PyData.eqv z a))
  | _ => False
def dIxL : R2D := fun a b R => match a, b with
  | .list ds, .int i => (match atI ds i with
    | some d => R d
    | none => False)
  | _, _ => False
def dIxT : R2D := fun a b R => match a, b with
  | .tuple ds, .int i => (match atI ds i with
    | some d => R d
    | none => False)
  | _, _ => False
def dIxS : R2D := fun a b R => match a, b with
  | .str z, .int i => z.length ≤ sizeLine ∧ (match atI z.cps.toList i with
    | some c => R (.str ⟨#[c]⟩)
    | none => False)
  | _, _ => False
theorem ro_I {g : Int → Int → Int} : RO K (rI0 fun i j => .int (g i j)) (dI g) := by
  intro G H x y d1 d2 Q R e r1 r2 h k
  cases d1 <;> cases d2 <;> first
    | exact False.elim h
    | exact ⟨_, _, r1.int_of, r2.int_of, k _ _ G H h (Al.refl e) (.int _)⟩
theorem ro_IC {C : Int → Int → Prop} {g : Int → Int → Int} : RO K (rI C fun i j => .int (g i j)) (dIC C g) := by
  intro G H x y d1 d2 Q R e r1 r2 h k
  cases d1 <;> cases d2 <;> first
    | exact False.elim h
    | exact ⟨_, _, r1.int_of, r2.int_of, h.1, k _ _ G H h.2 (Al.refl e) (.int _)⟩
theorem ro_B {g : Int → Int → Bool} : RO K (rI0 fun i j => .bl (g i j)) (dB g) := by
  intro G H x y d1 d2 Q R e r1 r2 h k
  cases d1 <;> cases d2 <;> first
    | exact False.elim h
    | exact ⟨_, _, r1.int_of, r2.int_of, k _ _ G H h (Al.refl e) (.bl _)⟩
theorem ro_S {g : Str → Str → Bool} : RO K (fun x y H Q => ∃ i j, x = .str i ∧ y = .str j ∧ Q (.bl (g i j)) H) (dS g) := by
  intro G H x y d1 d2 Q R e r1 r2 h k
  cases d1 <;> cases d2 <;> first
    | exact False.elim h
    | exact ⟨_, _, r1.str_of, r2.str_of, k _ _ G H h (Al.refl e) (.bl _)⟩
theorem ro_cat : RO K rCat dCat := by
  intro G H x y d1 d2 Q R e r1 r2 h k
  cases d1 <;> cases d2 <;> first
    | exact False.elim h
    | skip
  obtain ⟨a, xs, rfl, h1, q1⟩ := r1.lst_of
  obtain ⟨b, ys, rfl, h2, q2⟩ := r2.lst_of
  refine ⟨a, b, xs, ys, rfl, rfl, e _ _ h1, e _ _ h2, by rw [q1.len, q2.len]; exact h.1, fun p hp => ?_⟩
  have A := Al.new (o := .lst (xs ++ ys)) e hp
  exact k _ _ _ _ h.2 A (.lst upd_same ((q1.app q2).up A.g))
theorem ro_addS : RO K (fun x y H Q => ∃ i j, x = .str i ∧ y = .str j ∧ i.length + j.length ≤ sizeLine ∧ Q (.str (i ++ j)) H) dAddS := by
  intro G H x y d1 d2 Q R e r1 r2 h k
  cases d1 <;> cases d2 <;> first
    | exact False.elim h
    | exact ⟨_, _, r1.str_of, r2.str_of, h.1, k _ _ G H h.2 (Al.refl e) (.str _)⟩
def rMulS : R2 := fun x y H Q => ∃ z i, x = .str z ∧ y = .int i ∧ (-(2 ^ 63 : Int) ≤ i ∧ i ≤ 20000 ∧ z.length ≤ 800) ∧ Q (.str (Txt.mul z i)) H
theorem ro_mulS : RO K rMulS dMulS := by
  intro G H x y d1 d2 Q R e r1 r2 h k
  cases d1 <;> cases d2 <;> first
    | exact False.elim h
    | exact ⟨_, _, r1.str_of, r2.int_of, h.1, k _ _ G H h.2 (Al.refl e) (.str _)⟩
theorem ro_eq : RO K (rEqD K) dEq := by
  intro G H x y d1 d2 Q R e r1 r2 h k
  exact ⟨d1, d2, (r1.up e).dp _ _ (SeqAt.canLay_of_shaped h.1), (r2.up e).dp _ _ (SeqAt.canLay_of_shaped h.2.1), h.1, h.2.1, k _ _ G H h.2.2 (Al.refl e) (.bl _)⟩
theorem ro_ne : RO K (rNeD K) dNe := by
  intro G H x y d1 d2 Q R e r1 r2 h k
  exact ⟨d1, d2, (r1.up e).dp _ _ (SeqAt.canLay_of_shaped h.1), (r2.up e).dp _ _ (SeqAt.canLay_of_shaped h.2.1), h.1, h.2.1, k _ _ G H h.2.2 (Al.refl e) (.bl _)⟩
theorem ro_in : RO K (rInD K) dIn := by
  intro G H x y d1 d2 Q R e r1 r2 h k
  cases d2 <;> first
    | exact False.elim h
    | exact ⟨d1, _, (r1.up e).dp _ _ (SeqAt.canLay_of_shaped h.1), (r2.up e).dp _ _ (SeqAt.canLay_of_shaped h.2.1), h.1, h.2.1, k _ _ G H h.2.2 (Al.refl e) (.bl _)⟩
theorem ro_notIn : RO K (rNotInD K) dNotIn := by
  intro G H x y d1 d2 Q R e r1 r2 h k
  cases d2 <;> first
    | exact False.elim h
    | exact ⟨d1, _, (r1.up e).dp _ _ (SeqAt.canLay_of_shaped h.1), (r2.up e).dp _ _ (SeqAt.canLay_of_shaped h.2.1), h.1, h.2.1, k _ _ G H h.2.2 (Al.refl e) (.bl _)⟩
theorem at_rp {G : Hp} {xs : List V} {ds : List PyData} (r : RpAll K G xs ds) {i : Int} {d : PyData} (h : atI ds i = some d) : ∃ v, atI xs i = some v ∧ Rp K G v d := by
  unfold atI at h ⊢
  rw [r.len]
  cases q : ixN ds.length i with
  | none =>
    rw [q] at h
    cases h
  | some j =>
    rw [q] at h
    exact r.get h
theorem ro_ixL : RO K (rIxL K) dIxL := by
  intro G H x y d1 d2 Q R e r1 r2 h k
  cases d1 <;> cases d2 <;> first
    | exact False.elim h
    | skip
  rename_i ds i
  obtain ⟨a, xs, rfl, h1, q1⟩ := r1.lst_of
  have h : (match atI ds i with
    | some d => R d
    | none => False) := h
  cases q : atI ds i with
  | none =>
    rw [q] at h
    exact h.elim
  | some d =>
    rw [q] at h
    obtain ⟨v, hv, rv⟩ := at_rp q1 q
    exact ⟨a, xs, i, v, rfl, r2.int_of, .inl (.inl (e _ _ h1)), hv, k d v G H h (Al.refl e) rv⟩
theorem ro_ixT : RO K (rIxT K) dIxT := by
  intro G H x y d1 d2 Q R e r1 r2 h k
  cases d1 <;> cases d2 <;> first
    | exact False.elim h
    | skip
  rename_i ds i
  obtain ⟨a, xs, rfl, h1, q1⟩ := r1.tup_of
  have h : (match atI ds i with
    | some d => R d
    | none => False) := h
  cases q : atI ds i with
  | none =>
    rw [q] at h
    exact h.elim
  | some d =>
    rw [q] at h
    obtain ⟨v, hv, rv⟩ := at_rp q1 q
    exact ⟨a, xs, i, v, rfl, r2.int_of, .inl (.inl (e _ _ h1)), hv, k d v G H h (Al.refl e) rv⟩
theorem ro_ixS : RO K rIxS dIxS := by
  intro G H x y d1 d2 Q R e r1 r2 h k
  cases d1 <;> cases d2 <;> first
    | exact False.elim h
    | skip
  rename_i z i
  obtain ⟨hz, h⟩ := h
  have h : (match atI z.cps.toList i with
    | some c => R (.str ⟨#[c]⟩)
    | none => False) := h
  cases q : atI z.cps.toList i with
  | none =>
    rw [q] at h
    exact h.elim
  | some c =>
    rw [q] at h
    exact ⟨z, i, c, r1.str_of, r2.int_of, hz, q, k _ _ G H h (Al.refl e) (.str _)⟩

/-! ### slices -/
abbrev R3D := PyData → Option Int → Option Int → (PyData → Prop) → Prop
def RSl (K : PySem.W.Frag) (r : V → Option Int → Option Int → Hp → VK → Prop) (rd : R3D) : Prop := ∀ (G H : Hp) (x : V) (d : PyData) (lo hi : Option Int) (Q : VK) (R : PyData → Prop), Ex G H → Rp K G x d → rd d lo hi R →
  (∀ d v G' H', R d → Al G H G' H' → Rp K G' v d → Q v H') → r x lo hi H Q
def dSl (rd : R3D) (u : DTE) (ul uh : DTO) : DTE := fun δ R => u δ fun d δ1 => ul δ1 fun lo δ2 => uh δ2 fun hi δ3 => rd d lo hi fun d' => R d' δ3
theorem re_sl {r : V → Option Int → Option Int → Hp → VK → Prop} {rd : R3D} {tl th : TO} {ul uh : DTO} (ha : RE K ta ua) (hl : ROp K tl ul) (hh : ROp K th uh) (hr : RSl K r rd) : RE K (tSl r ta tl th) (dSl rd ua ul uh) := by
  intro c σ G H δ Q R E h k
  refine ha c σ G H δ _ _ E h fun d1 δ1 v1 G1 H1 h1 E1 e1 r1 => ?_
  refine hl c σ G1 H1 δ1 _ _ E1 h1 fun lo δ2 G2 H2 h2 E2 e2 => ?_
  refine hh c σ G2 H2 δ2 _ _ E2 h2 fun hi δ3 G3 H3 h3 E3 e3 => ?_
  refine hr G3 H3 v1 d1 lo hi _ _ E3.ex ((r1.up e2).up e3) h3 fun d v G4 H4 h4 A r4 => ?_
  exact k d δ3 v G4 H4 h4 (E3.al A) (((e1.trans e2).trans e3).trans A.g) r4
def cutP (ds : List PyData) (lo hi : Option Int) : List PyData := (ds.drop (HT.sIx ds.length 0 lo)).take (HT.sIx ds.length ds.length hi - HT.sIx ds.length 0 lo)
theorem cut_rp {G : Hp} {xs : List V} {ds : List PyData} (r : RpAll K G xs ds) (lo hi : Option Int) : RpAll K G (cutV xs lo hi) (cutP ds lo hi) := by
  unfold cutV cutP
  rw [r.len]
  exact (r.drop _).take _
def dSlL : R3D := fun d lo hi R => match d with
  | .list ds => R (.list (cutP ds lo hi))
  | _ => False
def dSlS : R3D := fun d lo hi R => match d with
  | .str z => z.length ≤ sizeLine ∧ R (.str (cutS z lo hi))
  | _ => False
def dSlT : R3D := fun d lo hi R => match d with
  | .tuple ds => ¬ (HT.sIx ds.length 0 lo = 0 ∧ HT.sIx ds.length ds.length hi = ds.length) ∧ R (.tuple (cutP ds lo hi))
  | _ => False
theorem rsl_list : RSl K (rSlL K) dSlL := by
  intro G H x d lo hi Q R e r h k
  cases d <;> first
    | exact False.elim h
    | skip
  obtain ⟨a, xs, rfl, h1, q1⟩ := r.lst_of
  refine ⟨a, xs, rfl, .inl (.inl (e _ _ h1)), fun p hp => ?_⟩
  have A := Al.new (o := .lst (cutV xs lo hi)) e hp
  exact k _ _ _ _ h A (.lst upd_same ((cut_rp q1 lo hi).up A.g))
theorem rsl_tup : RSl K (rSlT K) dSlT := by
  intro G H x d lo hi Q R e r h k
  cases d <;> first
    | exact False.elim h
    | skip
  obtain ⟨a, xs, rfl, h1, q1⟩ := r.tup_of
  refine ⟨a, xs, rfl, .inl (.inl (e _ _ h1)), by rw [q1.len]; exact h.1, fun p hp => ?_⟩
  have A := Al.new (o := .tup (cutV xs lo hi)) e hp
  exact k _ _ _ _ h.2 A (.tup upd_same ((cut_rp q1 lo hi).up A.g))
theorem rsl_str : RSl K rSlS dSlS := by
  intro G H x d lo hi Q R e r h k
  cases d <;> first
    | exact False.elim h
    | exact ⟨_, r.str_of, h.1, k _ _ G H h.2 (Al.refl e) (.str _)⟩
/-- a slice of what was handed in -/
def dSlScr (i : Nat) (ul uh : DTO) : DTE := fun δ R => match δ[i]? with
  | some (.scr ds) => ul δ fun lo δ2 => uh δ2 fun hi δ3 => R (.list (cutP ds lo hi)) δ3
  | _ => False
theorem re_slScr {i : Nat} {tl th : TO} {ul uh : DTO} (hl : ROp K tl ul) (hh : ROp K th uh) : RE K (tSl (rSlL K) (tVar i) tl th) (dSlScr i ul uh) := by
  intro c σ G H δ Q R E h k
  have h : (match δ[i]? with
    | some (.scr ds) => ul δ fun lo δ2 => uh δ2 fun hi δ3 => R (.list (cutP ds lo hi)) δ3
    | _ => False) := h
  cases hs : δ[i]? with
  | none =>
    rw [hs] at h
    exact h.elim
  | some s =>
    rw [hs] at h
    have z := E.sl i s hs
    cases s with
    | no => exact h.elim
    | dat d => exact h.elim
    | own t ds => exact h.elim
    | scr ds =>
      obtain ⟨a, xs, e, sq, r⟩ := z
      refine ⟨.ref a, e, ?_⟩
      refine hl c σ G H δ _ _ E h fun lo δ2 G2 H2 h2 E2 e2 => ?_
      refine hh c σ G2 H2 δ2 _ _ E2 h2 fun hi δ3 G3 H3 h3 E3 e3 => ?_
      refine ⟨a, xs, rfl, ex_l E3.ex (ex_l e3 (ex_l e2 sq)), fun p hp => ?_⟩
      have A := Al.new (o := .lst (cutV xs lo hi)) E3.ex hp
      exact k _ _ _ _ _ h3 (E3.al A) ((e2.trans e3).trans A.g) (.lst upd_same ((cut_rp r lo hi).up ((e2.trans e3).trans A.g)))
end

section
variable {X : Cx} {a b c e : Expr} {es : List Expr} {ta tb tc te : TE} {ua ub uc ue : DTE} {pos p p2 : Pos} {t t' : TT} {u u' : DTT} {tr : TA} {ur : DTA}
theorem de_var (i : Nat) {x : Str} (hN : X.N[i]? = some x := by rfl) (hv : Vis X.env.scope x := by first | exact Or.inl rfl | exact Or.inr (Or.inl rfl) | exact Or.inr (Or.inr rfl)) (hd : (x == ("__debug__" : Str)) = false := by decide)
    (hcd : (x == ("__classdict__" : Str)) = false := by decide) : DE X (.Name x pos) (tVar i) (dVar i) := ⟨pe_var hN hv hd hcd, re_var⟩
theorem de_int {i j} : DE X (.Constant (.int i) j pos) (tC (.int i)) (dC (.int i)) := ⟨pe_int, re_c fun _ => .int i⟩
theorem de_bl {k j} : DE X (.Constant (.bool k) j pos) (tC (.bl k)) (dC (.bool k)) := ⟨pe_bl, re_c fun _ => .bl k⟩
theorem de_non {j} : DE X (.Constant .none j pos) (tC .non) (dC .none) := ⟨pe_non, re_c fun _ => .non⟩
theorem de_str {x j} : DE X (.Constant (.str x) j pos) (tC (.str x)) (dC (.str x)) := ⟨pe_str, re_c fun _ => .str x⟩
/-- a constant of the module -/
theorem de_gint {x : Str} {i : Int} (hg : Gl X x) (h : ∃ tk, X.mg x = some (.int i tk)) (hd : (x == ("__debug__" : Str)) = false := by decide) : DE X (.Name x pos) (tC (.int i)) (dC (.int i)) := by
  obtain ⟨tk, h⟩ := h
  exact ⟨pe_glob hg h ⟨_, rfl⟩ hd, re_c fun _ => .int i⟩
theorem de_op {op : Operator} {r : R2} {rd : R2D} (ho : OpR X (binaryOp op) r) (hr : RO X.K r rd) (ha : DE X a ta ua) (hb : DE X b tb ub) : DE X (.BinOp a op b pos) (tOp r ta tb) (dOp rd ua ub) := ⟨pe_op ho ha.pe hb.pe, re_op ha.re hb.re hr⟩
theorem de_cmp {op : CmpOp} {r : R2} {rd : R2D} (ho : OpR X (compareOp op) r) (hr : RO X.K r rd) (hm : behindInMarks op b = false) (ha : DE X a ta ua) (hb : DE X b tb ub) : DE X (.Compare a [op] [b] pos) (tOp r ta tb) (dOp rd ua ub) := ⟨pe_cmpR ho ha.pe hb.pe hm, re_op ha.re hb.re hr⟩
theorem dt_cmp {op : CmpOp} {r : R2} {rd : R2D} (ho : OpR X (compareOp op) r) (hr : RO X.K r rd) (hm : behindInMarks op b = false) (ha : DE X a ta ua) (hb : DE X b tb ub) : DT X (.Compare a [op] [b] pos) (tTest (tOp r ta tb)) (dTest (dOp rd ua ub)) := ⟨pt_cmpR ho ha.pe hb.pe hm, rt_test (re_op ha.re hb.re hr)⟩
theorem dt_val (h : DE X e te ue) (he : ∀ whole, isTrue e X.env whole = (do let v ← whole; standAt e.pos; holding [v] (truthy v)) := by intro _; rfl) : DT X e (tTest te) (dTest ue) := ⟨pt_val h.pe he, rt_test h.re⟩
theorem dt_not (h : DT X a t u) : DT X (.UnaryOp .Not a pos) (tNot t) (dNot u) := ⟨pt_not h.pt, rt_not h.rt⟩
theorem dw_and1 (h : DT X a t u) : DW X (.BoolOp .And [a] pos) t u := ⟨pw_and1 h.pt, h.rt⟩
theorem dw_or1 (h : DT X a t u) : DW X (.BoolOp .Or [a] pos) t u := ⟨pw_or1 h.pt, h.rt⟩
theorem dw_and {rest : List Expr} (ha : DT X a t u) (hb : DW X (.BoolOp .And (b :: rest) pos) t' u') : DW X (.BoolOp .And (a :: b :: rest) pos) (tAnd t t') (dAnd u u') := ⟨pw_and ha.pt hb.pw, rt_and ha.rt hb.rt⟩
theorem dw_or {rest : List Expr} (ha : DT X a t u) (hb : DW X (.BoolOp .Or (b :: rest) pos) t' u') : DW X (.BoolOp .Or (a :: b :: rest) pos) (tOr t t') (dOr u u') := ⟨pw_or ha.pt hb.pw, rt_or ha.rt hb.rt⟩
theorem dt_w (h : DW X e t u) : DT X e t u := ⟨h.pw.pt, h.rt⟩
theorem de_one {op} (h : DE X a ta ua) : DE X (.BoolOp op [a] pos) ta ua := ⟨pe_one h.pe, h.re⟩
theorem de_and {rest : List Expr} (ha : DE X a ta ua) (hb : DE X (.BoolOp .And (b :: rest) pos) tb ub) : DE X (.BoolOp .And (a :: b :: rest) pos) (tAndV ta tb) (dAndV ua ub) := ⟨pe_and ha.pe hb.pe, re_and ha.re hb.re⟩
theorem de_or {rest : List Expr} (ha : DE X a ta ua) (hb : DE X (.BoolOp .Or (b :: rest) pos) tb ub) : DE X (.BoolOp .Or (a :: b :: rest) pos) (tOrV ta tb) (dOrV ua ub) := ⟨pe_or ha.pe hb.pe, re_or ha.re hb.re⟩
theorem de_not (ha : DE X a ta ua) : DE X (.UnaryOp .Not a pos) (tNotV ta) (dNotV ua) := ⟨pe_not ha.pe, re_not ha.re⟩
theorem de_if (hc : DT X c t u) (ha : DE X a ta ua) (hb : DE X b tb ub) : DE X (.IfExp c a b pos) (tIf t ta tb) (dIf u ua ub) := ⟨pe_ifExp hc.pt ha.pe hb.pe, re_if hc.rt ha.re hb.re⟩
theorem da_nil : DA X [] tNil dNil := ⟨pa_nil, ra_nil⟩
theorem da_cons (ha : DE X e te ue) (hr : DA X es tr ur) (hs : starEach (e :: es) X.env = (false, eval e X.env) :: starEach es X.env := by rfl) : DA X (e :: es) (tCons te tr) (dCons ue ur) := ⟨pa_cons ha.pe hr.pa hs, ra_cons ha.re hr.ra⟩
theorem de_tup {x1} (h : DA X es tr ur) : DE X (.Tuple es x1 pos) (tTup tr) (dTup ur) := ⟨pe_tup h.pa, re_tup h.ra⟩
theorem de_lst (h : DA X es tr ur) : DE X (.List es pos) (tLst tr) (dLst ur) := ⟨pe_lst h.pa, re_lst h.ra⟩
theorem do_none : DO X none tNoPart dNoPart := ⟨po_none, ro_none⟩
theorem do_some (h : DE X e te ue) : DO X (some e) (tPart te) (dPart ue) := ⟨po_some h.pe, ro_part h.re⟩
theorem de_ix {r : R2} {rd : R2D} (hi : IxR X r) (hr : RO X.K r rd) (ha : DE X a ta ua) (hb : DE X b tb ub) (hs : PlainIx b := by exact fun _ _ => rfl) : DE X (.Subscript a b pos) (tOp r ta tb) (dOp rd ua ub) := ⟨pe_ix hi ha.pe hb.pe hs, re_op ha.re hb.re hr⟩
theorem de_sl {r : V → Option Int → Option Int → Hp → VK → Prop} {rd : R3D} {lo hi : Option Expr} {tl th : TO} {ul uh : DTO} (hs : SlR X r) (hr : RSl X.K r rd) (he : DE X e te ue) (hl : DO X lo tl ul) (hh : DO X hi th uh) :
    DE X (.Subscript e (.Slice lo hi none p2) pos) (tSl r te tl th) (dSl rd ue ul uh) := ⟨pe_slice hs he.pe hl.po hh.po, re_sl he.re hl.ro hh.ro hr⟩
theorem de_slScr (i : Nat) {x : Str} {lo hi : Option Expr} {tl th : TO} {ul uh : DTO} (hl : DO X lo tl ul) (hh : DO X hi th uh) (hN : X.N[i]? = some x := by rfl) (hv : Vis X.env.scope x := by first | exact Or.inl rfl | exact Or.inr (Or.inl rfl) | exact Or.inr (Or.inr rfl)) (hd : (x == ("__debug__" : Str)) = false := by decide)
    (hcd : (x == ("__classdict__" : Str)) = false := by decide) :
    DE X (.Subscript (.Name x p) (.Slice lo hi none p2) pos) (tSl (rSlL X.K) (tVar i) tl th) (dSlScr i ul uh) := ⟨pe_slice sl_list (pe_var hN hv hd hcd) hl.po hh.po, re_slScr hl.ro hh.ro⟩
theorem op_mulS : OpR X (binaryOp .Mult) rMulS := by
  intro pins s σ H x y v u Q I rx ry h
  obtain ⟨z, i, rfl, rfl, ⟨h1, h2, h3⟩, q⟩ := h
  obtain ⟨t, rfl⟩ := rx
  obtain ⟨t', rfl⟩ := ry
  exact SB.mul (PyProof.Rows.mulOk_of 800 20000 h3 h2 h1 (by decide) (by decide)) fun t' k => ⟨.str _, H, I.tok k, ⟨t', rfl⟩, q⟩
/-- 'a' <= x <= 'z' and its like -/
def dChain (r r' : R2D) (ua ub uc : DTE) : DTE := fun δ R => ua δ fun d1 δ1 => ub δ1 fun d2 δ2 => r d1 d2 fun d => match d with
  | .bool k => if k = true then uc δ2 fun d3 δ3 => r' d2 d3 fun d' => R d' δ3 else R (.bool false) δ2
  | _ => False
end
end TL

set_option Elab.async false
set_option linter.all false
set_option maxRecDepth 100000
set_option maxHeartbeats 2000000
/-! TL3: statements, loops, comprehensions by data. -/
namespace TL
open PySem PySem.Spec L2
variable [XW]

theorem EnvOk.new0 {K : PySem.W.Frag} {c : Cf} {G H : Hp} {σ : L2.St} {δ : List Sl} (E : EnvOk K c G H σ δ) {p : Addr} (hp : H p = none) : c.H0 p = none := by
  cases q : c.H0 p with
  | none => rfl
  | some o =>
    by_cases ht : ∃ j, j < c.n ∧ p = c.τ j
    · obtain ⟨j, hj, e⟩ := ht
      exact absurd (by rw [← e]; exact hp) (E.tg j hj).1
    · have z := E.fr p o q fun j hj e => ht ⟨j, hj, e⟩
      rw [hp] at z
      cases z

/-! ### what is left of expressions -/
section
variable {K : PySem.W.Frag} {ta tb tc : TE} {ua ub uc : DTE} {r r' : R2} {rd rd' : R2D}
theorem re_chain (ha : RE K ta ua) (hb : RE K tb ub) (hc : RE K tc uc) (hr : RO K r rd) (hr' : RO K r' rd') : RE K (tChain r r' ta tb tc) (dChain rd rd' ua ub uc) := by
  intro c σ G H δ Q R E h k
  refine ha c σ G H δ _ _ E h fun d1 δ1 v1 G1 H1 h1 E1 e1 r1 => ?_
  refine hb c σ G1 H1 δ1 _ _ E1 h1 fun d2 δ2 v2 G2 H2 h2 E2 e2 r2 => ?_
  refine hr G2 H2 v1 v2 d1 d2 _ _ E2.ex (r1.up e2) r2 h2 fun d v G3 H3 h3 A r3 => ?_
  cases d with
  | bool b =>
    refine ⟨b, r3.bl_of, ?_⟩
    cases b with
    | true =>
      refine hc c σ G3 H3 δ2 _ _ (E2.al A) h3 fun d3 δ3 v3 G4 H4 h4 E4 e4 r4 => ?_
      refine hr' G4 H4 v2 v3 d2 d3 _ _ E4.ex ((r2.up A.g).up e4) r4 h4 fun d v G5 H5 h5 A5 r5 => ?_
      exact k d δ3 v G5 H5 h5 (E4.al A5) ((((e1.trans e2).trans A.g).trans e4).trans A5.g) r5
    | false => exact k _ δ2 _ G3 H3 h3 (E2.al A) ((e1.trans e2).trans A.g) (.bl false)
  | _ => exact False.elim h3
/-- a list that stands in a slot, one that is being made too -/
def slL : Option Sl → Option (List PyData)
  | some (.own _ ds) => some ds
  | some (.dat (.list ds)) => some ds
  | _ => none
theorem slL_ok {c : Cf} {G H : Hp} {σ : L2.St} {δ : List Sl} (E : EnvOk K c G H σ δ) {i : Nat} {ds : List PyData} (h : slL δ[i]? = some ds) : ∃ p xs, σ[i]? = some (some (.ref p)) ∧ H p = some (.lst xs) ∧ RpAll K G xs ds := by
  cases hs : δ[i]? with
  | none =>
    rw [hs] at h
    cases h
  | some s =>
    rw [hs] at h
    have z := E.sl i s hs
    cases s with
    | no => cases h
    | scr es => cases h
    | own t es =>
      have e := Option.some.inj h
      subst e
      obtain ⟨p, xs, e, _, hh, r, _⟩ := z
      exact ⟨p, xs, e, hh, r⟩
    | dat x =>
      cases x <;> first
        | cases h
        | skip
      obtain ⟨x, e, rx⟩ := z
      obtain ⟨a, xs, rfl, q1, q2⟩ := rx.lst_of
      exact ⟨a, xs, e, E.ex _ _ q1, q2⟩
/-- an item of a list by its name -/
def dIxV (i : Nat) (ub : DTE) : DTE := fun δ R => (slL δ[i]?).isSome = true ∧ ub δ fun d δ1 => match slL δ1[i]?, d with
  | some ds, .int k => (match atI ds k with
    | some x => R x δ1
    | none => False)
  | _, _ => False
theorem re_ixV {i : Nat} (hb : RE K tb ub) : RE K (tOp (rIxL K) (tVar i) tb) (dIxV i ub) := by
  intro c σ G H δ Q R E h k
  obtain ⟨h0, h⟩ := h
  obtain ⟨ds0, h0⟩ := Option.isSome_iff_exists.mp h0
  obtain ⟨p, xs0, hv, _, _⟩ := slL_ok E h0
  refine ⟨.ref p, hv, ?_⟩
  refine hb c σ G H δ _ _ E h fun d δ1 y G1 H1 h1 E1 e1 r1 => ?_
  cases hs : slL δ1[i]? with
  | none =>
    rw [hs] at h1
    exact False.elim h1
  | some ds =>
    rw [hs] at h1
    cases d <;> first
      | exact False.elim h1
      | skip
    rename_i j
    have h1 : (match atI ds j with
      | some x => R x δ1
      | none => False) := h1
    obtain ⟨p', xs, hv', hh, rr⟩ := slL_ok E1 hs
    rw [hv] at hv'
    have ev := V.ref.inj (Option.some.inj (Option.some.inj hv'))
    subst ev
    cases q : atI ds j with
    | none =>
      rw [q] at h1
      exact h1.elim
    | some w =>
      rw [q] at h1
      obtain ⟨u, hu, ru⟩ := at_rp rr q
      exact ⟨p, xs, j, u, rfl, r1.int_of, .inl (.inl hh), hu, k w δ1 u G1 H1 h1 E1 e1 ru⟩
/-- how long something is -/
def dLen (u : DTE) : DTE := fun δ R => u δ fun d δ1 => match d with
  | .str x => x.length ≤ sizeLine ∧ R (.int (x.length : Int)) δ1
  | .list ds => R (.int (ds.length : Int)) δ1
  | .tuple ds => R (.int (ds.length : Int)) δ1
  | _ => False
def rLen (K : PySem.W.Frag) : List V → Hp → VK → Prop := fun xs H Q => ∃ x n, xs = [x] ∧ LenV K x H n ∧ Q (.int n) H
theorem re_len (ha : RE K ta ua) : RE K (tCB (rLen K) (tCons ta tNil)) (dLen ua) := by
  intro c σ G H δ Q R E h k
  refine ha c σ G H δ _ _ E h fun d δ1 v G1 H1 h1 E1 e1 r1 => ?_
  cases d <;> first
    | exact False.elim h1
    | skip
  · have e := r1.str_of
    subst e
    exact ⟨_, _, rfl, ⟨h1.1, rfl⟩, k _ δ1 _ G1 H1 h1.2 E1 e1 (.int _)⟩
  · obtain ⟨a, xs, rfl, q1, q2⟩ := r1.lst_of
    exact ⟨_, _, rfl, .inl ⟨xs, .inl (.inl (E1.ex _ _ q1)), rfl⟩, by rw [q2.len]; exact k _ δ1 _ G1 H1 h1 E1 e1 (.int _)⟩
  · obtain ⟨a, xs, rfl, q1, q2⟩ := r1.tup_of
    exact ⟨_, _, rfl, .inr ⟨xs, .inl (.inl (E1.ex _ _ q1)), rfl⟩, by rw [q2.len]; exact k _ δ1 _ G1 H1 h1 E1 e1 (.int _)⟩
/-- .. of a list, or of what was handed in, by its name -/
def dLenV (i : Nat) : DTE := fun δ R => match δ[i]? with
  | some (.own _ ds) => R (.int (ds.length : Int)) δ
  | some (.dat (.list ds)) => R (.int (ds.length : Int)) δ
  | some (.scr ds) => R (.int (ds.length : Int)) δ
  | _ => False
theorem re_lenV {i : Nat} : RE K (tCB (rLen K) (tCons (tVar i) tNil)) (dLenV i) := by
  intro c σ G H δ Q R E h k
  have fin : ∀ p xs (ds : List PyData), σ[i]? = some (some (.ref p)) → SqL K H p xs → RpAll K G xs ds → R (.int (ds.length : Int)) δ → tCB (rLen K) (tCons (tVar i) tNil) σ H Q := fun p xs ds e q r hr =>
    ⟨_, e, _, _, rfl, .inl ⟨xs, q, rfl⟩, by rw [r.len]; exact k _ δ _ G H hr E (Ex.refl _) (.int _)⟩
  cases hs : δ[i]? with
  | none =>
    unfold dLenV at h
    rw [hs] at h
    exact False.elim h
  | some s =>
    have z := E.sl i s hs
    unfold dLenV at h
    rw [hs] at h
    cases s with
    | no => exact False.elim h
    | scr ds =>
      obtain ⟨a, xs, e, q, r⟩ := z
      exact fin a xs ds e (ex_l E.ex q) r h
    | own t ds =>
      obtain ⟨p, xs, e, _, hh, r, _⟩ := z
      exact fin p xs ds e (.inl (.inl hh)) r h
    | dat d =>
      cases d <;> first
        | exact False.elim h
        | skip
      obtain ⟨x, e, rx⟩ := z
      obtain ⟨a, xs, rfl, q1, q2⟩ := rx.lst_of
      exact fin a xs _ e (.inl (.inl (E.ex _ _ q1))) q2 h
/-- isinstance with a built-in type -/
def tyD : PyData → String
  | .none => "NoneType"
  | .bool _ => "bool"
  | .int _ => "int"
  | .str _ => "str"
  | .list _ => "list"
  | .tuple _ => "tuple"
  | .dict ds => if isErr ds = true then "" else "dict"
def dIsi (T : String) (u : DTE) : DTE := fun δ R => u δ fun d δ1 => match kitB (tyD d) T with
  | some b => R (.bool b) δ1
  | none => False
theorem re_isi {T : String} (ha : RE K ta ua) (hT : kitB "" T = none := by decide +kernel) : RE K (tCB (rIsi K) (tCons ta (tCons (tC (.ty T)) tNil))) (dIsi T ua) := by
  intro c σ G H δ Q R E h k
  refine ha c σ G H δ _ _ E h fun d δ1 v G1 H1 h1 E1 e1 r1 => ?_
  have h1 : (match kitB (tyD d) T with
    | some b => R (.bool b) δ1
    | none => False) := h1
  have ty : TyX K H1 v (.type (tyD d)) := by
    cases r1 with
    | non => exact .base .non
    | bl b => exact .base (.bl b)
    | int i => exact .base (.int i)
    | str x => exact .base (.str x)
    | lst q r => exact .base (.lst (E1.ex _ _ q))
    | tup q r => exact .base (.tup (E1.ex _ _ q))
    | dic q r n =>
      rw [show tyD (.dict _) = "dict" from if_neg (by rw [n]; exact Bool.false_ne_true)]
      exact .base (.dK (E1.ex _ _ q))
    | err0 q =>
      have z : (match kitB "" T with
        | some b => R (.bool b) δ1
        | none => False) := h1
      rw [hT] at z
      exact z.elim
    | err q1 q2 q3 q4 q5 =>
      have z : (match kitB "" T with
        | some b => R (.bool b) δ1
        | none => False) := h1
      rw [hT] at z
      exact z.elim
  cases q : kitB (tyD d) T with
  | none =>
    rw [q] at h1
    exact h1.elim
  | some b =>
    rw [q] at h1
    exact ⟨v, .ty T, _, _, b, rfl, .ty T, ty, kit_ty q, k _ δ1 _ G1 H1 h1 E1 e1 (.bl b)⟩
/-- int(..) -/
def dInt1 (u : DTE) : DTE := fun δ R => u δ fun d δ1 => match d with
  | .int i => R (.int i) δ1
  | .bool b => R (.int (if b then 1 else 0)) δ1
  | _ => False
def rInt1 : List V → Hp → VK → Prop := fun xs H Q => (∃ i, xs = [.int i] ∧ Q (.int i) H) ∨ ∃ k, xs = [.bl k] ∧ Q (.int (if k then 1 else 0)) H
theorem re_int1 (ha : RE K ta ua) : RE K (tCB rInt1 (tCons ta tNil)) (dInt1 ua) := by
  intro c σ G H δ Q R E h k
  refine ha c σ G H δ _ _ E h fun d δ1 v G1 H1 h1 E1 e1 r1 => ?_
  cases d <;> first
    | exact False.elim h1
    | skip
  · have e := r1.bl_of
    subst e
    exact .inr ⟨_, rfl, k _ δ1 _ G1 H1 h1 E1 e1 (.int _)⟩
  · have e := r1.int_of
    subst e
    exact .inl ⟨_, rfl, k _ δ1 _ G1 H1 h1 E1 e1 (.int _)⟩
/-- a.join(list of texts) -/
def strsOf : List PyData → Option (List Str)
  | [] => some []
  | .str x :: r => (strsOf r).map (x :: ·)
  | _ :: _ => none
theorem strs_rp {G : Hp} : ∀ {ds : List PyData} {xs : List V} {ys : List Str}, RpAll K G xs ds → strsOf ds = some ys → xs = ys.map V.str
  | _, _, _, .nil, h => by
    cases h
    rfl
  | d :: ds, _, ys, .cons (v := v) (vs := vs) r rr, h => by
    cases d <;> first
      | (cases h; done)
      | skip
    rename_i x
    have h : (strsOf ds).map (x :: ·) = some ys := h
    cases q : strsOf ds with
    | none =>
      rw [q] at h
      cases h
    | some zs =>
      rw [q] at h
      cases h
      rw [strs_rp rr q, r.str_of]
      rfl
def dJoin (ua ub : DTE) : DTE := fun δ R => ua δ fun d1 δ1 => match d1 with
  | .str a => ub δ1 fun d2 δ2 => (match d2 with
    | .list ds => (match strsOf ds with
      | some ys => (ys.map (·.length)).sum + ys.length * a.length ≤ 16777216 ∧ R (.str (Txt.join a ys)) δ2
      | none => False)
    | _ => False)
  | _ => False
def rJoin (K : PySem.W.Frag) : V → List V → Hp → VK → Prop := fun x xs H Q => ∃ a p, ∃ ys : List Str, x = .str a ∧ xs = [.ref p] ∧ (SqL K H p (ys.map V.str) ∨ SqT K H p (ys.map V.str)) ∧
      (ys.map (·.length)).sum + ys.length * a.length ≤ 16777216 ∧ Q (.str (Txt.join a ys)) H
theorem re_join (ha : RE K ta ua) (hb : RE K tb ub) : RE K (tM1 (rJoin K) ta tb) (dJoin ua ub) := by
  intro c σ G H δ Q R E h k
  refine ha c σ G H δ _ _ E h fun d1 δ1 v1 G1 H1 h1 E1 e1 r1 => ?_
  have sv : ∃ a, d1 = .str a := by
    cases d1 <;> first
      | exact ⟨_, rfl⟩
      | exact False.elim h1
  obtain ⟨a, rfl⟩ := sv
  refine ⟨⟨a, r1.str_of⟩, ?_⟩
  refine hb c σ G1 H1 δ1 _ _ E1 h1 fun d2 δ2 v2 G2 H2 h2 E2 e2 r2 => ?_
  cases d2 <;> first
    | exact False.elim h2
    | skip
  rename_i ds
  have h2 : (match strsOf ds with
    | some ys => (ys.map (·.length)).sum + ys.length * a.length ≤ 16777216 ∧ R (.str (Txt.join a ys)) δ2
    | none => False) := h2
  obtain ⟨p, xs, rfl, q1, q2⟩ := r2.lst_of
  cases q : strsOf ds with
  | none =>
    rw [q] at h2
    exact h2.elim
  | some ys =>
    rw [q] at h2
    exact ⟨a, p, ys, r1.str_of, rfl, .inl (.inl (.inl (by rw [← strs_rp q2 q]; exact E2.ex _ _ q1))), h2.1, k _ δ2 _ G2 H2 h2.2 E2 (e1.trans e2) (.str _)⟩
end
end TL

set_option Elab.async false
set_option linter.all false
set_option maxRecDepth 100000
set_option maxHeartbeats 2000000
/-! TL4: statements, loops, comprehensions by data. -/
namespace TL
open PySem PySem.Spec L2
variable [XW]

structure DEnds where
  nx : List Sl → Prop
  rt : PyData → List Sl → Prop
  bk : List Sl → Prop := fun _ => False
  ct : List Sl → Prop := fun _ => False
  rn : List PyData → List Sl → Prop := fun _ _ => False
abbrev DTS := DEnds → List Sl → Prop
structure EndsOk (K : PySem.W.Frag) (c : Cf) (G : Hp) (E : DEnds) (D : Ends) : Prop where
  nx : ∀ σ' G' H' δ', E.nx δ' → EnvOk K c G' H' σ' δ' → Ex G G' → D.nx σ' H'
  rt : ∀ d δ' v σ' G' H', E.rt d δ' → EnvOk K c G' H' σ' δ' → Ex G G' → Rp K G' v d → D.rt v H'
  bk : ∀ σ' G' H' δ', E.bk δ' → EnvOk K c G' H' σ' δ' → Ex G G' → D.bk σ' H'
  ct : ∀ σ' G' H' δ', E.ct δ' → EnvOk K c G' H' σ' δ' → Ex G G' → D.ct σ' H'
  rn : ∀ ds δ' p xs σ' G' H', E.rn ds δ' → EnvOk K { c with hid := (p, .lst xs) :: c.hid } G' H' σ' δ' → (∀ zs, (p, zs) ∉ c.hid) → Ex G G' → RpAll K G' xs ds → D.rt (.ref p) H'
  h0 : c.hid = []
theorem EndsOk.up {K : PySem.W.Frag} {c : Cf} {G G1 : Hp} {E : DEnds} {D : Ends} (h : EndsOk K c G E D) (e : Ex G G1) : EndsOk K c G1 E D :=
  ⟨fun σ' G' H' δ' a b k => h.nx σ' G' H' δ' a b (e.trans k), fun d δ' v σ' G' H' a b k r => h.rt d δ' v σ' G' H' a b (e.trans k) r, fun σ' G' H' δ' a b k => h.bk σ' G' H' δ' a b (e.trans k), fun σ' G' H' δ' a b k => h.ct σ' G' H' δ' a b (e.trans k), fun ds δ' p xs σ' G' H' a b n k r => h.rn ds δ' p xs σ' G' H' a b n (e.trans k) r, h.h0⟩
def RS (K : PySem.W.Frag) (t : TS) (u : DTS) : Prop := ∀ (c : Cf) (σ : L2.St) (G H : Hp) (δ : List Sl) (D : Ends) (E : DEnds), EnvOk K c G H σ δ → u E δ → EndsOk K c G E D → t D σ H
structure DS (X : Cx) (st : Stmt) (t : TS) (u : DTS) : Prop where
  ps : PS X st t
  rs : RS X.K t u
structure DSs (X : Cx) (st : List Stmt) (t : TS) (u : DTS) : Prop where
  ps : PSs X st t
  rs : RS X.K t u

/-! ### targets -/
abbrev DTG := PyData → List Sl → (List Sl → Prop) → Prop
abbrev DTGs := List PyData → List Sl → (List Sl → Prop) → Prop
/-- js: the slots that are stored to -/
def RG (K : PySem.W.Frag) (g : TG) (u : DTG) (js : List Nat) : Prop := ∀ (c : Cf) (σ : L2.St) (G H : Hp) (δ : List Sl) (v : V) (d : PyData) (Q : L2.St → Hp → Prop) (R : List Sl → Prop), EnvOk K c G H σ δ → Rp K G v d → u d δ R →
  (∀ σ' δ', R δ' → EnvOk K c G H σ' δ' → σ'.length = σ.length → (∀ i, i ∉ js → σ'[i]? = σ[i]?) → Q σ' H) → g v σ H Q
def RGs (K : PySem.W.Frag) (g : TGs) (u : DTGs) (js : List Nat) : Prop := ∀ (c : Cf) (σ : L2.St) (G H : Hp) (δ : List Sl) (vs : List V) (ds : List PyData) (Q : L2.St → Hp → Prop) (R : List Sl → Prop), EnvOk K c G H σ δ → RpAll K G vs ds → u ds δ R →
  (∀ σ' δ', R δ' → EnvOk K c G H σ' δ' → σ'.length = σ.length → (∀ i, i ∉ js → σ'[i]? = σ[i]?) → Q σ' H) → g vs σ H Q
structure DG (X : Cx) (e : Expr) (g : TG) (u : DTG) (js : List Nat) : Prop where
  pg : PG X e g
  rg : RG X.K g u js
structure DGs (X : Cx) (es : List Expr) (g : TGs) (u : DTGs) (js : List Nat) : Prop where
  pg : PGs X es g
  rg : RGs X.K g u js
def dgName (i : Nat) : DTG := fun d δ R => R (δ.set i (.dat d))
def dgNil : DTGs := fun ds δ R => match ds with
  | [] => R δ
  | _ => False
def dgCons (u : DTG) (us : DTGs) : DTGs := fun ds δ R => match ds with
  | d :: r => u d δ fun δ1 => us r δ1 R
  | [] => False
def dgTup (n : Nat) (us : DTGs) : DTG := fun d δ R => match d with
  | .tuple ds => ds.length = n ∧ us ds δ R
  | _ => False
section
variable {K : PySem.W.Frag}
theorem rg_name {i : Nat} : RG K (gName i) (dgName i) [i] := by
  intro c σ G H δ v d Q R E r h k
  refine k _ _ h (E.put r) List.length_set fun j hj => ?_
  rw [List.getElem?_set_ne]
  exact fun z => hj (by rw [z]; exact List.mem_singleton.mpr rfl)
theorem rgs_nil : RGs K gNil dgNil [] := by
  intro c σ G H δ vs ds Q R E r h k
  cases r with
  | nil => exact ⟨rfl, k σ δ h E rfl fun _ _ => rfl⟩
  | cons _ _ => exact False.elim h
theorem rgs_cons {g : TG} {u : DTG} {gs : TGs} {us : DTGs} {js js' : List Nat} (h1 : RG K g u js) (h2 : RGs K gs us js') : RGs K (gCons g gs) (dgCons u us) (js ++ js') := by
  intro c σ G H δ vs ds Q R E r h k
  cases r with
  | nil => exact False.elim h
  | cons r rr =>
    refine ⟨_, _, rfl, ?_⟩
    refine h1 c σ G H δ _ _ _ _ E r h fun σ1 δ1 q1 E1 l1 s1 => ?_
    refine h2 c σ1 G H δ1 _ _ _ _ E1 rr q1 fun σ2 δ2 q2 E2 l2 s2 => ?_
    exact k σ2 δ2 q2 E2 (l2.trans l1) fun i hi => (s2 i fun z => hi (List.mem_append_right _ z)).trans (s1 i fun z => hi (List.mem_append_left _ z))
theorem rg_tup {n : Nat} {gs : TGs} {us : DTGs} {js : List Nat} (h1 : RGs K gs us js) : RG K (gTup K n gs) (dgTup n us) js := by
  intro c σ G H δ v d Q R E r h k
  cases d <;> first
    | exact False.elim h
    | skip
  obtain ⟨a, xs, rfl, q1, q2⟩ := r.tup_of
  exact ⟨a, xs, rfl, .inl (.inl (E.ex _ _ q1)), by rw [q2.len]; exact h.1, h1 c σ G H δ xs _ Q R E q2 h.2 k⟩
end

/-! ### statements -/
def dNext : DTS := fun E δ => E.nx δ
def dSeq (u u' : DTS) : DTS := fun E δ => u { E with nx := u' E } δ
def dBreak : DTS := fun E δ => E.bk δ
def dCont : DTS := fun E δ => E.ct δ
def dDrop (u : DTE) : DTS := fun E δ => u δ fun _ δ1 => E.nx δ1
def dRet (u : DTE) : DTS := fun E δ => u δ E.rt
/-- return [..], a list that the asker may change -/
def dRetNew (u : DTA) : DTS := fun E δ => u δ fun ds δ1 => ds.length ≤ sizeLine ∧ E.rn ds δ1
def dRetN : DTS := fun E δ => E.rt .none δ
def dIfS (t : DTT) (u u' : DTS) : DTS := fun E δ => t δ fun b δ1 => if b = true then u E δ1 else u' E δ1
def dAsg (u : DTE) (g : DTG) : DTS := fun E δ => u δ fun d δ1 => g d δ1 E.nx
/-- name op= e, of iotaD -/
def dAug (f : Int → Int → Int) (i : Nat) (u : DTE) : DTS := fun E δ => match δ[i]? with
  | some (.dat (.int a)) => u δ fun d δ1 => (match d with
    | .int b => E.nx (δ1.set i (.dat (.int (f a b))))
    | _ => False)
  | _ => False
/-- xs[i] = e, xs a name -/
def dSetI (i : Nat) (u ui : DTE) : DTS := fun E δ => u δ fun d δ1 => (slL δ1[i]?).isSome = true ∧ ui δ1 fun di δ2 => match δ2[i]?, di with
  | some (.own t ds), .int k => (match ixN ds.length k with
    | some j => E.nx (δ2.set i (.own t (ds.set j d)))
    | none => False)
  | _, _ => False
/-- xs.append(e), xs a name -/
def dApp (i : Nat) (u : DTE) : DTS := fun E δ => (slL δ[i]?).isSome = true ∧ u δ fun d δ1 => match δ1[i]? with
  | some (.own t ds) => ds.length < sizeLine ∧ E.nx (δ1.set i (.own t (ds ++ [d])))
  | _ => False
/-- xs = [..], a list that is to change -/
def dAsgOwn (i : Nat) (u : DTA) : DTS := fun E δ => u δ fun ds δ1 => ds.length ≤ sizeLine ∧ E.nx (δ1.set i (.own none ds))
section
variable {K : PySem.W.Frag} {te tb : TE} {ue ub : DTE} {t t' : TS} {u u' : DTS} {g : TG} {ug : DTG} {js : List Nat}
theorem rs_next : RS K tNext dNext := fun c σ G H δ D E EV h k => k.nx σ G H δ h EV (Ex.refl _)
theorem rs_break : RS K tBreak dBreak := fun c σ G H δ D E EV h k => k.bk σ G H δ h EV (Ex.refl _)
theorem rs_cont : RS K tCont dCont := fun c σ G H δ D E EV h k => k.ct σ G H δ h EV (Ex.refl _)
theorem rs_seq (h1 : RS K t u) (h2 : RS K t' u') : RS K (tSeq t t') (dSeq u u') := by
  intro c σ G H δ D E EV h k
  refine h1 c σ G H δ { D with nx := t' D } { E with nx := u' E } EV h ⟨fun σ' G' H' δ' a b e => ?_, k.rt, k.bk, k.ct, k.rn, k.h0⟩
  exact h2 c σ' G' H' δ' D E b a (k.up e)
theorem rs_drop (ha : RE K te ue) : RS K (tDrop te) (dDrop ue) := by
  intro c σ G H δ D E EV h k
  exact ha c σ G H δ _ _ EV h fun d δ1 v G1 H1 h1 E1 e1 _ => k.nx σ G1 H1 δ1 h1 E1 e1
theorem rs_ret (ha : RE K te ue) : RS K (tRet te) (dRet ue) := by
  intro c σ G H δ D E EV h k
  exact ha c σ G H δ _ _ EV h fun d δ1 v G1 H1 h1 E1 e1 r => k.rt d δ1 v σ G1 H1 h1 E1 e1 r
theorem rs_retNew {ta : TA} {ua : DTA} (ha : RA K ta ua) : RS K (tRet (tLst ta)) (dRetNew ua) := by
  intro c σ G H δ D E EV h k
  refine ha c σ G H δ _ _ EV h fun ds δ1 vs G1 H1 h1 E1 e1 r => ?_
  refine ⟨by rw [r.len]; exact h1.1, fun p hp => ?_⟩
  refine k.rn ds δ1 p vs σ G1 _ h1.2 (E1.hide hp (E1.new0 hp)) (fun zs z => ?_) e1 r
  have q := (E1.hd p zs z).1
  rw [hp] at q
  cases q
theorem rs_retN : RS K tRetN dRetN := fun c σ G H δ D E EV h k => k.rt .none δ .non σ G H h EV (Ex.refl _) .non
theorem rs_if {tc : TT} {uc : DTT} (hc : RT K tc uc) (h1 : RS K t u) (h2 : RS K t' u') : RS K (tIfS tc t t') (dIfS uc u u') := by
  intro c σ G H δ D E EV h k
  refine hc c σ G H δ _ _ EV h fun b δ1 G1 H1 q E1 e1 => ?_
  cases b with
  | true => exact h1 c σ G1 H1 δ1 D E E1 q (k.up e1)
  | false => exact h2 c σ G1 H1 δ1 D E E1 q (k.up e1)
theorem rs_asg (ha : RE K te ue) (hg : RG K g ug js) : RS K (tAsg te g) (dAsg ue ug) := by
  intro c σ G H δ D E EV h k
  refine ha c σ G H δ _ _ EV h fun d δ1 v G1 H1 h1 E1 e1 r => ?_
  exact hg c σ G1 H1 δ1 v d _ _ E1 r h1 fun σ' δ' q E2 _ _ => k.nx σ' G1 H1 δ' q E2 e1
theorem rs_aug {f : Int → Int → Int} {i : Nat} (ha : RE K te ue) : RS K (tAug i te (ipI f)) (dAug f i ue) := by
  intro c σ G H δ D E EV h k
  unfold dAug at h
  cases hs : δ[i]? with
  | none =>
    rw [hs] at h
    exact False.elim h
  | some s =>
    rw [hs] at h
    have z := EV.sl i s hs
    cases s <;> first
      | exact False.elim h
      | skip
    rename_i d0
    cases d0 <;> first
      | exact False.elim h
      | skip
    rename_i a
    obtain ⟨x, e, rx⟩ := z
    have ex := rx.int_of
    subst ex
    refine ⟨_, e, ?_⟩
    refine ha c σ G H δ _ _ EV h fun d δ1 v G1 H1 h1 E1 e1 r => ?_
    cases d <;> first
      | exact False.elim h1
      | skip
    rename_i b
    exact ⟨a, b, rfl, r.int_of, k.nx _ G1 H1 _ h1 (E1.put (.int _)) e1⟩
theorem rs_setI {i : Nat} (ha : RE K te ue) (hi : RE K tb ub) : RS K (tAsg te (gSub (tVar i) tb rSetL)) (dSetI i ue ub) := by
  intro c σ G H δ D E EV h k
  refine ha c σ G H δ _ _ EV h fun d δ1 v G1 H1 h1 E1 e1 r => ?_
  obtain ⟨hsome, h1⟩ := h1
  obtain ⟨ds0, h0⟩ := Option.isSome_iff_exists.mp hsome
  obtain ⟨p, xs0, hv, _, _⟩ := slL_ok E1 h0
  refine ⟨.ref p, hv, ?_⟩
  refine hi c σ G1 H1 δ1 _ _ E1 h1 fun di δ2 y G2 H2 h2 E2 e2 r2 => ?_
  cases hs : δ2[i]? with
  | none =>
    rw [hs] at h2
    exact False.elim h2
  | some s =>
    rw [hs] at h2
    cases s <;> first
      | exact False.elim h2
      | skip
    rename_i tg ds
    cases di <;> first
      | exact False.elim h2
      | skip
    rename_i kk
    have h2 : (match ixN ds.length kk with
      | some j => E.nx (δ2.set i (.own tg (ds.set j d)))
      | none => False) := h2
    obtain ⟨p', xs, e, hg, hh, rr, q⟩ := E2.sl i _ hs
    have e' := e
    rw [hv] at e'
    have ev := V.ref.inj (Option.some.inj (Option.some.inj e'))
    subst ev
    cases q : ixN ds.length kk with
    | none =>
      rw [q] at h2
      exact h2.elim
    | some j =>
      rw [q] at h2
      refine ⟨p, xs, kk, j, rfl, r2.int_of, hh, by rw [rr.len]; exact q, ?_⟩
      exact k.nx σ G2 _ _ h2 (E2.poke hs hv (RpAll.set (r.up e2) j rr)) (e1.trans e2)
theorem rs_app {i : Nat} (ha : RE K te ue) : RS K (tDrop (tBM K "list" rAppend (tVar i) (tCons te tNil))) (dApp i ue) := by
  intro c σ G H δ D E EV h k
  obtain ⟨hsome, h⟩ := h
  obtain ⟨ds0, h0⟩ := Option.isSome_iff_exists.mp hsome
  obtain ⟨p, xs0, hv, hh0, _⟩ := slL_ok EV h0
  refine ⟨.ref p, hv, .inl ⟨rfl, _, .inl (.inl hh0)⟩, ?_⟩
  refine ha c σ G H δ _ _ EV h fun d δ1 v G1 H1 h1 E1 e1 r => ?_
  cases hs : δ1[i]? with
  | none =>
    rw [hs] at h1
    exact False.elim h1
  | some s =>
    rw [hs] at h1
    cases s <;> first
      | exact False.elim h1
      | skip
    rename_i tg ds
    obtain ⟨p', xs, e, hg, hh, rr, q⟩ := E1.sl i _ hs
    have e' := e
    rw [hv] at e'
    have ev := V.ref.inj (Option.some.inj (Option.some.inj e'))
    subst ev
    refine ⟨p, xs, v, rfl, rfl, hh, by rw [rr.len]; exact h1.1, ?_⟩
    exact k.nx σ G1 _ _ h1.2 (E1.poke hs hv (rr.app (.one r))) e1
theorem rs_asgOwn {i : Nat} {ta : TA} {ua : DTA} (ha : RA K ta ua) : RS K (tAsg (tLst ta) (gName i)) (dAsgOwn i ua) := by
  intro c σ G H δ D E EV h k
  refine ha c σ G H δ _ _ EV h fun ds δ1 vs G1 H1 h1 E1 e1 r => ?_
  refine ⟨by rw [r.len]; exact h1.1, fun p hp => ?_⟩
  exact k.nx _ G1 _ _ h1.2 (E1.fresh hp (E1.new0 hp) r) e1
end

/-! ### what is walked -/
structure Yields (K : PySem.W.Frag) (G : Hp) (J : It) (ds : List PyData) : Prop where
  stop : ∀ G1 H1, Ex G G1 → Ex G1 H1 → J.stop ds.length H1
  go : ∀ G1 H1 i d, Ex G G1 → Ex G1 H1 → ds[i]? = some d → J.go i H1 ∧ ∀ x H2, J.yld i H1 x H2 → ∃ G2, Al G1 H1 G2 H2 ∧ Rp K G2 x d
abbrev DTI := List Sl → (List PyData → List Sl → Prop) → Prop
def RI (K : PySem.W.Frag) (w : TI) (u : DTI) : Prop := ∀ (c : Cf) (σ : L2.St) (G H : Hp) (δ : List Sl) (Q : It → Hp → Prop) (R : List PyData → List Sl → Prop), EnvOk K c G H σ δ → u δ R →
  (∀ ds δ' J G' H', R ds δ' → EnvOk K c G' H' σ δ' → Ex G G' → Yields K G' J ds → Q J H') → w σ H Q
structure DI (X : Cx) (tg iter : Expr) (w : TI) (u : DTI) : Prop where
  pi : PI X tg iter w
  ri : RI X.K w u
def diL (u : DTE) : DTI := fun δ R => u δ fun d δ1 => match d with
  | .list ds => R ds δ1
  | _ => False
def diT (u : DTE) : DTI := fun δ R => u δ fun d δ1 => match d with
  | .tuple ds => R ds δ1
  | _ => False
def diS (u : DTE) : DTI := fun δ R => u δ fun d δ1 => match d with
  | .str x => R (x.cps.toList.map fun c => .str ⟨#[c]⟩) δ1
  | _ => False
def iotaD (lo : Int) (n : Nat) : List PyData := (List.range n).map fun (i : Nat) => PyData.int (lo + (i : Int))
def diR1 (u : DTE) : DTI := fun δ R => u δ fun d δ1 => match d with
  | .int n => (-(2 ^ 62) ≤ n ∧ n < 2 ^ 62) ∧ R (iotaD 0 n.toNat) δ1
  | _ => False
def diR2 (u u' : DTE) : DTI := fun δ R => u δ fun d δ1 => u' δ1 fun d' δ2 => match d, d' with
  | .int m, .int n => (-(2 ^ 62) ≤ m ∧ m < 2 ^ 62 ∧ -(2 ^ 62) ≤ n ∧ n < 2 ^ 62) ∧ R (iotaD m (n - m).toNat) δ2
  | _, _ => False
section
variable {K : PySem.W.Frag} {te tb : TE} {ue ub : DTE}
theorem ri_list (ha : RE K te ue) : RI K (iList K te) (diL ue) := by
  intro c σ G H δ Q R E h k
  refine ha c σ G H δ _ _ E h fun d δ1 v G1 H1 h1 E1 e1 r => ?_
  cases d <;> first
    | exact False.elim h1
    | skip
  rename_i ds
  obtain ⟨a, xs, rfl, q1, q2⟩ := r.lst_of
  refine ⟨a, rfl, ⟨xs, .inl (.inl (E1.ex _ _ q1))⟩, k ds δ1 _ G1 H1 h1 E1 e1 ⟨fun G2 H2 a1 a2 => ⟨xs, .inl (.inl (a2 _ _ (a1 _ _ q1))), by rw [q2.len]; exact Nat.le_refl _⟩, fun G2 H2 i d a1 a2 hd => ?_⟩⟩
  obtain ⟨v, hv, rv⟩ := q2.get hd
  have hq : SqL K H2 a xs := .inl (.inl (a2 _ _ (a1 _ _ q1)))
  refine ⟨⟨xs, v, hq, hv⟩, fun x H3 hy => ?_⟩
  obtain ⟨rfl, hy⟩ := hy
  have e := (hy xs hq).symm.trans hv
  cases e
  exact ⟨G2, Al.refl a2, rv.up a1⟩
theorem ri_tup (ha : RE K te ue) : RI K (iTup K te) (diT ue) := by
  intro c σ G H δ Q R E h k
  refine ha c σ G H δ _ _ E h fun d δ1 v G1 H1 h1 E1 e1 r => ?_
  cases d <;> first
    | exact False.elim h1
    | skip
  rename_i ds
  obtain ⟨a, xs, rfl, q1, q2⟩ := r.tup_of
  refine ⟨a, rfl, ⟨xs, .inl (.inl (E1.ex _ _ q1))⟩, k ds δ1 _ G1 H1 h1 E1 e1 ⟨fun G2 H2 a1 a2 => ⟨xs, .inl (.inl (a2 _ _ (a1 _ _ q1))), by rw [q2.len]; exact Nat.le_refl _⟩, fun G2 H2 i d a1 a2 hd => ?_⟩⟩
  obtain ⟨v, hv, rv⟩ := q2.get hd
  have hq : SqT K H2 a xs := .inl (.inl (a2 _ _ (a1 _ _ q1)))
  refine ⟨⟨xs, v, hq, hv⟩, fun x H3 hy => ?_⟩
  obtain ⟨rfl, hy⟩ := hy
  have e := (hy xs hq).symm.trans hv
  cases e
  exact ⟨G2, Al.refl a2, rv.up a1⟩
theorem ri_str (ha : RE K te ue) : RI K (iStr te) (diS ue) := by
  intro c σ G H δ Q R E h k
  refine ha c σ G H δ _ _ E h fun d δ1 v G1 H1 h1 E1 e1 r => ?_
  cases d <;> first
    | exact False.elim h1
    | skip
  rename_i x
  refine ⟨x, r.str_of, k _ δ1 _ G1 H1 h1 E1 e1 ⟨fun G2 H2 a1 a2 => ?_, fun G2 H2 i d a1 a2 hd => ?_⟩⟩
  · show x.cps.size ≤ (x.cps.toList.map fun c => PyData.str ⟨#[c]⟩).length
    rw [List.length_map, Array.length_toList]
    exact Nat.le_refl _
  · rw [List.getElem?_map] at hd
    cases q : x.cps.toList[i]? with
    | none =>
      rw [q] at hd
      cases hd
    | some ch =>
      rw [q] at hd
      cases hd
      have hl := (List.getElem?_eq_some_iff.mp q).1
      rw [Array.length_toList] at hl
      refine ⟨hl, fun y H3 hy => ?_⟩
      obtain ⟨rfl, ch', hc, rfl⟩ := hy
      rw [Array.getElem?_toList] at q
      rw [q] at hc
      cases hc
      exact ⟨G2, Al.refl a2, .str _⟩
theorem iotaD_get {lo : Int} {n i : Nat} {d : PyData} (h : (iotaD lo n)[i]? = some d) : i < n ∧ d = .int (lo + (i : Int)) := by
  unfold iotaD at h
  rw [List.getElem?_map] at h
  cases q : (List.range n)[i]? with
  | none =>
    rw [q] at h
    cases h
  | some j =>
    rw [q] at h
    obtain ⟨h1, h2⟩ := List.getElem?_eq_some_iff.mp q
    rw [List.getElem_range] at h2
    subst h2
    rw [List.length_range] at h1
    exact ⟨h1, (Option.some.inj h).symm⟩
theorem yld_iotaD {G : Hp} {lo : Int} {n : Nat} : Yields K G (Itr lo n) (iotaD lo n) := ⟨fun G2 H2 a1 a2 => by
    show n ≤ (iotaD lo n).length
    unfold iotaD
    rw [List.length_map, List.length_range]
    exact Nat.le_refl _, fun G2 H2 i d a1 a2 hd => by
    obtain ⟨h1, rfl⟩ := iotaD_get hd
    refine ⟨h1, fun x H3 hy => ?_⟩
    obtain ⟨rfl, rfl⟩ := hy
    exact ⟨G2, Al.refl a2, .int _⟩⟩
theorem ri_r1 (ha : RE K te ue) : RI K (iRng1 (tCons te tNil)) (diR1 ue) := by
  intro c σ G H δ Q R E h k
  refine ha c σ G H δ _ _ E h fun d δ1 v G1 H1 h1 E1 e1 r => ?_
  cases d <;> first
    | exact False.elim h1
    | skip
  rename_i n
  have e := r.int_of
  subst e
  exact ⟨n, rfl, h1.1.1, h1.1.2, k _ δ1 _ G1 H1 h1.2 E1 e1 yld_iotaD⟩
theorem ri_r2 (ha : RE K te ue) (hb : RE K tb ub) : RI K (iRng2 (tCons te (tCons tb tNil))) (diR2 ue ub) := by
  intro c σ G H δ Q R E h k
  refine ha c σ G H δ _ _ E h fun d δ1 v G1 H1 h1 E1 e1 r => ?_
  refine hb c σ G1 H1 δ1 _ _ E1 h1 fun d2 δ2 v2 G2 H2 h2 E2 e2 r2 => ?_
  cases d <;> cases d2 <;> first
    | exact False.elim h2
    | skip
  rename_i m n
  have e := r.int_of
  subst e
  have e' := r2.int_of
  subst e'
  exact ⟨m, n, rfl, h2.1, k _ δ2 _ G2 H2 h2.2 E2 (e1.trans e2) yld_iotaD⟩
end

/-! ### loops -/
def forW (g : DTG) (u : DTS) (E : DEnds) : List PyData → List Sl → Prop
  | [], δ => E.nx δ
  | d :: r, δ => g d δ fun δ1 => u { E with nx := forW g u E r, ct := forW g u E r, bk := E.nx } δ1
def dFor (w : DTI) (g : DTG) (u : DTS) : DTS := fun E δ => w δ fun ds δ1 => forW g u E ds δ1
def whW (t : DTT) (u : DTS) (E : DEnds) : Nat → List Sl → Prop
  | 0, _ => False
  | n + 1, δ => t δ fun b δ1 => if b = true then u { E with nx := whW t u E n, ct := whW t u E n, bk := E.nx } δ1 else E.nx δ1
def dWhile (t : DTT) (u : DTS) : DTS := fun E δ => ∃ n, whW t u E n δ
section
variable {K : PySem.W.Frag} {w : TI} {uw : DTI} {g : TG} {ug : DTG} {js : List Nat} {t : TS} {u : DTS} {tc : TT} {uc : DTT}
theorem rs_for (hw : RI K w uw) (hg : RG K g ug js) (hb : RS K t u) : RS K (tFor w g t) (dFor uw ug u) := by
  intro c σ G H δ D E EV h k
  refine hw c σ G H δ _ _ EV h fun ds δ1 J G1 H1 h1 E1 e1 Y => ?_
  refine ⟨fun i m σ H => ∃ G δ, EnvOk K c G H σ δ ∧ Ex G1 G ∧ i ≤ ds.length ∧ m = ds.length - i ∧ forW ug u E (ds.drop i) δ, ⟨ds.length, G1, δ1, E1, Ex.refl _, Nat.zero_le _, rfl, h1⟩, ?_⟩
  rintro i m σ2 H2 ⟨G2, δ2, E2, e2, hi, rfl, h2⟩
  by_cases hlt : i < ds.length
  · have hd : ds[i]? = some ds[i] := List.getElem?_eq_getElem hlt
    rw [List.drop_eq_getElem_cons hlt] at h2
    obtain ⟨hgo, hy⟩ := Y.go G2 H2 i _ e2 E2.ex hd
    refine .inr ⟨hgo, fun σ' H' => ∃ G δ, EnvOk K c G H' σ' δ ∧ Ex G1 G ∧ forW ug u E (ds.drop (i + 1)) δ, fun σ' H' ⟨G', δ', a1, a2, a3⟩ => ⟨ds.length - (i + 1), by omega, G', δ', a1, a2, hlt, rfl, a3⟩, fun x H3 hx => ?_⟩
    obtain ⟨G3, A, rx⟩ := hy x H3 hx
    refine hg c σ2 G3 H3 δ2 x _ _ _ (E2.al A) rx h2 fun σ4 δ4 h4 E4 _ _ => ?_
    have e13 : Ex G1 G3 := e2.trans A.g
    refine hb c σ4 G3 H3 δ4 _ { E with nx := forW ug u E (ds.drop (i + 1)), ct := forW ug u E (ds.drop (i + 1)), bk := E.nx } E4 h4 ⟨?_, ?_, ?_, ?_, ?_, k.h0⟩
    · exact fun σ' G' H' δ' a b e => ⟨G', δ', b, e13.trans e, a⟩
    · exact fun d δ' v σ' G' H' a b e r => k.rt d δ' v σ' G' H' a b ((e1.trans e13).trans e) r
    · exact fun σ' G' H' δ' a b e => k.nx σ' G' H' δ' a b ((e1.trans e13).trans e)
    · exact fun σ' G' H' δ' a b e => ⟨G', δ', b, e13.trans e, a⟩
    · exact fun ds δ' p xs σ' G' H' a b n e r => k.rn ds δ' p xs σ' G' H' a b n ((e1.trans e13).trans e) r
  · have ei : i = ds.length := by omega
    subst ei
    rw [List.drop_length] at h2
    exact .inl ⟨Y.stop G2 H2 e2 E2.ex, k.nx σ2 G2 H2 δ2 h2 E2 (e1.trans e2)⟩
theorem rs_while (hc : RT K tc uc) (hb : RS K t u) : RS K (tWhile tc t) (dWhile uc u) := by
  intro c σ G H δ D E EV h k
  obtain ⟨n, h⟩ := h
  refine ⟨fun m σ H => ∃ G' δ, EnvOk K c G' H σ δ ∧ Ex G G' ∧ whW uc u E m δ, ⟨n, G, δ, EV, Ex.refl _, h⟩, ?_⟩
  rintro m σ1 H1 ⟨G1, δ1, E1, e1, h1⟩
  cases m with
  | zero => exact False.elim h1
  | succ m =>
    refine hc c σ1 G1 H1 δ1 _ _ E1 h1 fun b δ2 G2 H2 h2 E2 e2 => ?_
    cases b with
    | false =>
      exact k.nx σ1 G2 H2 δ2 h2 E2 (e1.trans e2)
    | true =>
      refine ⟨fun σ' H' => ∃ G' δ, EnvOk K c G' H' σ' δ ∧ Ex G G' ∧ whW uc u E m δ, fun σ' H' q => ⟨m, Nat.lt_succ_self m, q⟩, ?_⟩
      refine hb c σ1 G2 H2 δ2 _ { E with nx := whW uc u E m, ct := whW uc u E m, bk := E.nx } E2 h2 ⟨?_, ?_, ?_, ?_, ?_, k.h0⟩
      · exact fun σ' G' H' δ' a b e => ⟨G', δ', b, (e1.trans e2).trans e, a⟩
      · exact fun d δ' v σ' G' H' a b e r => k.rt d δ' v σ' G' H' a b ((e1.trans e2).trans e) r
      · exact fun σ' G' H' δ' a b e => k.nx σ' G' H' δ' a b ((e1.trans e2).trans e)
      · exact fun σ' G' H' δ' a b e => ⟨G', δ', b, (e1.trans e2).trans e, a⟩
      · exact fun ds δ' p xs σ' G' H' a b n e r => k.rn ds δ' p xs σ' G' H' a b n ((e1.trans e2).trans e) r
end

/-! ### comprehensions -/
def wipeS (δ : List Sl) : List Nat → List Sl
  | [] => δ
  | v :: vs => (wipeS δ vs).set v .no
def lcW (vs : List Nat) (g : DTG) (t : DTT) (u : DTE) (R : List PyData → List Sl → Prop) : List PyData → List PyData → List Sl → Prop
  | [], acc, δ => R acc δ
  | d :: r, acc, δ => g d (wipeS δ vs) fun δ1 => t δ1 fun b δ2 => if b = true then u δ2 fun y δ3 => acc.length < sizeLine ∧ lcW vs g t u R r (acc ++ [y]) (wipeS δ3 vs) else lcW vs g t u R r acc (wipeS δ2 vs)
def dLc (w : DTI) (g : DTG) (t : DTT) (u : DTE) (vs : List Nat) : DTE := fun δ R => w δ fun ds δ1 => lcW vs g t u (fun acc δ' => R (.list acc) δ') ds [] δ1
/-- .. given to a name that is to change -/
def dLcOwn (i : Nat) (w : DTI) (g : DTG) (t : DTT) (u : DTE) (vs : List Nat) : DTS := fun E δ => w δ fun ds δ1 => lcW vs g t u (fun acc δ' => E.nx (δ'.set i (.own none acc))) ds [] δ1
def dYes : DTT := fun δ R => R true δ
section
variable {K : PySem.W.Frag} {w : TI} {uw : DTI} {g : TG} {ug : DTG} {js : List Nat} {tt : TT} {ut : DTT} {te : TE} {ue : DTE}
theorem rt_yes : RT K tYes dYes := fun c σ G H δ Q R E h k => k true δ G H h E (Ex.refl _)
theorem wipe_get (σ : L2.St) (i : Nat) : ∀ vs : List Nat, (wipe σ vs)[i]? = if i ∈ vs ∧ i < σ.length then some none else σ[i]?
  | [] => by simp [wipe]
  | v :: vs => by
    have ih := wipe_get σ i vs
    show ((wipe σ vs).set v none)[i]? = _
    rw [List.getElem?_set, wipe_length]
    by_cases h : v = i
    · subst h
      by_cases hl : v < σ.length
      · simp [hl]
      · simp [hl]
    · rw [if_neg h, ih]
      have e : (i ∈ v :: vs) ↔ i ∈ vs := by
        rw [List.mem_cons]
        exact ⟨fun z => z.elim (fun z => absurd z.symm h) id, Or.inr⟩
      by_cases hm : i ∈ vs
      · by_cases hl : i < σ.length
        · simp [hm, hl]
        · simp [hm, hl]
      · simp [hm, Ne.symm h]
theorem wipe_eq {σ σ' : L2.St} {vs : List Nat} (hl : σ'.length = σ.length) (h : ∀ i, i ∉ vs → σ'[i]? = σ[i]?) : wipe σ' vs = wipe σ vs := by
  apply List.ext_getElem?
  intro i
  rw [wipe_get, wipe_get, hl]
  by_cases hm : i ∈ vs
  · by_cases hi : i < σ.length
    · simp [hm, hi]
    · rw [if_neg (fun z => hi z.2), if_neg (fun z => hi z.2), List.getElem?_eq_none (by omega), List.getElem?_eq_none (by omega)]
  · rw [if_neg (fun z => hm z.1), if_neg (fun z => hm z.1)]
    exact h i hm
theorem EnvOk.wipe {c : Cf} {G H : Hp} {σ : L2.St} {δ : List Sl} (E : EnvOk K c G H σ δ) : ∀ vs : List Nat, EnvOk K c G H (L2.wipe σ vs) (wipeS δ vs)
  | [] => E
  | v :: vs => (EnvOk.wipe E vs).drop
theorem wipeS_no {δ : List Sl} {i : Nat} {s : Sl} : ∀ (vs : List Nat), i ∈ vs → (wipeS δ vs)[i]? = some s → s = Sl.no
  | [], hi, _ => nomatch hi
  | v :: vs, hi, hs => by
    have hs : ((wipeS δ vs).set v Sl.no)[i]? = some s := hs
    rw [List.getElem?_set] at hs
    by_cases hv : v = i
    · rw [if_pos hv] at hs
      split at hs
      · exact (Option.some.inj hs).symm
      · cases hs
    · rw [if_neg hv] at hs
      rcases List.mem_cons.mp hi with z | z
      · exact absurd z.symm hv
      · exact wipeS_no vs z hs
/-- other values in slots that nothing is known of -/
theorem EnvOk.other {c : Cf} {G H : Hp} {σ σ' : L2.St} {δ : List Sl} {vs : List Nat} (E : EnvOk K c G H σ (wipeS δ vs)) (hl : σ'.length = σ.length) (h : ∀ i, i ∉ vs → σ'[i]? = σ[i]?) : EnvOk K c G H σ' (wipeS δ vs) := by
  have same : ∀ (i : Nat) (s : Sl), (wipeS δ vs)[i]? = some s → s ≠ Sl.no → σ'[i]? = σ[i]? := fun i s hs hn => h i fun z => hn (wipeS_no vs z hs)
  exact {
    xw := E.xw, g0 := E.g0, ex := E.ex, fr := E.fr, fs := E.fs, tg := E.tg
    len := by rw [hl]; exact E.len
    sl := fun i s hs => by
      cases s with
      | no => trivial
      | dat d => rw [same i _ hs (by intro z; cases z)]; exact E.sl i _ hs
      | scr d => rw [same i _ hs (by intro z; cases z)]; exact E.sl i _ hs
      | own t d => rw [same i _ hs (by intro z; cases z)]; exact E.sl i _ hs
    ap := fun i j t1 d1 t2 d2 hij h1 h2 => by
      rw [same i _ h1 (by intro z; cases z), same j _ h2 (by intro z; cases z)]
      exact E.ap i j t1 d1 t2 d2 hij h1 h2
    hd := fun p xs hm => by
      obtain ⟨a1, a2, a3, a4, a5⟩ := E.hd p xs hm
      refine ⟨a1, a2, a3, a4, fun i t ds hs => ?_⟩
      rw [same i _ hs (by intro z; cases z)]
      exact a5 i t ds hs }
end
end TL

set_option Elab.async false
set_option linter.all false
set_option maxRecDepth 100000
set_option maxHeartbeats 2000000
/-! TL5: comprehensions, calls, defs by data. -/
namespace TL
open PySem PySem.Spec L2
variable [XW]

section
variable {K : PySem.W.Frag} {w : TI} {uw : DTI} {g : TG} {ug : DTG} {js vs : List Nat} {tt : TT} {ut : DTT} {te : TE} {ue : DTE}
/-- the turns of a comprehension, from the list that is being made at D -/
theorem lc_turns (hg : RG K g ug js) (ht : RT K tt ut) (he : RE K te ue) (hj : ∀ j ∈ js, j ∈ vs) {c : Cf} {σ : L2.St} {G1 : Hp} {ds : List PyData} {J : It} {D : Addr} {Q : VK} {R : List PyData → List Sl → Prop} {H1 : Hp} {δ1 : List Sl}
    (E1 : EnvOk K { c with hid := (D, .lst []) :: c.hid } G1 H1 σ δ1) (hn : ∀ zs, (D, zs) ∉ c.hid) (Y : Yields K G1 J ds) (h : lcW vs ug ut ue R ds [] δ1)
    (k : ∀ acc δ' xs G' H', R acc δ' → EnvOk K { c with hid := (D, .lst xs) :: c.hid } G' H' σ δ' → Ex G1 G' → RpAll K G' xs acc → Q (.ref D) H') :
    ∃ W : Nat → Nat → Hp → Prop, (∃ m, W 0 m H1) ∧ ∀ i m H, W i m H →
      (J.stop i H ∧ Q (.ref D) H) ∨ (J.go i H ∧ ∃ Nx : Hp → Prop, (∀ H', Nx H' → ∃ m', m' < m ∧ W (i + 1) m' H') ∧ ∀ x H', J.yld i H x H' → g x (wipe σ vs) H' fun σ2 H2 => wipe σ2 vs = wipe σ vs ∧ tt σ2 H2 fun b H3 =>
        if b = true then te σ2 H3 fun y H4 => ∃ acc, H4 D = some (.lst acc) ∧ acc.length < sizeLine ∧ Nx (upd H4 D (.lst (acc ++ [y]))) else Nx H3) := by
  refine ⟨fun i m H => ∃ G δ acc xs, EnvOk K { c with hid := (D, .lst xs) :: c.hid } G H σ δ ∧ Ex G1 G ∧ RpAll K G xs acc ∧ i ≤ ds.length ∧ m = ds.length - i ∧ lcW vs ug ut ue R (ds.drop i) acc δ, ⟨ds.length, G1, δ1, [], [], E1, Ex.refl _, .nil, Nat.zero_le _, rfl, h⟩, ?_⟩
  rintro i m H ⟨G, δ, acc, xs, E, e, r, hi, rfl, h⟩
  by_cases hlt : i < ds.length
  · have hd : ds[i]? = some ds[i] := List.getElem?_eq_getElem hlt
    rw [List.drop_eq_getElem_cons hlt] at h
    obtain ⟨hgo, hy⟩ := Y.go G H i _ e E.ex hd
    refine .inr ⟨hgo, fun H' => ∃ G δ acc xs, EnvOk K { c with hid := (D, .lst xs) :: c.hid } G H' σ δ ∧ Ex G1 G ∧ RpAll K G xs acc ∧ lcW vs ug ut ue R (ds.drop (i + 1)) acc δ, fun H' ⟨G', δ', acc', xs', a1, a2, a3, a4⟩ => ⟨ds.length - (i + 1), by omega, G', δ', acc', xs', a1, a2, a3, hlt, rfl, a4⟩, fun x H2 hx => ?_⟩
    obtain ⟨G2, A, rx⟩ := hy x H2 hx
    have E2 := (E.al A).wipe vs
    refine hg _ (wipe σ vs) G2 H2 _ x _ _ _ E2 rx h fun σ3 δ3 h3 E3 l3 s3 => ?_
    rw [wipe_length] at l3
    have o3 : ∀ i, i ∉ vs → σ3[i]? = σ[i]? := fun i hi => by
      rw [s3 i fun z => hi (hj i z), wipe_get, if_neg fun z => hi z.1]
    refine ⟨wipe_eq l3 o3, ?_⟩
    have back : ∀ {cc : Cf} {G H : Hp} {δ : List Sl}, EnvOk K cc G H σ3 δ → EnvOk K cc G H σ (wipeS δ vs) := fun {cc G H δ} E => by
      have z := E.wipe vs
      rw [wipe_eq l3 o3] at z
      refine z.other (by rw [wipe_length]) fun i hi => ?_
      rw [wipe_get, if_neg fun z => hi z.1]
    refine ht _ σ3 G2 H2 δ3 _ _ E3 h3 fun b δ4 G4 H4 h4 E4 e4 => ?_
    have e14 : Ex G1 G4 := (e.trans A.g).trans e4
    cases b with
    | false => exact ⟨G4, wipeS δ4 vs, acc, xs, back E4, e14, r.up (A.g.trans e4), h4⟩
    | true =>
      refine he _ σ3 G4 H4 δ4 _ _ E4 h4 fun y δ5 v G5 H5 h5 E5 e5 r5 => ?_
      have r' : RpAll K G5 xs acc := r.up ((A.g.trans e4).trans e5)
      obtain ⟨q1, q2⟩ := E5.hd D (.lst xs) List.mem_cons_self
      refine ⟨xs, q1, by rw [r'.len]; exact h5.1, G5, wipeS δ5 vs, acc ++ [y], xs ++ [v], (back E5).grow hn, e14.trans e5, r'.app (.one r5), h5.2⟩
  · have ei : i = ds.length := by omega
    subst ei
    rw [List.drop_length] at h
    exact .inl ⟨Y.stop G H e E.ex, k acc δ xs G H h E e r⟩
theorem hid_new {c : Cf} {G H : Hp} {σ : L2.St} {δ : List Sl} (E : EnvOk K c G H σ δ) {D : Addr} (hD : H D = none) : ∀ zs, (D, zs) ∉ c.hid := fun zs z => by
  have q := (E.hd D zs z).1
  rw [hD] at q
  cases q
theorem Yields.up {G G' : Hp} {J : It} {ds : List PyData} (Y : Yields K G J ds) (e : Ex G G') : Yields K G' J ds := ⟨fun G1 H1 a b => Y.stop G1 H1 (e.trans a) b, fun G1 H1 i d a b h => Y.go G1 H1 i d (e.trans a) b h⟩
theorem re_lc (hw : RI K w uw) (hg : RG K g ug js) (ht : RT K tt ut) (he : RE K te ue) (hj : ∀ j ∈ js, j ∈ vs) : RE K (tLc w g tt te vs) (dLc uw ug ut ue vs) := by
  intro c σ G H δ Q R E h k
  refine hw c σ G H δ _ _ E h fun ds δ1 J G1 H1 h1 E1 e1 Y => ?_
  intro D hD
  have hn := hid_new E1 hD
  refine lc_turns hg ht he hj (E1.hide (ob := .lst []) hD (E1.new0 hD)) hn Y h1 fun acc δ' xs G' H' hR E' e' r' => ?_
  obtain ⟨G2, e2, rp, E2⟩ := E'.show hn r'
  exact k _ δ' _ G2 H' hR E2 ((e1.trans e').trans e2) rp
/-- what was made beside is given to a name -/
theorem EnvOk.give {c : Cf} {G H : Hp} {σ : L2.St} {δ : List Sl} {p : Addr} {xs : List V} {ds : List PyData} (E : EnvOk K { c with hid := (p, .lst xs) :: c.hid } G H σ δ) (hn : ∀ zs, (p, zs) ∉ c.hid) (r : RpAll K G xs ds) (i : Nat) :
    EnvOk K c G H (σ.set i (some (.ref p))) (δ.set i (.own none ds)) := by
  obtain ⟨a1, a2, a3, a4, a5⟩ := E.hd p (.lst xs) List.mem_cons_self
  exact {
    xw := E.xw, g0 := E.g0, ex := E.ex, fr := E.fr, fs := E.fs, tg := E.tg
    len := by rw [List.length_set, List.length_set, E.len]
    sl := fun j s h => by
      rw [List.getElem?_set] at h ⊢
      by_cases hj : i = j
      · rw [if_pos hj] at h ⊢
        by_cases hl : i < δ.length
        · rw [if_pos hl] at h
          rw [if_pos (by rw [E.len]; exact hl)]
          cases h
          exact ⟨p, xs, rfl, a2, a1, r, a3, a4⟩
        · rw [if_neg hl] at h
          cases h
      · rw [if_neg hj] at h ⊢
        have z := E.sl j s h
        cases s with
        | no => trivial
        | dat d => exact z
        | scr d => exact z
        | own t d => exact z
    ap := fun a b t1 d1 t2 d2 hab h1 h2 => by
      rw [List.getElem?_set] at h1 h2
      by_cases ha : i = a
      · have hb : ¬ i = b := fun z => hab (ha.symm.trans z)
        rw [if_neg hb] at h2
        rw [List.getElem?_set, if_pos ha, List.getElem?_set_ne hb]
        split
        · exact fun z => a5 b t2 d2 h2 z.symm
        · rw [if_pos ha] at h1
          split at h1
          · rename_i u w
            rw [E.len] at u
            exact absurd w u
          · cases h1
      · rw [if_neg ha] at h1
        rw [List.getElem?_set_ne ha]
        by_cases hb : i = b
        · rw [List.getElem?_set, if_pos hb]
          split
          · exact a5 a t1 d1 h1
          · rw [if_pos hb] at h2
            split at h2
            · rename_i u w
              rw [E.len] at u
              exact absurd w u
            · cases h2
        · rw [if_neg hb] at h2
          rw [List.getElem?_set_ne hb]
          exact E.ap a b t1 d1 t2 d2 hab h1 h2
    hd := fun q ys h => by
      obtain ⟨h1, h2, h3, h4, h5⟩ := E.hd q ys (List.mem_cons_of_mem _ h)
      have ne : q ≠ p := fun z => hn ys (by rw [← z]; exact h)
      refine ⟨h1, h2, h3, h4, fun j t es hs => ?_⟩
      rw [List.getElem?_set] at hs ⊢
      by_cases hj : i = j
      · rw [if_pos hj]
        split
        · exact fun z => ne (V.ref.inj (Option.some.inj (Option.some.inj z))).symm
        · exact fun z => nomatch z
      · rw [if_neg hj] at hs ⊢
        exact h5 j t es hs }
theorem rs_lcOwn {i : Nat} (hw : RI K w uw) (hg : RG K g ug js) (ht : RT K tt ut) (he : RE K te ue) (hj : ∀ j ∈ js, j ∈ vs) : RS K (tAsg (tLc w g tt te vs) (gName i)) (dLcOwn i uw ug ut ue vs) := by
  intro c σ G H δ D' E EV h k
  refine hw c σ G H δ _ _ EV h fun ds δ1 J G1 H1 h1 E1 e1 Y => ?_
  intro D hD
  have hn := hid_new E1 hD
  refine lc_turns (Q := fun x H1 => gName i x σ H1 D'.nx) hg ht he hj (E1.hide (ob := .lst []) hD (E1.new0 hD)) hn Y h1 fun acc δ' xs G' H' hR E' e' r' => ?_
  exact k.nx _ G' H' _ hR (E'.give hn r' i) (e1.trans e')
end
end TL

set_option Elab.async false
set_option linter.all false
set_option maxRecDepth 100000
set_option maxHeartbeats 2000000
/-! TL6: calls and defs by data. -/
namespace TL
open PySem PySem.Spec L2
variable [XW]

/-- an argument: a datum, or a slot handed on (a list that the callee may change, or what was handed in) -/
inductive CA where
  | d (d : PyData)
  | s (i : Nat)
inductive CAs (K : PySem.W.Frag) (G : Hp) (σ : L2.St) : List V → List CA → Prop
  | nil : CAs K G σ [] []
  | d {v : V} {d : PyData} {vs : List V} {cs : List CA} : Rp K G v d → CAs K G σ vs cs → CAs K G σ (v :: vs) (.d d :: cs)
  | s {v : V} {i : Nat} {vs : List V} {cs : List CA} : σ[i]? = some (some v) → CAs K G σ vs cs → CAs K G σ (v :: vs) (.s i :: cs)
theorem CAs.up {K : PySem.W.Frag} {G G' : Hp} {σ : L2.St} (e : Ex G G') : ∀ {vs : List V} {cs : List CA}, CAs K G σ vs cs → CAs K G' σ vs cs
  | _, _, .nil => .nil
  | _, _, .d r t => .d (r.up e) (CAs.up e t)
  | _, _, .s r t => .s r (CAs.up e t)
theorem CAs.len {K : PySem.W.Frag} {G : Hp} {σ : L2.St} : ∀ {vs : List V} {cs : List CA}, CAs K G σ vs cs → vs.length = cs.length
  | _, _, .nil => rfl
  | _, _, .d r t => by rw [List.length_cons, List.length_cons, CAs.len t]
  | _, _, .s r t => by rw [List.length_cons, List.length_cons, CAs.len t]
abbrev DCA := List Sl → (List CA → List Sl → Prop) → Prop
def RCA (K : PySem.W.Frag) (t : TA) (u : DCA) : Prop := ∀ (c : Cf) (σ : L2.St) (G H : Hp) (δ : List Sl) (Q : List V → Hp → Prop) (R : List CA → List Sl → Prop), EnvOk K c G H σ δ → u δ R →
  (∀ cs δ' vs G' H', R cs δ' → EnvOk K c G' H' σ δ' → Ex G G' → CAs K G' σ vs cs → Q vs H') → t σ H Q
structure DCa (X : Cx) (es : List Expr) (t : TA) (u : DCA) : Prop where
  pa : PA X es t
  ra : RCA X.K t u
def cNil : DCA := fun δ R => R [] δ
def cD (u : DTE) (ur : DCA) : DCA := fun δ R => u δ fun d δ1 => ur δ1 fun cs δ2 => R (.d d :: cs) δ2
def isS : Option Sl → Bool
  | some (.own _ _) => true
  | some (.scr _) => true
  | _ => false
def cS (i : Nat) (ur : DCA) : DCA := fun δ R => isS δ[i]? = true ∧ ur δ fun cs δ2 => R (.s i :: cs) δ2
section
variable {K : PySem.W.Frag} {te : TE} {ue : DTE} {tr : TA} {ur : DCA}
theorem rca_nil : RCA K tNil cNil := fun c σ G H δ Q R E h k => k [] δ [] G H h E (Ex.refl _) .nil
theorem rca_d (ha : RE K te ue) (hr : RCA K tr ur) : RCA K (tCons te tr) (cD ue ur) := by
  intro c σ G H δ Q R E h k
  refine ha c σ G H δ _ _ E h fun d δ1 v1 G1 H1 h1 E1 e1 r1 => ?_
  exact hr c σ G1 H1 δ1 _ _ E1 h1 fun ds δ2 vs G2 H2 h2 E2 e2 r2 => k _ δ2 _ G2 H2 h2 E2 (e1.trans e2) (.d (r1.up e2) r2)
theorem rca_s {i : Nat} (hr : RCA K tr ur) : RCA K (tCons (tVar i) tr) (cS i ur) := by
  intro c σ G H δ Q R E h k
  obtain ⟨h0, h⟩ := h
  have val : ∃ v, σ[i]? = some (some v) := by
    cases hs : δ[i]? with
    | none =>
      rw [hs] at h0
      cases h0
    | some s =>
      rw [hs] at h0
      have z := E.sl i s hs
      cases s with
      | no => cases h0
      | dat d => cases h0
      | scr ds =>
        obtain ⟨a, xs, e, _⟩ := z
        exact ⟨_, e⟩
      | own t ds =>
        obtain ⟨a, xs, e, _⟩ := z
        exact ⟨_, e⟩
  obtain ⟨v, hv⟩ := val
  refine ⟨v, hv, ?_⟩
  exact hr c σ G H δ _ _ E h fun ds δ2 vs G2 H2 h2 E2 e2 r2 => k _ δ2 _ G2 H2 h2 E2 e2 (.s hv r2)
end
/-- the slots that the callee gets -/
def asOf (δ : List Sl) : List CA → Nat → List Sl
  | [], _ => []
  | .d d :: r, j => .dat d :: asOf δ r j
  | .s i :: r, j => match δ[i]? with
    | some (.own _ ds) => .own (some j) ds :: asOf δ r (j + 1)
    | some (.scr ds) => .scr ds :: asOf δ r j
    | _ => .no :: asOf δ r j
/-- the slots whose lists it may change -/
def muts (δ : List Sl) : List CA → List Nat
  | [] => []
  | .d _ :: r => muts δ r
  | .s i :: r => match δ[i]? with
    | some (.own _ _) => i :: muts δ r
    | _ => muts δ r
def setOut (δ : List Sl) (i : Nat) (o : List PyData) : List Sl := match δ[i]? with
  | some (.own t _) => δ.set i (.own t o)
  | _ => δ
def setOuts : List Sl → List Nat → List (List PyData) → List Sl
  | δ, i :: M, o :: os => setOuts (setOut δ i o) M os
  | δ, _, _ => δ
def addr (σ : L2.St) (i : Nat) : Addr := match σ[i]? with
  | some (some (.ref p)) => p
  | _ => 0
abbrev DSp := List Sl → (PyData → List (List PyData) → Prop) → Prop
/-- what is left behind a def -/
structure Fin (K : PySem.W.Frag) (c : Cf) (G H : Hp) (outs : List (List PyData)) : Prop where
  g0 : Ex c.G0 G
  ex : Ex G H
  fr : ∀ a o, c.H0 a = some o → (∀ j, j < c.n → a ≠ c.τ j) → H a = some o
  fs : ∀ a, c.G0 a = none → c.H0 a ≠ none → G a = none
  tg : ∀ j, j < c.n → H (c.τ j) ≠ none ∧ G (c.τ j) = none
  out : ∀ j cs, outs[j]? = some cs → ∃ xs, H (c.τ j) = some (.lst xs) ∧ RpAll K G xs cs
def spD (K : PySem.W.Frag) (S : DSp) : Sp := fun vs H Q _ => ∃ (c : Cf) (as : List Sl) (R : PyData → List (List PyData) → Prop), c.hid = [] ∧ c.H0 = H ∧ EnvC K c c.G0 H (vs.map some) as ∧ S as R ∧
  ∀ d outs v G' H', R d outs → Fin K c G' H' outs → Rp K G' v d → Q v H'
/-- .. and a new list comes back, the asker's own -/
abbrev DSn := List Sl → (List PyData → List (List PyData) → Prop) → Prop
def spN (K : PySem.W.Frag) (S : DSn) : Sp := fun vs H Q _ => ∃ (c : Cf) (as : List Sl) (R : List PyData → List (List PyData) → Prop), c.hid = [] ∧ c.H0 = H ∧ EnvC K c c.G0 H (vs.map some) as ∧ S as R ∧
  ∀ ds outs p xs G' H', R ds outs → Fin K c G' H' outs → H p = none → G' p = none → H' p = some (.lst xs) → RpAll K G' xs ds → Q (.ref p) H'
/-- name = f(..), a new list, to change -/
def dCallOwn (i : Nat) (S : DSn) (ua : DCA) (E : List Sl → Prop) (δ : List Sl) : Prop := ua δ fun cs δ1 => (muts δ1 cs).Nodup ∧ S (asOf δ1 cs 0) fun ds outs => outs.length = (muts δ1 cs).length ∧ E ((setOuts δ1 (muts δ1 cs) outs).set i (.own none ds))
def dCall (S : DSp) (ua : DCA) : DTE := fun δ R => ua δ fun cs δ1 => (muts δ1 cs).Nodup ∧ S (asOf δ1 cs 0) fun d outs => outs.length = (muts δ1 cs).length ∧ R d (setOuts δ1 (muts δ1 cs) outs)

/-! ### the slots handed on -/
theorem muts_own {δ : List Sl} : ∀ {cs : List CA} {i : Nat}, i ∈ muts δ cs → ∃ t ds, δ[i]? = some (.own t ds)
  | [], i, h => nomatch h
  | .d _ :: r, i, h => muts_own (cs := r) h
  | .s k :: r, i, h => by
    cases hs : δ[k]? with
    | none =>
      have h : i ∈ (match δ[k]? with
        | some (.own _ _) => k :: muts δ r
        | _ => muts δ r) := h
      rw [hs] at h
      exact muts_own (cs := r) h
    | some s =>
      have h : i ∈ (match δ[k]? with
        | some (.own _ _) => k :: muts δ r
        | _ => muts δ r) := h
      rw [hs] at h
      cases s with
      | own t ds =>
        rcases List.mem_cons.mp h with e | h
        · rw [e]
          exact ⟨t, ds, hs⟩
        · exact muts_own (cs := r) h
      | no => exact muts_own (cs := r) h
      | dat d => exact muts_own (cs := r) h
      | scr d => exact muts_own (cs := r) h
theorem asOf_own {δ : List Sl} : ∀ {cs : List CA} {j0 i : Nat} {t : Option Nat} {ds : List PyData}, (asOf δ cs j0)[i]? = some (.own t ds) → ∃ k i' t', t = some (j0 + k) ∧ (muts δ cs)[k]? = some i' ∧ δ[i']? = some (.own t' ds) ∧ cs[i]? = some (.s i')
  | [], j0, i, t, ds, h => by
    have h : ([] : List Sl)[i]? = some (.own t ds) := h
    simp at h
  | .d x :: r, j0, i, t, ds, h => by
    cases i with
    | zero =>
      have h : some (Sl.dat x) = some (.own t ds) := h
      cases h
    | succ i =>
      have h : (asOf δ r j0)[i]? = some (.own t ds) := h
      exact asOf_own (cs := r) (i := i) (j0 := j0) h
  | .s k :: r, j0, i, t, ds, h => by
    have hm : muts δ (.s k :: r) = (match δ[k]? with
        | some (.own _ _) => k :: muts δ r
        | _ => muts δ r) := rfl
    have ha : asOf δ (.s k :: r) j0 = (match δ[k]? with
        | some (.own _ ds) => .own (some j0) ds :: asOf δ r (j0 + 1)
        | some (.scr ds) => .scr ds :: asOf δ r j0
        | _ => .no :: asOf δ r j0) := rfl
    rw [ha] at h
    rw [hm]
    have rest : ∀ i, (asOf δ r j0)[i]? = some (.own t ds) → ∃ k' i' t', t = some (j0 + k') ∧ (muts δ r)[k']? = some i' ∧ δ[i']? = some (.own t' ds) ∧ (CA.s k :: r)[i + 1]? = some (.s i') := fun i h => asOf_own (cs := r) (i := i) (j0 := j0) h
    cases hs : δ[k]? with
    | none =>
      rw [hs] at h
      cases i with
      | zero => cases (show some Sl.no = some (.own t ds) from h)
      | succ i => exact rest i h
    | some s =>
      rw [hs] at h
      cases s with
      | no =>
        cases i with
        | zero => cases (show some Sl.no = some (.own t ds) from h)
        | succ i => exact rest i h
      | dat d =>
        cases i with
        | zero => cases (show some Sl.no = some (.own t ds) from h)
        | succ i => exact rest i h
      | scr d =>
        cases i with
        | zero => cases (show some (Sl.scr d) = some (.own t ds) from h)
        | succ i => exact rest i h
      | own t0 d =>
        cases i with
        | zero =>
          cases (show some (Sl.own (some j0) d) = some (.own t ds) from h)
          exact ⟨0, k, t0, rfl, rfl, hs, rfl⟩
        | succ i =>
          have h : (asOf δ r (j0 + 1))[i]? = some (.own t ds) := h
          obtain ⟨k', i', t', e, a, b, cc⟩ := asOf_own (cs := r) (i := i) (j0 := j0 + 1) h
          exact ⟨k' + 1, i', t', by rw [e]; congr 1; omega, a, b, cc⟩
theorem asOf_tag {δ : List Sl} {cs : List CA} {i i' j : Nat} {ds ds' : List PyData} (hn : (muts δ cs).Nodup) : ∀ {cs' : List CA} {j0 : Nat}, (asOf δ cs' j0)[i]? = some (.own (some j) ds) → (asOf δ cs' j0)[i']? = some (.own (some j) ds') → i = i' := by
  intro cs'
  induction cs' generalizing i i' with
  | nil =>
    intro j0 h
    simp [asOf] at h
  | cons a r ih =>
    intro j0 h h'
    have ge : ∀ {q : Nat} {es : List PyData} {j1 : Nat}, (asOf δ r j1)[q]? = some (.own (some j) es) → j1 ≤ j := fun {q es j1} h => by
      obtain ⟨k, _, _, e, _⟩ := asOf_own (cs := r) h
      have := Option.some.inj e
      omega
    cases a with
    | d x =>
      cases i with
      | zero => cases (show some (Sl.dat x) = some (.own (some j) ds) from h)
      | succ i =>
        cases i' with
        | zero => cases (show some (Sl.dat x) = some (.own (some j) ds') from h')
        | succ i' => rw [ih (i := i) (i' := i') (j0 := j0) h h']
    | s k =>
      have ha : asOf δ (.s k :: r) j0 = (match δ[k]? with
        | some (.own _ ds) => .own (some j0) ds :: asOf δ r (j0 + 1)
        | some (.scr ds) => .scr ds :: asOf δ r j0
        | _ => .no :: asOf δ r j0) := rfl
      rw [ha] at h h'
      cases hs : δ[k]? with
      | none =>
        rw [hs] at h h'
        cases i with
        | zero => cases (show some Sl.no = some (.own (some j) ds) from h)
        | succ i =>
          cases i' with
          | zero => cases (show some Sl.no = some (.own (some j) ds') from h')
          | succ i' => rw [ih (i := i) (i' := i') (j0 := j0) h h']
      | some s =>
        rw [hs] at h h'
        cases s with
        | no =>
          cases i with
          | zero => cases (show some Sl.no = some (.own (some j) ds) from h)
          | succ i =>
            cases i' with
            | zero => cases (show some Sl.no = some (.own (some j) ds') from h')
            | succ i' => rw [ih (i := i) (i' := i') (j0 := j0) h h']
        | dat d =>
          cases i with
          | zero => cases (show some Sl.no = some (.own (some j) ds) from h)
          | succ i =>
            cases i' with
            | zero => cases (show some Sl.no = some (.own (some j) ds') from h')
            | succ i' => rw [ih (i := i) (i' := i') (j0 := j0) h h']
        | scr d =>
          cases i with
          | zero => cases (show some (Sl.scr d) = some (.own (some j) ds) from h)
          | succ i =>
            cases i' with
            | zero => cases (show some (Sl.scr d) = some (.own (some j) ds') from h')
            | succ i' => rw [ih (i := i) (i' := i') (j0 := j0) h h']
        | own t0 d =>
          cases i with
          | zero =>
            cases (show some (Sl.own (some j0) d) = some (.own (some j) ds) from h)
            cases i' with
            | zero => rfl
            | succ i' =>
              have h' : (asOf δ r (j + 1))[i']? = some (.own (some j) ds') := h'
              have := ge h'
              omega
          | succ i =>
            have h : (asOf δ r (j0 + 1))[i]? = some (.own (some j) ds) := h
            cases i' with
            | zero =>
              cases (show some (Sl.own (some j0) d) = some (.own (some j) ds') from h')
              have := ge h
              omega
            | succ i' => rw [ih (i := i) (i' := i') (j0 := j0 + 1) h h']
theorem asOf_len {δ : List Sl} : ∀ (cs : List CA) (j0 : Nat), (asOf δ cs j0).length = cs.length
  | [], _ => rfl
  | .d x :: r, j0 => by
    show (asOf δ r j0).length + 1 = r.length + 1
    rw [asOf_len r]
  | .s k :: r, j0 => by
    show (match δ[k]? with
        | some (.own _ ds) => Sl.own (some j0) ds :: asOf δ r (j0 + 1)
        | some (.scr ds) => .scr ds :: asOf δ r j0
        | _ => .no :: asOf δ r j0).length = r.length + 1
    split <;> rw [List.length_cons, asOf_len r]
theorem asOf_dat {δ : List Sl} : ∀ {cs : List CA} {j0 i : Nat} {x : PyData}, (asOf δ cs j0)[i]? = some (.dat x) → cs[i]? = some (.d x)
  | [], _, i, _, h => by
    have h : ([] : List Sl)[i]? = some _ := h
    simp at h
  | .d y :: r, j0, i, x, h => by
    cases i with
    | zero =>
      cases (show some (Sl.dat y) = some (.dat x) from h)
      rfl
    | succ i => exact asOf_dat (cs := r) (j0 := j0) h
  | .s k :: r, j0, i, x, h => by
    have h : (match δ[k]? with
        | some (.own _ ds) => Sl.own (some j0) ds :: asOf δ r (j0 + 1)
        | some (.scr ds) => .scr ds :: asOf δ r j0
        | _ => .no :: asOf δ r j0)[i]? = some (.dat x) := h
    split at h
    · cases i with
      | zero => simp at h
      | succ i => exact asOf_dat (cs := r) (j0 := j0 + 1) h
    · cases i with
      | zero => simp at h
      | succ i => exact asOf_dat (cs := r) (j0 := j0) h
    · cases i with
      | zero => simp at h
      | succ i => exact asOf_dat (cs := r) (j0 := j0) h
theorem asOf_scr {δ : List Sl} : ∀ {cs : List CA} {j0 i : Nat} {x : List PyData}, (asOf δ cs j0)[i]? = some (.scr x) → ∃ k, cs[i]? = some (.s k) ∧ δ[k]? = some (.scr x)
  | [], _, i, _, h => by
    have h : ([] : List Sl)[i]? = some _ := h
    simp at h
  | .d y :: r, j0, i, x, h => by
    cases i with
    | zero => cases (show some (Sl.dat y) = some (.scr x) from h)
    | succ i => exact asOf_scr (cs := r) (j0 := j0) h
  | .s k :: r, j0, i, x, h => by
    have h : (match δ[k]? with
        | some (.own _ ds) => Sl.own (some j0) ds :: asOf δ r (j0 + 1)
        | some (.scr ds) => .scr ds :: asOf δ r j0
        | _ => .no :: asOf δ r j0)[i]? = some (.scr x) := h
    split at h
    · cases i with
      | zero => simp at h
      | succ i => exact asOf_scr (cs := r) (j0 := j0 + 1) h
    · rename_i ds hk
      cases i with
      | zero =>
        cases (show some (Sl.scr ds) = some (.scr x) from h)
        exact ⟨k, rfl, hk⟩
      | succ i => exact asOf_scr (cs := r) (j0 := j0) h
    · cases i with
      | zero => simp at h
      | succ i => exact asOf_scr (cs := r) (j0 := j0) h
theorem CAs.get_s {K : PySem.W.Frag} {G : Hp} {σ : L2.St} : ∀ {vs : List V} {cs : List CA} {i k : Nat}, CAs K G σ vs cs → cs[i]? = some (.s k) → ∃ v, vs[i]? = some v ∧ σ[k]? = some (some v)
  | _, _, _, _, .nil, h => by simp at h
  | _, _, 0, k, .d _ _, h => by simp at h
  | _, _, 0, k, .s q _, h => by
    simp at h
    subst h
    exact ⟨_, rfl, q⟩
  | _, _, i + 1, k, .d _ t, h => by
    obtain ⟨v, a, b⟩ := CAs.get_s (i := i) (k := k) t (by simpa using h)
    exact ⟨v, by simpa using a, b⟩
  | _, _, i + 1, k, .s _ t, h => by
    obtain ⟨v, a, b⟩ := CAs.get_s (i := i) (k := k) t (by simpa using h)
    exact ⟨v, by simpa using a, b⟩
theorem CAs.get_d {K : PySem.W.Frag} {G : Hp} {σ : L2.St} : ∀ {vs : List V} {cs : List CA} {i : Nat} {x : PyData}, CAs K G σ vs cs → cs[i]? = some (.d x) → ∃ v, vs[i]? = some v ∧ Rp K G v x
  | _, _, _, _, .nil, h => by simp at h
  | _, _, 0, x, .d q _, h => by
    simp at h
    subst h
    exact ⟨_, rfl, q⟩
  | _, _, 0, x, .s _ _, h => by simp at h
  | _, _, i + 1, x, .d _ t, h => by
    obtain ⟨v, a, b⟩ := CAs.get_d (i := i) (x := x) t (by simpa using h)
    exact ⟨v, by simpa using a, b⟩
  | _, _, i + 1, x, .s _ t, h => by
    obtain ⟨v, a, b⟩ := CAs.get_d (i := i) (x := x) t (by simpa using h)
    exact ⟨v, by simpa using a, b⟩
theorem setOut_len {δ : List Sl} {i : Nat} {o : List PyData} : (setOut δ i o).length = δ.length := by
  unfold setOut
  split
  · rw [List.length_set]
  · rfl
theorem setOut_get {δ : List Sl} {i k : Nat} {o : List PyData} {t : Option Nat} {ds : List PyData} (hi : δ[i]? = some (.own t ds)) : (setOut δ i o)[k]? = if i = k then some (.own t o) else δ[k]? := by
  unfold setOut
  rw [hi]
  show (δ.set i (.own t o))[k]? = _
  rw [List.getElem?_set]
  by_cases h : i = k
  · rw [if_pos h, if_pos h, if_pos (List.getElem?_eq_some_iff.mp hi).1]
  · rw [if_neg h, if_neg h]
theorem setOuts_get : ∀ {M : List Nat} {δ : List Sl} {outs : List (List PyData)} {k : Nat}, M.Nodup → outs.length = M.length → (∀ i ∈ M, ∃ t ds, δ[i]? = some (.own t ds)) →
    (setOuts δ M outs).length = δ.length ∧ (k ∉ M → (setOuts δ M outs)[k]? = δ[k]?) ∧ (∀ (j : Nat) (t : Option Nat) (ds : List PyData), M[j]? = some k → δ[k]? = some (.own t ds) → ∃ o, outs[j]? = some o ∧ (setOuts δ M outs)[k]? = some (.own t o))
  | [], δ, outs, k, _, _, _ => ⟨rfl, fun _ => rfl, fun j t ds h => by simp at h⟩
  | i :: M, δ, [], k, _, hl, _ => by simp at hl
  | i :: M, δ, o :: os, k, hn, hl, ho => by
    obtain ⟨hi, hn'⟩ := List.nodup_cons.mp hn
    obtain ⟨t0, ds0, h0⟩ := ho i List.mem_cons_self
    have ho' : ∀ q ∈ M, ∃ t ds, (setOut δ i o)[q]? = some (.own t ds) := fun q hq => by
      obtain ⟨t, ds, h⟩ := ho q (List.mem_cons_of_mem _ hq)
      rw [setOut_get h0, if_neg (fun z => hi (by rw [z]; exact hq))]
      exact ⟨t, ds, h⟩
    obtain ⟨a, b, cc⟩ := setOuts_get (M := M) (δ := setOut δ i o) (outs := os) (k := k) hn' (by simpa using hl) ho'
    show (setOuts (setOut δ i o) M os).length = δ.length ∧ _ ∧ _
    refine ⟨by rw [a, setOut_len], fun hk => ?_, fun j t ds hj hd => ?_⟩
    · show (setOuts (setOut δ i o) M os)[k]? = δ[k]?
      rw [b fun z => hk (List.mem_cons_of_mem _ z), setOut_get h0, if_neg fun z => hk (by rw [z]; exact List.mem_cons_self)]
    · show ∃ o', (o :: os)[j]? = some o' ∧ (setOuts (setOut δ i o) M os)[k]? = some (.own t o')
      cases j with
      | zero =>
        have e : i = k := by simpa using hj
        subst e
        rw [h0] at hd
        cases hd
        refine ⟨o, rfl, ?_⟩
        rw [b hi, setOut_get h0, if_pos rfl]
      | succ j =>
        have hj' : M[j]? = some k := by simpa using hj
        have ne : ¬ i = k := fun z => hi (by rw [z]; exact List.mem_of_getElem? hj')
        obtain ⟨o', q1, q2⟩ := cc j t ds hj' (by rw [setOut_get h0, if_neg ne]; exact hd)
        exact ⟨o', by simpa using q1, q2⟩
end TL

set_option Elab.async false
set_option linter.all false
set_option maxRecDepth 100000
set_option maxHeartbeats 2000000
/-! TLg: defs that run where nothing is being shown by repr (so that repr tells one text for one datum). -/
namespace TL
open PySem PySem.Spec PyProof.Rows L2

/-- room, and no repr under way -/
structure RoomG (k : Nat) (A : Around) : Prop where
  room : Room k A
  gd : A.guards = some []
theorem RoomG.mono {j k : Nat} {A : Around} (r : RoomG k A) (h : j ≤ k) : RoomG j A := ⟨r.room.mono h, r.gd⟩
theorem RoomG.deeper {k : Nat} {A : Around} (r : RoomG (k + 1) A) (env : Env) : RoomG k (A.deeper env) := ⟨r.room.deeper env, r.gd⟩
theorem RoomG.un {k : Nat} {A : Around} (r : RoomG k A) : A.units + 16 * k + 200 < cLine := r.room.un
theorem RoomG.units {k : Nat} {A : Around} (r : RoomG k A) : A.units + 64 < cLine := by
  have := r.un
  omega
theorem RoomG.units1 {k : Nat} {A : Around} (r : RoomG k A) : A.units + 65 < cLine := by
  have := r.un
  omega
structure FnOkG (P : Program) (w : World) (K : PySem.W.Frag) (mg : Str → Option Value) (base : Heap) (CX : CXT) (k : Nat) (f : Addr) (fd : FuncData) (ps : List Str) (sp : Sp) : Prop where
  len : ∀ vs H Q E, sp vs H Q E → vs.length = ps.length
  run : ∀ (B : Around) (out : List Env) (t : Shared) (H : Hp) (as : Args) (us : List Value) (vs : List V) (Q : VK) (E : XK), RoomG k B → Env0 P w K mg base B out t H → BindsTo t fd as (ps.zip us) → Vals vs us → sp vs H Q E →
    codeAny (model P w) B (.call (.ref f) as) (CR CX out P w H t Q E) t
section
variable {P : Program} {w : World} {K : PySem.W.Frag} {mg : Str → Option Value} {base : Heap} {CX : CXT} {j k : Nat} {f : Addr} {fd : FuncData} {ps : List Str} {sp sp' : Sp}
theorem FnOkG.mono (F : FnOkG P w K mg base CX j f fd ps sp) (h : j ≤ k) : FnOkG P w K mg base CX k f fd ps sp := ⟨F.len, fun B o t H as us vs Q E r => F.run B o t H as us vs Q E (r.mono h)⟩
theorem FnOkG.imp (F : FnOkG P w K mg base CX k f fd ps sp) (h : ∀ vs H Q E, sp' vs H Q E → sp vs H Q E) : FnOkG P w K mg base CX k f fd ps sp' :=
  ⟨fun vs H Q E q => F.len vs H Q E (h _ _ _ _ q), fun B o t H as us vs Q E r e b v q => F.run B o t H as us vs Q E r e b v (h _ _ _ _ q)⟩
end
section
variable {X : Cx} {CX : CXT} {k : Nat} {f : Addr} {fd : FuncData} {ps ks : List Str} {sp : Sp} {dvs : List V} {ds : List Value} {E : XK} {x : Str} {p pos : Pos} {e : Expr} {es : List Expr} {kws : List Keyword} {t tk : TA}
/-- the callee runs -/
theorem run_fnG {pins : List (Addr × Obj)} {σ : L2.St} {H : Hp} {z : Shared} {Q : VK} {us : List Value} {vs : List V} (F : FnOkG X.prog X.w X.K X.mg X.base CX k f fd ps sp) (hr : RoomG k X.A) (hb : Binds X.K fd ps ds) (hd : Vals dvs ds) (hx : Passes CX X E)
    (I : Inv X pins σ H z) (r : Vals vs us) (h : sp (vs ++ dvs) H Q E) : wpAny (model X.prog X.w) X.A (call (.ref f) us) (EP X pins σ Q) X.xe z := by
  have rr := r.append hd
  have len := rr.length.symm.trans (F.len _ _ _ _ h)
  refine wpAny_call (codeAny_mono (F.run X.A X.stack z H _ _ _ Q E hr I.env0 (hb z us I.kIn len) rr h) ?_)
  rintro (er | fl) z' hq
  · exact hx pins σ H z er z' I hq
  · cases fl <;> first
      | exact I.after hq
      | exact False.elim hq
theorem run_fnkG {g : List Value → List Value → List Value} {gV : List V → List V → List V} {pins : List (Addr × Obj)} {σ : L2.St} {H : Hp} {z : Shared} {Q : VK} {us ws : List Value} {vs zs : List V} (F : FnOkG X.prog X.w X.K X.mg X.base CX k f fd ps sp) (hr : RoomG k X.A)
    (hb : KBinds X.K fd ps ks g gV) (hx : Passes CX X E) (I : Inv X pins σ H z) (r : Vals vs us) (rz : Vals zs ws) (h : sp (gV vs zs) H Q E) : wpAny (model X.prog X.w) X.A (call (.ref f) us (ks.zip ws)) (EP X pins σ Q) X.xe z := by
  have rr := hb.rel r rz
  have len := rr.length.symm.trans (F.len _ _ _ _ h)
  refine wpAny_call (codeAny_mono (F.run X.A X.stack z H _ _ _ Q E hr I.env0 (hb.to z us ws I.kIn len) rr h) ?_)
  rintro (er | fl) z' hq
  · exact hx pins σ H z er z' I hq
  · cases fl <;> first
      | exact I.after hq
      | exact False.elim hq
theorem pe_callG (F : FnOkG X.prog X.w X.K X.mg X.base CX k f fd ps sp) (hr : RoomG k X.A) (hg : Gl X x) (hm : X.mg x = some (.ref f)) (hk : PySem.W.keepIn X.K (.ref f) = true) (hb : Binds X.K fd ps ds) (hd : Vals dvs ds) (hx : Passes CX X E) (ha : PA X (e :: es) t)
    (hdb : (x == ("__debug__" : Str)) = false := by decide) (he : starEach (e :: es) X.env = (false, eval e X.env) :: starEach es X.env := by rfl) (hpl : (backTo pos (starEach es X.env)).any (·.1) = false := by rfl) : PE X (.Call (.Name x p) (e :: es) [] pos) (tCall sp dvs E t) := by
  constructor
  intro pins z σ H Q I h
  refine wpAny_Call_Name_kw (ld_glob I hg hm ?_ hdb)
  exact PySem.W.callWith_K (h₀ := X.base) I.ok.mod.kin hk (thn (ha.run pos pins z σ H _ I h) fun us z1 ⟨vs, H1, I1, r, q⟩ => ⟨I1.kIn, run_fnG F hr hb hd hx I1 r q⟩) he hpl
theorem pe_callG0 (F : FnOkG X.prog X.w X.K X.mg X.base CX k f fd ps sp) (hr : RoomG k X.A) (hg : Gl X x) (hm : X.mg x = some (.ref f)) (hk : PySem.W.keepIn X.K (.ref f) = true) (hb : Binds X.K fd ps ds) (hd : Vals dvs ds) (hx : Passes CX X E)
    (hdb : (x == ("__debug__" : Str)) = false := by decide) : PE X (.Call (.Name x p) [] [] pos) (tCall sp dvs E tNil) := by
  constructor
  intro pins z σ H Q I h
  exact wpAny_Call_Name_kw (ld_glob I hg hm (PySem.W.callWith_K0 I.kIn hk (run_fnG (us := []) F hr hb hd hx I .nil h)) hdb)
end
section
variable {P : Program} {w : World} {K : PySem.W.Frag} {mg : Str → Option Value} {base : Heap} {CX : CXT}
/-- a def by its body -/
theorem fn_ofG {k : Nat} {f : Addr} {name qual : Str} {params : Arguments} {body : List Stmt} {scope : Scope} {dV kV doc pm cdv ct oc : Value} {an od : Option Addr} {osl : Array (Option Value)} {N ps : List Str} {sp : Sp}
    (lk : K.lookup f = some ⟨oc, od, .func (PySem.W.fnOf name qual params body scope dV kV doc pm an cdv ct), osl⟩) (hcd : PySem.W.codeIn K cdv qual = true) (S : FnScope N ps scope) (len : ∀ vs H Q E, sp vs H Q E → vs.length = ps.length)
    (hbody : ∀ (B : Around) (out : List Env) (z : Shared) (H : Hp) (vs : List V) (Q : VK) (E : XK), RoomG k (B.deeper (envOfC qual scope z.heap.objs.size f cdv)) → sp vs H Q E →
      ∃ t, PSs (cxOf CX P w K mg base N qual scope f cdv B out z H E) body t ∧ t { nx := fun _ H' => Q .non H', rt := Q } (start N vs) H) : FnOkG P w K mg base CX (k + 1) f (PySem.W.fnOf name qual params body scope dV kV doc pm an cdv ct) ps sp := by
  constructor
  · exact len
  intro B out z H as us vs Q E hr e0 hb r hsp
  have KZ := e0.mod.kin.keeps fun b o e => (e0.bs b o e).1
  have room := hr.deeper (envOfC qual scope z.heap.objs.size f cdv)
  obtain ⟨t, ht, hq⟩ := hbody B out z H vs Q E room hsp
  have kinds : ∀ y ∈ ps.zip us, scope.names.lookup y.1 = some .local ∨ (scope.names.lookup y.1 = some .cell ∧ ((cellsFrom (z.heap.objs.size + 1) scope.names []).lookup y.1).isSome = true) := by
    rintro ⟨n, v⟩ hy
    cases S.par n (List.of_mem_zip hy).1 with
    | inl q => exact Or.inl q
    | inr q => exact Or.inr ⟨q, PySem.W.cellsFrom_some _ _ _ (Or.inl q)⟩
  refine codeAny_call_function hr.room.depth (KZ _ _ lk) rfl S.co S.gen rfl (PySem.W.codeRec_of KZ hcd) (hb _ _ _ _ (wpAny_newFunctionEnv_cells S.kind kinds ?_))
  rintro env rfl z1 x
  have lim := (e0.mod.nolimit.keeps fun b o e => (e0.bs b o e).1).keeps x.toInCall.keep
  refine ⟨lim, codeAny_func ?_⟩
  have I := inv_start (CX := CX) (E := E) S hr.room.hd e0 (len _ _ _ _ hsp) r x
  refine wpAny_mono (ht.run [] z1 (start N vs) H _ I hq) ?_ (fun e s' hs => hs)
  intro fl z2 hs
  cases fl with
  | ret u =>
    obtain ⟨v, σ', H', J, rv, q⟩ := hs
    exact ⟨v, H', J.os, J.bare, J.base, J.hok, rv, q⟩
  | next =>
    obtain ⟨σ', H', J, q⟩ := hs
    exact ⟨V.non, H', J.os, J.bare, J.base, J.hok, rfl, q⟩
  | brk =>
    obtain ⟨_, _, _, q⟩ := hs
    cases q
  | cont =>
    obtain ⟨_, _, _, q⟩ := hs
    cases q
theorem fun_okG {x qual : Str} {st : Stmt} {f : Addr} {fd : FuncData} {N ps : List Str} {k : Nat} {sp : Sp} (F : Fun K x qual st f fd) (S : FnScope N ps (defScope st)) (len : ∀ vs H Q E, sp vs H Q E → vs.length = ps.length)
    (hbody : ∀ (cdv : Value) (B : Around) (out : List Env) (z : Shared) (H : Hp) (vs : List V) (Q : VK) (E : XK), RoomG k (B.deeper (envOfC qual (defScope st) z.heap.objs.size f cdv)) → sp vs H Q E →
      ∃ t, PSs (cxOf CX P w K mg base N qual (defScope st) f cdv B out z H E) (defBody st) t ∧ t { nx := fun _ H' => Q .non H', rt := Q } (start N vs) H) : FnOkG P w K mg base CX (k + 1) f fd ps sp := by
  obtain ⟨oc, od, kV, doc, pm, an, cdv, ct, osl, e, lk, hcd⟩ := F.ex
  subst e
  exact fn_ofG lk hcd S len (hbody cdv)

/-! ### the law's call -/
/-- nothing but the script is tracked -/
theorem law_at {fa a : Addr} {fd : FuncData} {x : Str} {k : Nat} {sp : Sp} {z : Shared} {us : List Value} {ns : List Int} {mb : Str → Option Value} (KX : K.In z.heap) (hns : z.heap.Ns mainGlobals mg) (hb : z.heap.Ns builtinsNs mb) (hbb : ∀ x : Str, x ≠ "__name__" → mb x = bootBuiltins x) (hlim : z.heap.NoLimit) (hg : z.gens = #[])
    (ha : z.heap.get? a = some { cls := .type "list", data := .seq us.toArray }) (hr : RoomG k callerA) (F : ∀ base : Heap, K.In base → base.Ns mainGlobals mg → FnOkG P w K mg base CX0 k fa fd [x] sp) (hbind : ∀ (s : Shared) (u : Value), BindsTo s fd ⟨[u], []⟩ [(x, u)])
    (H : Hp) (hO : Only H) (hok : HOk P w H z.heap) (hA : ∀ b, H b ≠ none → b = a ∧ K.lookup a = none) (hsp : sp [.ref a] H (fun v _ => v = .bl true) fun _ _ _ => False) :
    codeAny (model P w) callerA (.call (.ref fa) ⟨[.ref a], []⟩) (fun r s' => r = .ok (.ret (.bool true)) ∧ OldK z.heap s'.heap ∧ s'.os = z.os ∧ AllBare s'.gens) z := by
  have dict0 : ∀ {b : Addr} {o : Obj} {es : Array DictEntry} {ep : Nat}, z.heap.get? b = some o → o.data = .dict es ep → H b = none := by
    intro b o es ep e d
    by_cases q : H b = none
    · exact q
    · have eb := (hA b q).1
      rw [eb, ha] at e
      cases e
      cases (show Data.seq us.toArray _ = Data.dict es ep from d)
  have ns0 : ∀ {b : Addr} {m : Str → Option Value}, z.heap.Ns b m → (hidT z.heap H).Ns b m := by
    rintro b m ⟨o, es, ep, e, d, r⟩
    exact ⟨o, es, ep, hidT_get e (dict0 e d), d, r⟩
  have K0 : K.In (hidT z.heap H) := by
    intro b o e
    refine hidT_get (KX b o e) ?_
    by_cases q : H b = none
    · exact q
    · obtain ⟨eb, hk⟩ := hA b q
      rw [eb, hk] at e
      cases e
  obtain ⟨mc, l1, l2⟩ := hlim
  have M0 : Mod K mg (hidT z.heap H) := { kin := K0, glob := ns0 hns, blt := ⟨mb, ns0 hb, hbb⟩, nolimit := ⟨mc, ns0 l1, l2⟩ }
  have E0' : Env0 P w K mg (hidT z.heap H) callerA [] z H := { frames := rfl, mod := M0, bs := fun b o e => of_hidT e, bsz := Nat.le_of_eq (hidT_size _ _), funs := trivial, frf := (fun b hb => nomatch (show b ∈ ([] : List Addr) from hb)), hok := hok, bare := .of_eq hg }
  refine codeAny_mono ((F _ K0 (ns0 hns)).run callerA [] z H _ [.ref a] [.ref a] _ _ hr E0' (hbind z (.ref a)) (.cons rfl .nil) hsp) ?_
  rintro (er | fl) s' h
  · exact False.elim h
  cases fl <;> first
    | exact False.elim h
    | skip
  rename_i u
  obtain ⟨v, H', os, bare, un, hok', r', q⟩ := h
  have q : v = .bl true := q
  subst q
  have r' : u = Value.bool true := r'
  subst r'
  refine ⟨rfl, OldK.of_keep ?_, os, bare⟩
  intro b o e
  rcases hO b with q | ⟨ob, xs, q⟩
  · exact un.keep b o e q (fun m => nomatch (show b ∈ ([] : List Addr) from m)) (fun m => nomatch m)
  · obtain ⟨e1, _⟩ := hok b _ q
    obtain ⟨e2, _⟩ := hok' b _ (un.frzs b ob _ q)
    rw [e] at e1
    cases e1
    exact e2
theorem law_callG {fa a : Addr} {fd : FuncData} {x : Str} {k : Nat} {sp : Sp} {z : Shared} {us : List Value} {ns : List Int} {mb : Str → Option Value} (KX : K.In z.heap) (hns : z.heap.Ns mainGlobals mg) (hb : z.heap.Ns builtinsNs mb) (hbb : ∀ x : Str, x ≠ "__name__" → mb x = bootBuiltins x) (hlim : z.heap.NoLimit) (hg : z.gens = #[])
    (ha : z.heap.get? a = some { cls := .type "list", data := .seq us.toArray }) (hi : IntsAre us ns) (hl : ns.length ≤ sizeLine) (hr : RoomG k callerA) (F : ∀ base : Heap, K.In base → base.Ns mainGlobals mg → FnOkG P w K mg base CX0 k fa fd [x] sp) (hbind : ∀ (s : Shared) (u : Value), BindsTo s fd ⟨[u], []⟩ [(x, u)])
    (hsp : ∀ H : Hp, Only H → SqL K H a (ns.map V.int) → sp [.ref a] H (fun v _ => v = .bl true) fun _ _ _ => False) :
    codeAny (model P w) callerA (.call (.ref fa) ⟨[.ref a], []⟩) (fun r s' => r = .ok (.ret (.bool true)) ∧ OldK z.heap s'.heap ∧ s'.os = z.os ∧ AllBare s'.gens) z := by
  have rv := vals_ints hi
  have at_ := fun H hO hok hA hS => law_at (ns := ns) KX hns hb hbb hlim hg ha hr F hbind H hO hok hA (hsp H hO hS)
  cases hk : K.lookup a with
  | some o =>
    have e := KX a o hk
    rw [ha] at e
    cases e
    refine at_ (fun _ => none) (fun _ => .inl rfl) (fun b u q => nomatch (show (none : Option HO) = some u from q)) (fun b q => absurd rfl q) ?_
    exact .inr ⟨_, us.toArray, _, hk, rfl, rfl, rfl, by rw [List.size_toArray, hi.length]; exact hl, by simpa using rv⟩
  | none =>
    have on : ∀ {b : Addr} {u : HO}, (fun b => if b = a then some (HO.frz { cls := .type "list", data := .seq us.toArray } (.lst (ns.map V.int))) else none) b = some u → b = a ∧ u = .frz { cls := .type "list", data := .seq us.toArray } (.lst (ns.map V.int)) := by
      intro b u q
      by_cases h : b = a
      · exact ⟨h, (Option.some.inj ((if_pos h).symm.trans q)).symm⟩
      · cases (if_neg h).symm.trans q
    refine at_ (fun b => if b = a then some (.frz { cls := .type "list", data := .seq us.toArray } (.lst (ns.map V.int))) else none) (fun b => ?_) (fun b u q => ?_) (fun b q => ?_) (.inl (.inr ⟨_, if_pos rfl⟩))
    · by_cases h : b = a
      · exact .inr ⟨_, _, if_pos h⟩
      · exact .inl (if_neg h)
    · obtain ⟨rfl, rfl⟩ := on q
      exact ⟨ha, by rw [List.length_map]; exact hl, us, _, rv, ha⟩
    · by_cases h : b = a
      · exact ⟨h, hk⟩
      · exact absurd (if_neg h) q
theorem walk_ofG {l : PySem.W.OpenLaw} {n k : Nat} {q : Program} {loose : List Str} {XP : (Str → Option Value) → Heap → Prop} {YP : World → Heap → Prop} {d : DefRec} {K : Params → PySem.W.Frag} {sp : World → Sp} {x : Str}
    (hn : l.most = some n) (hn2 : n ≤ sizeLine) (hdf : d.params.defaults = []) (hr : Room k callerA) (hY : ∀ (w : World) (h : Heap), YP w h → (K w.params).In h)
    (F : ∀ (w : World) (mg : Str → Option Value) (fa : Addr) (h : Heap), (K w.params).In h → h.Ns mainGlobals mg → mg d.name = some (.ref fa) →
      ∃ fd : FuncData, (∀ (s : Shared) (u : Value), BindsTo s fd ⟨[u], []⟩ [(x, u)]) ∧ ∀ base : Heap, (K w.params).In base → base.Ns mainGlobals mg → FnOkG l.prog w (K w.params) mg base CX0 k fa fd [x] (sp w))
    (hsp : ∀ (w : World) (H : Hp) (a : Addr) (ns : List Int), ns.length ≤ n → Only H → SqL (K w.params) H a (ns.map V.int) → sp w [.ref a] H (fun v _ => v = .bl true) fun _ _ _ => False) :
    PySem.W.WalkO q loose XP YP l.row.toRowW d [] (fun f vs => PySem.call f vs) := by
  refine Att.attach_call hn hdf ?_
  intro w s0 z mg mb fa o pm cd doc a us ns G Y ho hd hcd hmg hobj hints hlen hg
  have KX := hY w _ Y
  obtain ⟨fd, hb, hF⟩ := F w mg fa _ KX G.T.g hmg
  exact law_callG KX G.T.g G.T.b G.T.builtins G.T.nolimit hg hobj hints (Nat.le_trans hlen hn2) ⟨hr, rfl⟩ hF hb fun H hO hS => hsp w H a ns hlen hO hS
end
end TL

set_option Elab.async false
set_option linter.all false
set_option maxRecDepth 100000
set_option maxHeartbeats 2000000
/-! TL7: calls and defs by data, the rules. -/
namespace TL
open PySem PySem.Spec L2

theorem map_some_get {vs : List V} {i : Nat} {v : V} (h : vs[i]? = some v) : (vs.map some)[i]? = some (some v) := by
  rw [List.getElem?_map, h]
  rfl
theorem addr_of {σ : L2.St} {i : Nat} {p : Addr} (h : σ[i]? = some (some (.ref p))) : addr σ i = p := by
  unfold addr
  rw [h]
theorem getD_of {M : List Nat} {j i : Nat} (h : M[j]? = some i) : M.getD j 0 = i := by
  rw [List.getD_eq_getElem?_getD, h]
  rfl
section
variable [XW]
variable {K : PySem.W.Frag} {c : Cf} {G H G' H' : Hp} {σ : L2.St} {δ : List Sl} {cs : List CA} {vs : List V} {outs : List (List PyData)}
abbrev calleeC (σ : L2.St) (M : List Nat) (G H : Hp) : Cf := ⟨fun j => addr σ (M.getD j 0), M.length, G, H, []⟩
/-- the list in a slot handed on -/
theorem mut_at (E : EnvOk K c G H σ δ) {j : Nat} (hj : j < (muts δ cs).length) : ∃ i t ds p xs, (muts δ cs)[j]? = some i ∧ δ[i]? = some (.own t ds) ∧ σ[i]? = some (some (.ref p)) ∧ G p = none ∧ H p = some (.lst xs) ∧ RpAll K G xs ds ∧ addr σ ((muts δ cs).getD j 0) = p ∧
    (match t with
        | some j => j < c.n ∧ p = c.τ j
        | none => c.H0 p = none ∧ ∀ j, j < c.n → p ≠ c.τ j) := by
  have hi : (muts δ cs)[j]? = some (muts δ cs)[j] := List.getElem?_eq_getElem hj
  obtain ⟨t, ds, h⟩ := muts_own (List.mem_of_getElem? hi)
  obtain ⟨p, xs, e, g, hh, r, q⟩ := E.sl _ _ h
  exact ⟨_, t, ds, p, xs, hi, h, e, g, hh, r, by rw [getD_of hi]; exact addr_of e, q⟩
theorem callee_env (E : EnvOk K c G H σ δ) (r : CAs K G σ vs cs) (hn : (muts δ cs).Nodup) : EnvC K (calleeC σ (muts δ cs) G H) G H (vs.map some) (asOf δ cs 0) where
  g0 := Ex.refl _
  ex := E.ex
  fr := fun a o h _ => h
  fs := fun a h _ => h
  tg := fun j hj => by
    obtain ⟨i, t, ds, p, xs, _, _, _, g, hh, _, ea, _⟩ := mut_at E hj
    show H (addr σ ((muts δ cs).getD j 0)) ≠ none ∧ G (addr σ ((muts δ cs).getD j 0)) = none
    rw [ea, hh]
    exact ⟨(by intro z; cases z), g⟩
  len := by rw [List.length_map, r.len, asOf_len]
  sl := fun i s h => by
    cases s with
    | no => trivial
    | dat x =>
      obtain ⟨v, hv, rv⟩ := r.get_d (asOf_dat h)
      exact ⟨v, map_some_get hv, rv⟩
    | scr x =>
      obtain ⟨k, h1, h2⟩ := asOf_scr h
      obtain ⟨v, hv, hσ⟩ := r.get_s h1
      obtain ⟨a, xs, e, q, rr⟩ := E.sl k _ h2
      rw [hσ] at e
      have ev := Option.some.inj (Option.some.inj e)
      subst ev
      exact ⟨a, xs, map_some_get hv, q, rr⟩
    | own t ds =>
      obtain ⟨k, i', t', et, hM, hδ, hc⟩ := asOf_own h
      obtain ⟨v, hv, hσ⟩ := r.get_s hc
      obtain ⟨p, xs, e, g, hh, rr, _⟩ := E.sl i' _ hδ
      rw [hσ] at e
      have ev := Option.some.inj (Option.some.inj e)
      subst ev
      refine ⟨p, xs, map_some_get hv, g, hh, rr, ?_⟩
      rw [et, Nat.zero_add]
      refine ⟨(List.getElem?_eq_some_iff.mp hM).1, ?_⟩
      show p = addr σ ((muts δ cs).getD k 0)
      rw [getD_of hM, addr_of hσ]
  ap := fun i j t1 d1 t2 d2 hij h1 h2 => by
    obtain ⟨k1, i1, t1', e1, hM1, hδ1, hc1⟩ := asOf_own h1
    obtain ⟨k2, i2, t2', e2, hM2, hδ2, hc2⟩ := asOf_own h2
    obtain ⟨v1, hv1, hσ1⟩ := r.get_s hc1
    obtain ⟨v2, hv2, hσ2⟩ := r.get_s hc2
    rw [map_some_get hv1, map_some_get hv2]
    intro z
    have ev := Option.some.inj (Option.some.inj z)
    by_cases hk : k1 = k2
    · subst hk
      rw [e1] at h1
      rw [e2] at h2
      exact hij (asOf_tag hn h1 h2)
    · have ne : i1 ≠ i2 := fun q => hk (nd_ix hn hM1 (by rw [q]; exact hM2))
      exact E.ap i1 i2 _ _ _ _ ne hδ1 hδ2 (by rw [hσ1, hσ2, ev])
  hd := fun p xs h => nomatch h
theorem caller_back (E : EnvOk K c G H σ δ) (hn : (muts δ cs).Nodup) (hl : outs.length = (muts δ cs).length) (F : Fin K (calleeC σ (muts δ cs) G H) G' H' outs) : EnvOk K c G' H' σ (setOuts δ (muts δ cs) outs) := by
  have so := fun k => setOuts_get (M := muts δ cs) (δ := δ) (outs := outs) (k := k) hn hl fun i hi => muts_own hi
  -- what is no callee's own list stays
  have far : ∀ a, (∀ (i : Nat) (t : Option Nat) (ds : List PyData), i ∈ muts δ cs → δ[i]? = some (.own t ds) → σ[i]? ≠ some (some (.ref a))) → ∀ o, H a = some o → H' a = some o := fun a ha o h => by
    refine F.fr a o h fun j hj z => ?_
    obtain ⟨i, t, ds, p, xs, hi, hd, hσ, _, _, _, ea, _⟩ := mut_at E hj
    have z : a = addr σ ((muts δ cs).getD j 0) := z
    rw [ea] at z
    exact ha i t ds (List.mem_of_getElem? hi) hd (by rw [hσ, z])
  have gno : ∀ a, G a = none → H a ≠ none → G' a = none := F.fs
  have back : ∀ (k : Nat) (t : Option Nat) (ds : List PyData), (setOuts δ (muts δ cs) outs)[k]? = some (.own t ds) → ∃ ds', δ[k]? = some (.own t ds') := fun k t ds h => by
    by_cases hk : k ∈ muts δ cs
    · obtain ⟨j, hj, e⟩ := List.mem_iff_getElem.mp hk
      obtain ⟨t', ds', hd⟩ := muts_own hk
      obtain ⟨o, _, q⟩ := (so k).2.2 j t' ds' (by rw [List.getElem?_eq_getElem hj, e]) hd
      rw [h] at q
      cases q
      exact ⟨ds', hd⟩
    · rw [(so k).2.1 hk] at h
      exact ⟨ds, h⟩
  have tagH : ∀ j, j < c.n → H' (c.τ j) ≠ none := fun j hj => by
    by_cases hk : ∃ j', j' < (muts δ cs).length ∧ c.τ j = addr σ ((muts δ cs).getD j' 0)
    · obtain ⟨j', hj', e⟩ := hk
      rw [e]
      exact (F.tg j' hj').1
    · cases q : H (c.τ j) with
      | none => exact absurd q (E.tg j hj).1
      | some o =>
        rw [F.fr _ o q fun j' hj' z => hk ⟨j', hj', z⟩]
        exact fun z => nomatch z
  exact {
    xw := E.xw
    g0 := E.g0.trans F.g0
    ex := F.ex
    fr := fun a o h k => by
      refine far a (fun i t ds _ hd hσ => ?_) o (E.fr a o h k)
      obtain ⟨p, xs, e, _, _, _, q⟩ := E.sl i _ hd
      rw [hσ] at e
      have ev := V.ref.inj (Option.some.inj (Option.some.inj e))
      subst ev
      cases t with
      | none =>
        rw [q.1] at h
        cases h
      | some j => exact k j q.1 q.2
    fs := fun a h1 h2 => by
      by_cases ht : ∃ j, j < c.n ∧ a = c.τ j
      · obtain ⟨j, hj, rfl⟩ := ht
        exact gno _ (E.tg j hj).2 (E.tg j hj).1
      · refine gno a (E.fs a h1 h2) ?_
        cases q : c.H0 a with
        | none => exact absurd q h2
        | some o =>
          rw [E.fr a o q fun j hj z => ht ⟨j, hj, z⟩]
          exact fun z => nomatch z
    tg := fun j hj => ⟨tagH j hj, gno _ (E.tg j hj).2 (E.tg j hj).1⟩
    len := by rw [E.len, (so 0).1]
    sl := fun k s h => by
      by_cases hk : k ∈ muts δ cs
      · obtain ⟨j, hj, e⟩ := List.mem_iff_getElem.mp hk
        have hj' : (muts δ cs)[j]? = some k := by rw [List.getElem?_eq_getElem hj, e]
        obtain ⟨i, t, ds, p, xs, hi, hd, hσ, g, hh, _, ea, q⟩ := mut_at E hj
        rw [hj'] at hi
        cases hi
        obtain ⟨o, ho, so'⟩ := (so k).2.2 j t ds hj' hd
        rw [h] at so'
        cases so'
        obtain ⟨ys, f1, f2⟩ := F.out j o ho
        have f1 : H' (addr σ ((muts δ cs).getD j 0)) = some (.lst ys) := f1
        rw [ea] at f1
        exact ⟨p, ys, hσ, gno p g (by rw [hh]; exact fun z => nomatch z), f1, f2, q⟩
      · rw [(so k).2.1 hk] at h
        have z := E.sl k s h
        cases s with
        | no => trivial
        | dat d =>
          obtain ⟨x, e, r⟩ := z
          exact ⟨x, e, r.up F.g0⟩
        | scr d =>
          obtain ⟨a, xs, e, q, r⟩ := z
          exact ⟨a, xs, e, ex_l F.g0 q, r.up F.g0⟩
        | own t ds =>
          obtain ⟨p, xs, e, g, hh, r, q⟩ := z
          refine ⟨p, xs, e, gno p g (by rw [hh]; exact fun z => nomatch z), far p (fun i t' ds' hi hd hσ => ?_) _ hh, r.up F.g0, q⟩
          exact E.ap k i _ _ _ _ (fun z => hk (by rw [z]; exact hi)) h hd (by rw [e, hσ])
    ap := fun i j t1 d1 t2 d2 hij h1 h2 => by
      obtain ⟨e1, b1⟩ := back i t1 d1 h1
      obtain ⟨e2, b2⟩ := back j t2 d2 h2
      exact E.ap i j _ _ _ _ hij b1 b2
    hd := fun p xs hm => by
      obtain ⟨a1, a2, a3, a4, a5⟩ := E.hd p xs hm
      refine ⟨far p (fun i t ds _ hd => a5 i t ds hd) _ a1, gno p a2 (by rw [a1]; exact fun z => nomatch z), a3, a4, fun i t ds hs => ?_⟩
      obtain ⟨ds', b⟩ := back i t ds hs
      exact a5 i t ds' b }
theorem re_call {S : DSp} {t : TA} {ua : DCA} (ha : RCA K t ua) : RE K (tCall (spD K S) [] E0 t) (dCall S ua) := by
  intro c σ G H δ Q R E h k
  refine ha c σ G H δ _ _ E h fun cs δ1 vs G1 H1 h1 E1 e1 r1 => ?_
  obtain ⟨hn, hS⟩ := h1
  show spD K S (vs ++ []) H1 Q E0
  rw [List.append_nil]
  refine ⟨calleeC σ (muts δ1 cs) G1 H1, asOf δ1 cs 0, _, rfl, rfl, callee_env E1 r1 hn, hS, fun d outs v G' H' hR F rv => ?_⟩
  exact k d _ v G' H' hR.2 (caller_back E1 hn hR.1 F) (e1.trans F.g0) rv
theorem rs_callOwn {S : DSn} {t : TA} {ua : DCA} {i : Nat} (ha : RCA K t ua) : RS K (tAsg (tCall (spN K S) [] E0 t) (gName i)) (fun E δ => dCallOwn i S ua E.nx δ) := by
  intro c σ G H δ D E EV h k
  refine ha c σ G H δ _ _ EV h fun cs δ1 vs G1 H1 h1 E1 e1 r1 => ?_
  obtain ⟨hn, hS⟩ := h1
  show spN K S (vs ++ []) H1 _ E0
  rw [List.append_nil]
  refine ⟨calleeC σ (muts δ1 cs) G1 H1, asOf δ1 cs 0, _, rfl, rfl, callee_env E1 r1 hn, hS, fun ds outs p xs G' H' hR F hp gp hh rr => ?_⟩
  have EB := caller_back E1 hn hR.1 F
  have old : ∀ (j : Nat) (t : Option Nat) (es : List PyData), (setOuts δ1 (muts δ1 cs) outs)[j]? = some (Sl.own t es) → σ[j]? ≠ some (some (V.ref p)) := fun j t es hs z => by
    have so := setOuts_get (M := muts δ1 cs) (δ := δ1) (outs := outs) (k := j) hn hR.1 fun i hi => muts_own hi
    have hd : ∃ t' ds', δ1[j]? = some (Sl.own t' ds') := by
      by_cases hj : j ∈ muts δ1 cs
      · exact muts_own hj
      · rw [so.2.1 hj] at hs
        exact ⟨_, _, hs⟩
    obtain ⟨t', ds', hd⟩ := hd
    obtain ⟨q, ys, e, _, q1, _⟩ := E1.sl j _ hd
    rw [z] at e
    rw [← V.ref.inj (Option.some.inj (Option.some.inj e)), hp] at q1
    cases q1
  have n0 : ∀ zs, (p, zs) ∉ c.hid := fun zs z => by
    have q := (E1.hd p zs z).1
    rw [hp] at q
    cases q
  have EH : EnvOk K { c with hid := (p, .lst xs) :: c.hid } G' H' σ (setOuts δ1 (muts δ1 cs) outs) := {
    xw := EB.xw, g0 := EB.g0, ex := EB.ex, fr := EB.fr, fs := EB.fs, tg := EB.tg, len := EB.len
    sl := fun i s h => by
      have z := EB.sl i s h
      cases s with
      | no => trivial
      | dat d => exact z
      | scr d => exact z
      | own t d => exact z
    ap := EB.ap
    hd := fun q ys hm => by
      rcases List.mem_cons.mp hm with e | hm
      · cases e
        exact ⟨hh, gp, E1.new0 hp, fun j hj z => (E1.tg j hj).1 (by rw [← z]; exact hp), old⟩
      · exact EB.hd q ys hm }
  exact k.nx _ G' H' _ hR.2 (EH.give n0 rr i) (e1.trans F.g0)
end

/-! ### a def -/
def OutsIn (δ : List Sl) (outs : List (List PyData)) : Prop := ∀ (j : Nat) (cs : List PyData), outs[j]? = some cs → ∃ i : Nat, δ[i]? = some (Sl.own (some j) cs)
theorem outs0 {δ : List Sl} : OutsIn δ [] := fun j cs h => by simp at h
def endsOf (R : PyData → List (List PyData) → Prop) : DEnds where
  nx := fun δ => ∃ outs, R .none outs ∧ OutsIn δ outs
  rt := fun d δ => ∃ outs, R d outs ∧ OutsIn δ outs
section
variable {P : Program} {w : World} {K : PySem.W.Frag} {mg : Str → Option Value} {base : Heap}
theorem EnvC.more {c : Cf} {G H : Hp} {σ : L2.St} {δ : List Sl} (E : EnvC K c G H σ δ) (n : Nat) : EnvC K c G H (σ ++ List.replicate n none) (δ ++ List.replicate n .no) := by
  have g1 : ∀ (i : Nat) (s : Sl), (δ ++ List.replicate n Sl.no)[i]? = some s → s ≠ Sl.no → δ[i]? = some s ∧ (σ ++ List.replicate n none)[i]? = σ[i]? := fun i s h hs => by
    by_cases hi : i < δ.length
    · rw [List.getElem?_append_left hi] at h
      exact ⟨h, List.getElem?_append_left (by rw [E.len]; exact hi)⟩
    · rw [List.getElem?_append_right (by omega), List.getElem?_replicate] at h
      split at h
      · exact absurd (Option.some.inj h).symm hs
      · cases h
  exact {
    g0 := E.g0, ex := E.ex, fr := E.fr, fs := E.fs, tg := E.tg
    len := by rw [List.length_append, List.length_append, List.length_replicate, List.length_replicate, E.len]
    sl := fun i s h => by
      cases s with
      | no => trivial
      | dat d =>
        obtain ⟨a, b⟩ := g1 i _ h (by intro z; cases z)
        rw [b]
        exact E.sl i _ a
      | scr d =>
        obtain ⟨a, b⟩ := g1 i _ h (by intro z; cases z)
        rw [b]
        exact E.sl i _ a
      | own t d =>
        obtain ⟨a, b⟩ := g1 i _ h (by intro z; cases z)
        rw [b]
        exact E.sl i _ a
    ap := fun i j t1 d1 t2 d2 hij h1 h2 => by
      obtain ⟨a, b⟩ := g1 i _ h1 (by intro z; cases z)
      obtain ⟨a', b'⟩ := g1 j _ h2 (by intro z; cases z)
      rw [b, b']
      exact E.ap i j _ _ _ _ hij a a'
    hd := fun p xs h => by
      obtain ⟨a1, a2, a3, a4, a5⟩ := E.hd p xs h
      refine ⟨a1, a2, a3, a4, fun i t ds hs => ?_⟩
      obtain ⟨a, b⟩ := g1 i _ hs (by intro z; cases z)
      rw [b]
      exact a5 i t ds a }
theorem fnD {x qual : Str} {st : Stmt} {f : Addr} {fd : FuncData} {N ps : List Str} {k : Nat} {S : DSp} (F : Fun K x qual st f fd) (sc : FnScope N ps (defScope st)) (len : ∀ as R, S as R → as.length = ps.length)
    (hbody : ∀ (cdv : Value) (A : Around) (outer : List Env) (s : Shared) (H : Hp) (E : XK), RoomG k (A.deeper (PyProof.Rows.envOfC qual (defScope st) s.heap.objs.size f cdv)) →
      ∃ t u, DSs (cxOf CX0 P w K mg base N qual (defScope st) f cdv A outer s H E).nox (defBody st) t u ∧ ∀ as R, S as R → u (endsOf R) (as ++ List.replicate (N.length - ps.length) .no)) : FnOkG P w K mg base CX0 (k + 1) f fd ps (spD K S) := by
  refine fun_okG F sc (fun vs H Q E h => ?_) (fun cdv A outer s H vs Q E hr h => ?_)
  · obtain ⟨c, as, R, _, _, EV, hS, _⟩ := h
    have := EV.len
    rw [List.length_map] at this
    rw [this]
    exact len as R hS
  · obtain ⟨c, as, R, hh, h0, EV, hS, k⟩ := h
    obtain ⟨t, u, D, red⟩ := hbody cdv A outer s H E hr
    refine ⟨t, D.ps.nox, ?_⟩
    have l1 : vs.length = ps.length := by
      have := EV.len
      rw [List.length_map] at this
      rw [this]
      exact len as R hS
    have EV' : EnvOk K c c.G0 H (L2.start N vs) (as ++ List.replicate (N.length - ps.length) .no) := by
      have z := (EV.more (N.length - ps.length)).ok
      unfold L2.start
      rw [l1]
      exact z
    have fin : ∀ {σ' : L2.St} {G' H' : Hp} {δ' : List Sl} {outs : List (List PyData)}, EnvOk K c G' H' σ' δ' → OutsIn δ' outs → Fin K c G' H' outs := fun {σ' G' H' δ' outs} E ho =>
      ⟨E.g0, E.ex, E.fr, E.fs, E.tg, fun j cs hj => by
        obtain ⟨i, hi⟩ := ho j cs hj
        obtain ⟨p, xs, _, _, hh, r, q⟩ := E.sl i _ hi
        exact ⟨xs, by rw [← q.2]; exact hh, r⟩⟩
    refine D.rs c (L2.start N vs) c.G0 H _ _ (endsOf R) EV' (red as R hS) ⟨?_, ?_, ?_, ?_, ?_, hh⟩
    · rintro σ' G' H' δ' ⟨outs, hR, ho⟩ E' e
      exact k .none outs .non G' H' hR (fin E' ho) .non
    · rintro d δ' v σ' G' H' ⟨outs, hR, ho⟩ E' e r
      exact k d outs v G' H' hR (fin E' ho) r
    · exact fun σ' G' H' δ' a _ _ => False.elim a
    · exact fun σ' G' H' δ' a _ _ => False.elim a
    · exact fun ds δ' p xs σ' G' H' a _ _ _ _ => False.elim a
def endsNew (R : List PyData → List (List PyData) → Prop) : DEnds where
  nx := fun _ => False
  rt := fun _ _ => False
  rn := fun ds δ => ∃ outs, R ds outs ∧ OutsIn δ outs
/-- a def that hands back a new list -/
theorem fnN {x qual : Str} {st : Stmt} {f : Addr} {fd : FuncData} {N ps : List Str} {k : Nat} {S : DSn} (F : Fun K x qual st f fd) (sc : FnScope N ps (defScope st)) (len : ∀ as R, S as R → as.length = ps.length)
    (hbody : ∀ (cdv : Value) (A : Around) (outer : List Env) (s : Shared) (H : Hp) (E : XK), RoomG k (A.deeper (PyProof.Rows.envOfC qual (defScope st) s.heap.objs.size f cdv)) →
      ∃ t u, DSs (cxOf CX0 P w K mg base N qual (defScope st) f cdv A outer s H E).nox (defBody st) t u ∧ ∀ as R, S as R → u (endsNew R) (as ++ List.replicate (N.length - ps.length) .no)) : FnOkG P w K mg base CX0 (k + 1) f fd ps (spN K S) := by
  refine fun_okG F sc (fun vs H Q E h => ?_) (fun cdv A outer s H vs Q E hr h => ?_)
  · obtain ⟨c, as, R, _, _, EV, hS, _⟩ := h
    have := EV.len
    rw [List.length_map] at this
    rw [this]
    exact len as R hS
  · obtain ⟨c, as, R, hh, h0, EV, hS, k⟩ := h
    obtain ⟨t, u, D, red⟩ := hbody cdv A outer s H E hr
    refine ⟨t, D.ps.nox, ?_⟩
    have l1 : vs.length = ps.length := by
      have := EV.len
      rw [List.length_map] at this
      rw [this]
      exact len as R hS
    have EV' : EnvOk K c c.G0 H (L2.start N vs) (as ++ List.replicate (N.length - ps.length) .no) := by
      have z := (EV.more (N.length - ps.length)).ok
      unfold L2.start
      rw [l1]
      exact z
    refine D.rs c (L2.start N vs) c.G0 H _ _ (endsNew R) EV' (red as R hS) ⟨fun σ' G' H' δ' a _ _ => False.elim a, fun d δ' v σ' G' H' a _ _ _ => False.elim a, fun σ' G' H' δ' a _ _ => False.elim a, fun σ' G' H' δ' a _ _ => False.elim a, ?_, hh⟩
    rintro ds δ' p xs σ' G' H' ⟨outs, hR, ho⟩ E' hn e r
    obtain ⟨q1, q2, q3, q4, q5⟩ := E'.hd p _ List.mem_cons_self
    refine k ds outs p xs G' H' hR ⟨E'.g0, E'.ex, E'.fr, E'.fs, E'.tg, fun j cs hj => ?_⟩ (by rw [← h0]; exact q3) q2 q1 r
    obtain ⟨i, hi⟩ := ho j cs hj
    obtain ⟨p', ys, _, _, hh', r', q⟩ := E'.sl i _ hi
    exact ⟨ys, by rw [← q.2]; exact hh', r'⟩
end
end TL

set_option Elab.async false
set_option linter.all false
set_option maxRecDepth 100000
set_option maxHeartbeats 2000000
/-! TL8: the rules by syntax. -/
namespace TL
open PySem PySem.Spec L2
variable [XW]

/-- a def that may be called by its name -/
structure Kn (P : Program) (w : World) (K : PySem.W.Frag) (mg : Str → Option Value) (base : Heap) (k : Nat) (x : Str) (S : DSp) : Prop where
  ex : ∃ (f : Addr) (fd : FuncData) (ps : List Str), FnOkG P w K mg base CX0 k f fd ps (spD K S) ∧ mg x = some (.ref f) ∧ PySem.W.keepIn K (.ref f) = true ∧ Binds K fd ps []
section
variable {X : Cx} {a b c e : Expr} {es : List Expr} {ta tb tc te : TE} {ua ub uc ue : DTE} {pos p p2 : Pos} {t t' : TS} {u u' : DTS} {tt : TT} {ut : DTT} {tr : TA} {ur : DTA} {tca : TA} {uca : DCA}
theorem de_chain {op op' : CmpOp} {r r' : R2} {rd rd' : R2D} (ho : OpR X (compareOp op) r) (hr : RO X.K r rd) (ho' : OpR X (compareOp op') r') (hr' : RO X.K r' rd') (ha : DE X a ta ua) (hb : DE X b tb ub) (hc : DE X c tc uc)
    (hm : lastMarks [op, op'] [b, c] = false := by with_unfolding_all rfl) : DE X (.Compare a [op, op'] [b, c] pos) (tChain r r' ta tb tc) (dChain rd rd' ua ub uc) := ⟨pe_chain ho ho' ha.pe hb.pe hc.pe hm, re_chain ha.re hb.re hc.re hr hr'⟩
theorem dt_chain {op op' : CmpOp} {r r' : R2} {rd rd' : R2D} (ho : OpR X (compareOp op) r) (hr : RO X.K r rd) (ho' : OpR X (compareOp op') r') (hr' : RO X.K r' rd') (ha : DE X a ta ua) (hb : DE X b tb ub) (hc : DE X c tc uc)
    (hm : lastMarks [op, op'] [b, c] = false := by with_unfolding_all rfl) : DT X (.Compare a [op, op'] [b, c] pos) (tTest (tChain r r' ta tb tc)) (dTest (dChain rd rd' ua ub uc)) := ⟨pt_chain ho ho' ha.pe hb.pe hc.pe hm, rt_test (re_chain ha.re hb.re hc.re hr hr')⟩
theorem de_ixV (i : Nat) {x : Str} (hb : DE X b tb ub) (hN : X.N[i]? = some x := by rfl) (hv : Vis X.env.scope x := by first | exact Or.inl rfl | exact Or.inr (Or.inl rfl) | exact Or.inr (Or.inr rfl)) (hd : (x == ("__debug__" : Str)) = false := by decide)
    (hcd : (x == ("__classdict__" : Str)) = false := by decide) (hs : PlainIx b := by exact fun _ _ => rfl) : DE X (.Subscript (.Name x p) b pos) (tOp (rIxL X.K) (tVar i) tb) (dIxV i ub) := ⟨pe_ix ix_list (pe_var hN hv hd hcd) hb.pe hs, re_ixV hb.re⟩
theorem de_len {ps : Pos} (hm : X.mg "len" = none) (ha : DE X e te ue) (hg : Gl X "len" := by rfl) (hs : starEach [e] X.env = (false, eval e X.env) :: starEach [] X.env := by rfl) (hpl : (backTo pos (starEach [] X.env)).any (·.1) = false := by rfl) :
    DE X (.Call (.Name "len" p) [e] [] pos) (tCB (rLen X.K) (tCons te tNil)) (dLen ue) := ⟨pe_callB call_len hg hm PySem.boot_len (pa_cons ha.pe pa_nil hs) (by decide) (by decide) hs hpl, re_len ha.re⟩
theorem de_lenV (i : Nat) {x : Str} (hm : X.mg "len" = none) (hN : X.N[i]? = some x := by rfl) (hv : Vis X.env.scope x := by first | exact Or.inl rfl | exact Or.inr (Or.inl rfl) | exact Or.inr (Or.inr rfl)) (hd : (x == ("__debug__" : Str)) = false := by decide)
    (hcd : (x == ("__classdict__" : Str)) = false := by decide) (hg : Gl X "len" := by rfl) (hs : starEach [.Name x p2] X.env = (false, eval (.Name x p2) X.env) :: starEach [] X.env := by rfl) (hpl : (backTo pos (starEach [] X.env)).any (·.1) = false := by rfl) :
    DE X (.Call (.Name "len" p) [.Name x p2] [] pos) (tCB (rLen X.K) (tCons (tVar i) tNil)) (dLenV i) := ⟨pe_callB call_len hg hm PySem.boot_len (pa_cons (pe_var hN hv hd hcd) pa_nil hs) (by decide) (by decide) hs hpl, re_lenV⟩
theorem de_isi {T : String} {Tn : Str} (hm : X.mg "isinstance" = none) (hT : X.mg Tn = none) (hv : bootBuiltins Tn = some (.type T)) (ha : DE X e te ue) (hg : Gl X "isinstance" := by rfl) (hgT : Gl X Tn := by rfl) (hb : bootBuiltins "isinstance" = some (.builtin "isinstance") := by decide +kernel)
    (hn : Tn ≠ "__name__" := by decide) (hd : (Tn == ("__debug__" : Str)) = false := by decide)
    (hs : starEach [e, .Name Tn p2] X.env = (false, eval e X.env) :: starEach [.Name Tn p2] X.env := by rfl) (hs2 : starEach [.Name Tn p2] X.env = (false, eval (.Name Tn p2) X.env) :: starEach [] X.env := by rfl) (hpl : (backTo pos (starEach [.Name Tn p2] X.env)).any (·.1) = false := by rfl) (hTe : kitB "" T = none := by decide +kernel) :
    DE X (.Call (.Name "isinstance" p) [e, .Name Tn p2] [] pos) (tCB (rIsi X.K) (tCons te (tCons (tC (.ty T)) tNil))) (dIsi T ue) :=
  ⟨pe_callB call_isi hg hm hb (pa_cons ha.pe (pa_cons (pe_bltn (v := .ty T) hgT hT hv rfl hn hd) pa_nil hs2) hs) (by decide) (by decide) hs hpl, re_isi ha.re hTe⟩
theorem de_int1 (hm : X.mg "int" = none) (ha : DE X e te ue) (hg : Gl X "int" := by rfl) (hb : bootBuiltins "int" = some (.type "int") := by decide +kernel) (hs : starEach [e] X.env = (false, eval e X.env) :: starEach [] X.env := by rfl) (hpl : (backTo pos (starEach [] X.env)).any (·.1) = false := by rfl) :
    DE X (.Call (.Name "int" p) [e] [] pos) (tCB rInt1 (tCons te tNil)) (dInt1 ue) := ⟨pe_callTy call_int1 hg hm hb (pa_cons ha.pe pa_nil hs) (by decide) (by decide) hs hpl, re_int1 ha.re⟩
theorem de_join {apos : Pos} (ha : DE X a ta ua) (hb : DE X b tb ub) (hs : starEach [b] X.env = [(false, eval b X.env)] := by rfl) (hbase : attributeBase a "join" X.env (eval a X.env) = eval a X.env := by rfl) (hline : (apos.endLine == pos.line) = true := by rfl) :
    DE X (.Call (.Attribute a "join" apos) [b] [] pos) (tM1 (rJoin X.K) ta tb) (dJoin ua ub) := ⟨pe_join ha.pe hb.pe hs hbase hline, re_join ha.re hb.re⟩
theorem dca_nil : DCa X [] tNil cNil := ⟨pa_nil, rca_nil⟩
theorem dca_d (ha : DE X e te ue) (hr : DCa X es tca uca) (hs : starEach (e :: es) X.env = (false, eval e X.env) :: starEach es X.env := by rfl) : DCa X (e :: es) (tCons te tca) (cD ue uca) := ⟨pa_cons ha.pe hr.pa hs, rca_d ha.re hr.ra⟩
theorem dca_s (i : Nat) {x : Str} (hr : DCa X es tca uca) (hN : X.N[i]? = some x := by rfl) (hv : Vis X.env.scope x := by first | exact Or.inl rfl | exact Or.inr (Or.inl rfl) | exact Or.inr (Or.inr rfl)) (hd : (x == ("__debug__" : Str)) = false := by decide)
    (hcd : (x == ("__classdict__" : Str)) = false := by decide) (hs : starEach (.Name x p :: es) X.env = (false, eval (.Name x p) X.env) :: starEach es X.env := by rfl) : DCa X (.Name x p :: es) (tCons (tVar i) tca) (cS i uca) := ⟨pa_cons (pe_var hN hv hd hcd) hr.pa hs, rca_s hr.ra⟩
theorem de_call {x : Str} {S : DSp} {k j : Nat} (kn : Kn X.prog X.w X.K X.mg X.base k x S) (hr : RoomG j X.A) (hk : k ≤ j) (ha : DCa X (e :: es) tca uca) (hg : Gl X x := by rfl) (hdb : (x == ("__debug__" : Str)) = false := by decide)
    (he : starEach (e :: es) X.env = (false, eval e X.env) :: starEach es X.env := by rfl) (hpl : (backTo pos (starEach es X.env)).any (·.1) = false := by rfl) : DE X (.Call (.Name x p) (e :: es) [] pos) (tCall (spD X.K S) [] E0 tca) (dCall S uca) := by
  obtain ⟨f, fd, ps, F, hm, kp, b⟩ := kn.ex
  exact ⟨pe_callG F (hr.mono hk) hg hm kp b .nil pass0 ha.pa hdb he hpl, re_call ha.ra⟩
theorem de_call0 {x : Str} {S : DSp} {k j : Nat} (kn : Kn X.prog X.w X.K X.mg X.base k x S) (hr : RoomG j X.A) (hk : k ≤ j) (hg : Gl X x := by rfl) (hdb : (x == ("__debug__" : Str)) = false := by decide) :
    DE X (.Call (.Name x p) [] [] pos) (tCall (spD X.K S) [] E0 tNil) (dCall S cNil) := by
  obtain ⟨f, fd, ps, F, hm, kp, b⟩ := kn.ex
  exact ⟨pe_callG0 F (hr.mono hk) hg hm kp b .nil pass0 hdb, re_call rca_nil⟩

/-- a def that hands back a new list -/
structure KnN (P : Program) (w : World) (K : PySem.W.Frag) (mg : Str → Option Value) (base : Heap) (k : Nat) (x : Str) (S : DSn) : Prop where
  ex : ∃ (f : Addr) (fd : FuncData) (ps : List Str), FnOkG P w K mg base CX0 k f fd ps (spN K S) ∧ mg x = some (.ref f) ∧ PySem.W.keepIn K (.ref f) = true ∧ Binds K fd ps []
theorem ds_callOwn (i : Nat) {x y : Str} {cpos : Pos} {S : DSn} {k j : Nat} (hN : X.N.Nodup) (kn : KnN X.prog X.w X.K X.mg X.base k x S) (hr : RoomG j X.A) (hk : k ≤ j) (ha : DCa X (e :: es) tca uca) (hi : X.N[i]? = some y := by rfl) (hx : Loc X.env.scope y := by first | exact Or.inl rfl | exact Or.inr rfl)
    (hs : swapsWith (.Call (.Name x p) (e :: es) [] cpos) (some (.Name y p2)) pos.line X.env = pure false := by rfl) (hf : X.fn y = true ∨ X.env.scope.names.lookup y = some .local := by first | exact .inl rfl | exact .inr rfl | assumption)
    (hg : Gl X x := by rfl) (hdb : (x == ("__debug__" : Str)) = false := by decide)
    (he : starEach (e :: es) X.env = (false, eval e X.env) :: starEach es X.env := by rfl) (hpl : (backTo cpos (starEach es X.env)).any (·.1) = false := by rfl) :
    DS X (.Assign [.Name y p2] (.Call (.Name x p) (e :: es) [] cpos) pos) (tAsg (tCall (spN X.K S) [] E0 tca) (gName i)) (fun E δ => dCallOwn i S uca E.nx δ) := by
  obtain ⟨f, fd, ps, F, hm, kp, b⟩ := kn.ex
  exact ⟨ps_set hN hi hx (pe_callG F (hr.mono hk) hg hm kp b .nil pass0 ha.pa hdb he hpl) hs hf, rs_callOwn ha.ra⟩
theorem ds_retNew (he : DA X es tr ur) : DS X (.Return (some (.List es p)) pos) (tRet (tLst tr)) (dRetNew ur) := ⟨ps_ret (pe_lst he.pa), rs_retNew he.ra⟩
/-! ### statements -/
theorem dss_nil : DSs X [] tNext dNext := ⟨pss_nil, rs_next⟩
theorem dss_cons {st : Stmt} {rest : List Stmt} (h1 : DS X st t u) (h2 : DSs X rest t' u') : DSs X (st :: rest) (tSeq t t') (dSeq u u') := ⟨pss_cons h1.ps h2.ps, rs_seq h1.rs h2.rs⟩
theorem dss_one {st : Stmt} (h1 : DS X st t u) : DSs X [st] t u := ⟨pss_one h1.ps, h1.rs⟩
theorem ds_pass : DS X (.Pass pos) tNext dNext := ⟨ps_pass, rs_next⟩
theorem ds_break : DS X (.Break pos) tBreak dBreak := ⟨ps_break, rs_break⟩
theorem ds_cont : DS X (.Continue pos) tCont dCont := ⟨ps_continue, rs_cont⟩
theorem ds_expr (he : DE X e te ue) (hs : swapsWith e none pos.line X.env = pure false := by rfl) : DS X (.Expr e pos) (tDrop te) (dDrop ue) := ⟨ps_expr he.pe hs, rs_drop he.re⟩
theorem ds_ret (he : DE X e te ue) : DS X (.Return (some e) pos) (tRet te) (dRet ue) := ⟨ps_ret he.pe, rs_ret he.re⟩
theorem ds_retN : DS X (.Return none pos) tRetN dRetN := ⟨ps_retN, rs_retN⟩
theorem ds_if {st st' : List Stmt} (hc : DT X c tt ut) (h1 : DSs X st t u) (h2 : DSs X st' t' u') : DS X (.If c st st' pos) (tIfS tt t t') (dIfS ut u u') := ⟨ps_if hc.pt h1.ps h2.ps, rs_if hc.rt h1.rs h2.rs⟩
theorem dg_name (i : Nat) {x : Str} (hN : X.N.Nodup) (hi : X.N[i]? = some x := by rfl) (hx : Loc X.env.scope x := by first | exact Or.inl rfl | exact Or.inr rfl) (hf : X.fn x = true ∨ X.env.scope.names.lookup x = some .local := by first | exact .inl rfl | exact .inr rfl | assumption) :
    DG X (.Name x pos) (gName i) (dgName i) [i] := ⟨pg_name hN hi hx hf, rg_name⟩
theorem dgs_nil : DGs X [] gNil dgNil [] := ⟨pgs_nil, rgs_nil⟩
theorem dgs_cons {g : TG} {ug : DTG} {gs : TGs} {ugs : DTGs} {js js' : List Nat} (h1 : DG X e g ug js) (h2 : DGs X es gs ugs js') (hs : (assignEach (e :: es) X.env).map (·.2) = assign e X.env :: (assignEach es X.env).map (·.2) := by rfl) :
    DGs X (e :: es) (gCons g gs) (dgCons ug ugs) (js ++ js') := ⟨pgs_cons h1.pg h2.pg hs, rgs_cons h1.rg h2.rg⟩
theorem dg_tup {gs : TGs} {ugs : DTGs} {js : List Nat} {k n : Nat} (hc : X.calm = true) (h : DGs X es gs ugs js) (hn : (assignEach es X.env).length = n := by rfl) (hst : (assignEach es X.env).findIdx? (·.1) = none := by rfl) : DG X (.Tuple es k pos) (gTup X.K n gs) (dgTup n ugs) js :=
  ⟨pg_tup hc h.pg hn hst, rg_tup h.rg⟩
theorem ds_set (i : Nat) {x : Str} (hN : X.N.Nodup) (he : DE X e te ue) (hi : X.N[i]? = some x := by rfl) (hx : Loc X.env.scope x := by first | exact Or.inl rfl | exact Or.inr rfl) (hs : swapsWith e (some (.Name x p)) pos.line X.env = pure false := by rfl)
    (hf : X.fn x = true ∨ X.env.scope.names.lookup x = some .local := by first | exact .inl rfl | exact .inr rfl | assumption) : DS X (.Assign [.Name x p] e pos) (tAsg te (gName i)) (dAsg ue (dgName i)) := ⟨ps_set hN hi hx he.pe hs hf, rs_asg he.re rg_name⟩
theorem ds_setTup {g : TG} {ug : DTG} {js : List Nat} (he : DE X e te ue) (hg : DG X a g ug js) (hs : swapsWithSole [a] e pos.line X.env = pure false := by rfl) (hw : swappedStores [a] e X.env = pure none := by rfl)
    (h1 : (assignEach [a] X.env).map (·.2) = [assign a X.env] := by rfl) : DS X (.Assign [a] e pos) (tAsg te g) (dAsg ue ug) := ⟨ps_asg he.pe hg.pg hs hw h1, rs_asg he.re hg.rg⟩
/-- xs = [..], to change -/
theorem ds_own (i : Nat) {x : Str} (hN : X.N.Nodup) (he : DA X es tr ur) (hi : X.N[i]? = some x := by rfl) (hx : Loc X.env.scope x := by first | exact Or.inl rfl | exact Or.inr rfl) (hs : swapsWith (.List es p2) (some (.Name x p)) pos.line X.env = pure false := by rfl)
    (hf : X.fn x = true ∨ X.env.scope.names.lookup x = some .local := by first | exact .inl rfl | exact .inr rfl | assumption) : DS X (.Assign [.Name x p] (.List es p2) pos) (tAsg (tLst tr) (gName i)) (dAsgOwn i ur) := ⟨ps_set hN hi hx (pe_lst he.pa) hs hf, rs_asgOwn he.ra⟩
theorem ds_setI (i : Nat) {x : Str} (he : DE X e te ue) (hb : DE X b tb ub) (hN : X.N[i]? = some x := by rfl) (hv : Vis X.env.scope x := by first | exact Or.inl rfl | exact Or.inr (Or.inl rfl) | exact Or.inr (Or.inr rfl)) (hd : (x == ("__debug__" : Str)) = false := by decide)
    (hcd : (x == ("__classdict__" : Str)) = false := by decide)
    (hs : swapsWithSole [.Subscript (.Name x p) b p2] e pos.line X.env = pure false := by rfl) (hw : swappedStores [.Subscript (.Name x p) b p2] e X.env = pure none := by rfl) (h1 : (assignEach [.Subscript (.Name x p) b p2] X.env).map (·.2) = [assign (.Subscript (.Name x p) b p2) X.env] := by rfl)
    (ha : ∀ v, assign (.Subscript (.Name x p) b p2) X.env v = (do
      let ov ← holding [v] (eval (.Name x p) X.env)
      let iv ← holding [v, ov] (eval b X.env)
      standAt p2
      holding [v, ov, iv] (setItem ov iv v)
      release [v, ov, iv] []) := by intro _; rfl) :
    DS X (.Assign [.Subscript (.Name x p) b p2] e pos) (tAsg te (gSub (tVar i) tb rSetL)) (dSetI i ue ub) := ⟨ps_asg he.pe (pg_sub (pe_var hN hv hd hcd) hb.pe set_list ha) hs hw h1, rs_setI he.re hb.re⟩
theorem ds_aug (i : Nat) {x : Str} {op : Operator} {f : Int → Int → Int} (hN : X.N.Nodup) (ho : PIp X op (ipI f)) (he : DE X e te ue) (hi : X.N[i]? = some x := by rfl) (hx : Loc X.env.scope x := by first | exact Or.inl rfl | exact Or.inr rfl)
    (hf : X.fn x = true ∨ X.env.scope.names.lookup x = some .local := by first | exact .inl rfl | exact .inr rfl | assumption) : DS X (.AugAssign (.Name x p) op e pos) (tAug i te (ipI f)) (dAug f i ue) := ⟨ps_aug hN hi hx he.pe ho hf, rs_aug he.re⟩
theorem di_list (h : DE X e te ue) : DI X a e (iList X.K te) (diL ue) := ⟨pi_list h.pe, ri_list h.re⟩
theorem di_tup (h : DE X e te ue) : DI X a e (iTup X.K te) (diT ue) := ⟨pi_tup h.pe, ri_tup h.re⟩
theorem di_str (h : DE X e te ue) : DI X a e (iStr te) (diS ue) := ⟨pi_str h.pe, ri_str h.re⟩
theorem di_r1 (hm : X.mg "range" = none) (h : DE X e te ue) (hg : Gl X "range" := by rfl) (hs : starEach [e] X.env = [(false, eval e X.env)] := by rfl) : DI X a (.Call (.Name "range" p) [e] [] pos) (iRng1 (tCons te tNil)) (diR1 ue) := ⟨pi_range1 hg hm (pa_cons h.pe pa_nil hs) hs, ri_r1 h.re⟩
theorem di_r2 (hm : X.mg "range" = none) (h : DE X e te ue) (h' : DE X b tb ub) (hg : Gl X "range" := by rfl) (hs : starEach [e, b] X.env = [(false, eval e X.env), (false, eval b X.env)] := by rfl) (hs2 : starEach [b] X.env = [(false, eval b X.env)] := by rfl) :
    DI X a (.Call (.Name "range" p) [e, b] [] pos) (iRng2 (tCons te (tCons tb tNil))) (diR2 ue ub) := ⟨pi_range2 hg hm (pa_cons h.pe (pa_cons h'.pe pa_nil hs2) (by rw [hs, hs2])) hs hs2, ri_r2 h.re h'.re⟩
theorem ds_for {g : TG} {ug : DTG} {js : List Nat} {w : TI} {uw : DTI} {body : List Stmt} (hp : PassesOwn (model X.prog X.w) X.A X.env X.xe) (hc : X.calm = true) (hi : DI X a e w uw) (hg : DG X a g ug js) (hb : DSs X body t u) (hs : ∀ x, foldedSetIterable e X.env x = pure x := by intro _; rfl) :
    DS X (.For a e body [] pos) (tFor w g t) (dFor uw ug u) := ⟨ps_for hp hc hi.pi hg.pg hb.ps hs, rs_for hi.ri hg.rg hb.rs⟩
theorem ds_while {body : List Stmt} (hp : PassesOwn (model X.prog X.w) X.A X.env X.xe) (hc : DT X c tt ut) (hb : DSs X body t u) : DS X (.While c body [] pos) (tWhile tt t) (dWhile ut u) := ⟨ps_while hp hc.pt hb.ps, rs_while hc.rt hb.rs⟩
theorem ds_app (i : Nat) {x : Str} {apos cpos : Pos} (he : DE X e te ue) (pb : PE X (.Call (.Attribute (.Name x p) "append" apos) [e] [] cpos) (tBM X.K "list" rAppend (tVar i) (tCons te tNil))) (hs : swapsWith (.Call (.Attribute (.Name x p) "append" apos) [e] [] cpos) none pos.line X.env = pure false := by rfl) :
    DS X (.Expr (.Call (.Attribute (.Name x p) "append" apos) [e] [] cpos) pos) (tDrop (tBM X.K "list" rAppend (tVar i) (tCons te tNil))) (dApp i ue) := ⟨ps_expr pb hs, rs_app he.re⟩
/-! ### comprehensions -/
structure DTs (X : Cx) (ifs : List Expr) (t : TT) (u : DTT) : Prop where
  pt : PTs X ifs t
  rt : RT X.K t u
theorem dts_nil : DTs X [] tYes dYes := ⟨pts_nil, rt_yes⟩
theorem dts_one (h : DT X c tt ut) : DTs X [c] tt ut := ⟨pts_one h.pt, h.rt⟩
theorem de_lc {elt tg iter : Expr} {ifs : List Expr} {scope : Scope} (own : List (Str × Nat)) {w : TI} {uw : DTI} {g : TG} {ug : DTG} {js : List Nat} (hc : X.calm = true) (hN : X.N.Nodup) (hi : DI X tg iter w uw) (ok : BlkOk X.N X.env.scope scope own)
    (hg : ∀ (s : Shared) (H : Hp) (C : Addr) (cl : List (Str × Addr)) (fp : List Addr), DG (X.blk s H scope (compEnvC scope cl C X.env) fp) tg g ug js) (ht : ∀ (s : Shared) (H : Hp) (C : Addr) (cl : List (Str × Addr)) (fp : List Addr), DTs (X.blk s H scope (compEnvC scope cl C X.env) fp) ifs tt ut)
    (he : ∀ (s : Shared) (H : Hp) (C : Addr) (cl : List (Str × Addr)) (fp : List Addr), DE (X.blk s H scope (compEnvC scope cl C X.env) fp) elt te ue) (hj : ∀ j ∈ js, j ∈ own.map (·.2)) (hs : ∀ x, foldedSetIterable iter X.env x = pure x := by intro _; rfl) :
    DE X (.ListComp elt [⟨tg, iter, ifs, 0⟩] scope pos) (tLc w g tt te (own.map (·.2))) (dLc uw ug ut ue (own.map (·.2))) :=
  ⟨pe_lc hc hN hi.pi ok (fun a b c d e => (hg a b c d e).pg) (fun a b c d e => (ht a b c d e).pt) (fun a b c d e => (he a b c d e).pe) hs,
   re_lc hi.ri (hg X.s_0 X.H_0 0 [] []).rg (ht X.s_0 X.H_0 0 [] []).rt (he X.s_0 X.H_0 0 [] []).re hj⟩
theorem ds_setLc (i : Nat) {y : Str} {py spos : Pos} {elt tg iter : Expr} {ifs : List Expr} {scope : Scope} (own : List (Str × Nat)) {w : TI} {uw : DTI} {g : TG} {ug : DTG} {js : List Nat} (hc : X.calm = true) (hN : X.N.Nodup) (hi : DI X tg iter w uw) (ok : BlkOk X.N X.env.scope scope own)
    (hg : ∀ (s : Shared) (H : Hp) (C : Addr) (cl : List (Str × Addr)) (fp : List Addr), DG (X.blk s H scope (compEnvC scope cl C X.env) fp) tg g ug js) (ht : ∀ (s : Shared) (H : Hp) (C : Addr) (cl : List (Str × Addr)) (fp : List Addr), DTs (X.blk s H scope (compEnvC scope cl C X.env) fp) ifs tt ut)
    (he : ∀ (s : Shared) (H : Hp) (C : Addr) (cl : List (Str × Addr)) (fp : List Addr), DE (X.blk s H scope (compEnvC scope cl C X.env) fp) elt te ue) (hj : ∀ j ∈ js, j ∈ own.map (·.2))
    (hsw : swapsWith (.ListComp elt [⟨tg, iter, ifs, 0⟩] scope pos) (some (.Name y py)) spos.line X.env = pure true) (hy : X.N[i]? = some y := by rfl) (hyl : X.env.scope.names.lookup y = some .local := by rfl) (hs : ∀ x, foldedSetIterable iter X.env x = pure x := by intro _; rfl) :
    DS X (.Assign [.Name y py] (.ListComp elt [⟨tg, iter, ifs, 0⟩] scope pos) spos) (tAsg (tLc w g tt te (own.map (·.2))) (gName i)) (dAsg (dLc uw ug ut ue (own.map (·.2))) (dgName i)) :=
  ⟨ps_setLc hc hN hy hyl hsw hi.pi ok (fun a b c d e => (hg a b c d e).pg) (fun a b c d e => (ht a b c d e).pt) (fun a b c d e => (he a b c d e).pe) hs,
   rs_asg (re_lc hi.ri (hg X.s_0 X.H_0 0 [] []).rg (ht X.s_0 X.H_0 0 [] []).rt (he X.s_0 X.H_0 0 [] []).re hj) rg_name⟩
end
end TL

set_option Elab.async false
set_option linter.all false
set_option maxRecDepth 100000
set_option maxHeartbeats 2000000
/-! TL9: small dicts, min, max; what stands of texts; a look at what is shaped. -/
namespace TL
open PySem PySem.Spec L2
variable [XW]

section
variable {K : PySem.W.Frag} {ta tb : TE} {ua ub : DTE}
theorem re_dict0 : RE K tDNewK (dC (.dict [])) := fun c σ G H δ Q R E h k p hp => by
  have A := Al.new (o := .dK []) E.ex hp
  exact k _ δ _ _ _ h (E.al A) A.g (.dic upd_same rfl rfl)
theorem re_dict1 {x : Str} {v : V} {d : PyData} (hv : ∀ G, Rp K G v d) : RE K (tDisp [(tC (.str x), tC v)]) (dC (.dict [(.str x, d)])) := fun c σ G H δ Q R E h k p hp => by
  refine ⟨upd_same, [(.inr x, v)], rfl, by show 1 ≤ 15; decide, ?_⟩
  have e : upd (upd H p (.dK [])) p (.dK (mergeK [] [(.inr x, v)])) = upd H p (.dK (mergeK [] [(.inr x, v)])) := upd_upd
  rw [e]
  have A := Al.new (o := .dK (mergeK [] [((.inr x : Key), v)])) E.ex hp
  exact k _ δ _ _ _ h (E.al A) A.g (.dic upd_same rfl rfl)
def rMax2 : List V → Hp → VK → Prop := fun xs H Q => ∃ i j, xs = [.int i, .int j] ∧ Q (.int (if j > i then j else i)) H
def rMin2 : List V → Hp → VK → Prop := fun xs H Q => ∃ i j, xs = [.int i, .int j] ∧ Q (.int (if j < i then j else i)) H
def dII (f : Int → Int → Int) (ua ub : DTE) : DTE := fun δ R => ua δ fun d1 δ1 => ub δ1 fun d2 δ2 => match d1, d2 with
  | .int i, .int j => R (.int (f i j)) δ2
  | _, _ => False
theorem re_max2 (ha : RE K ta ua) (hb : RE K tb ub) : RE K (tCB rMax2 (tCons ta (tCons tb tNil))) (dII (fun i j => if j > i then j else i) ua ub) := by
  intro c σ G H δ Q R E h k
  refine ha c σ G H δ _ _ E h fun d1 δ1 v1 G1 H1 h1 E1 e1 r1 => ?_
  refine hb c σ G1 H1 δ1 _ _ E1 h1 fun d2 δ2 v2 G2 H2 h2 E2 e2 r2 => ?_
  cases d1 <;> cases d2 <;> first
    | exact False.elim h2
    | exact ⟨_, _, by rw [r1.int_of, r2.int_of], k _ δ2 _ G2 H2 h2 E2 (e1.trans e2) (.int _)⟩
theorem re_min2 (ha : RE K ta ua) (hb : RE K tb ub) : RE K (tCB rMin2 (tCons ta (tCons tb tNil))) (dII (fun i j => if j < i then j else i) ua ub) := by
  intro c σ G H δ Q R E h k
  refine ha c σ G H δ _ _ E h fun d1 δ1 v1 G1 H1 h1 E1 e1 r1 => ?_
  refine hb c σ G1 H1 δ1 _ _ E1 h1 fun d2 δ2 v2 G2 H2 h2 E2 e2 r2 => ?_
  cases d1 <;> cases d2 <;> first
    | exact False.elim h2
    | exact ⟨_, _, by rw [r1.int_of, r2.int_of], k _ δ2 _ G2 H2 h2 E2 (e1.trans e2) (.int _)⟩
theorem r1_neg : R1 K (rU fun i => .int (-i)) (fun d R => match d with
  | .int i => R (.int (-i))
  | _ => False) := by
  intro G H x d Q R e r h k
  cases d <;> first
    | exact False.elim h
    | exact ⟨_, r.int_of, k _ _ G H h (Al.refl e) (.int _)⟩
end
section
variable {X : Cx} {a b e v : Expr} {ta tb te tv : TE} {ua ub ue uv : DTE} {pos p : Pos}
theorem de_dict0 : DE X (.Dict [] [] pos) tDNewK (dC (.dict [])) := ⟨pe_dnewK, re_dict0⟩
theorem de_dict1 {x : Str} {j : Nat} {q : Pos} {y : V} {d : PyData} (hv : PE X v (tC y)) (hr : ∀ G, Rp X.K G y d) : DE X (.Dict [some (.Constant (.str x) j q)] [v] pos) (tDisp [(tC (.str x), tC y)]) (dC (.dict [(.str x, d)])) :=
  ⟨pe_disp (pps_cons pe_str hv pps_nil) rfl rfl (by simp) (by show 1 ≤ 15; decide), re_dict1 hr⟩
theorem de_un {op : UnaryOp} {r : V → Hp → VK → Prop} {rd : R1D} (ho : UnR X (unaryOp op) r) (hr : R1 X.K r rd) (ha : DE X a ta ua) : DE X (.UnaryOp op a pos) (tUn r ta) (dUn rd ua) := ⟨pe_un ho ha.pe, re_un ha.re hr⟩
theorem de_max2 (hm : X.mg "max" = none) (ha : DE X a ta ua) (hb : DE X b tb ub) (hc : X.calm = true := by rfl) (hg : Gl X "max" := by rfl) (hs : starEach [a, b] X.env = (false, eval a X.env) :: starEach [b] X.env := by rfl) (hs2 : starEach [b] X.env = (false, eval b X.env) :: starEach [] X.env := by rfl) (hpl : (backTo pos (starEach [b] X.env)).any (·.1) = false := by rfl) :
    DE X (.Call (.Name "max" p) [a, b] [] pos) (tCB rMax2 (tCons ta (tCons tb tNil))) (dII (fun i j => if j > i then j else i) ua ub) := ⟨pe_callB (call_max2 hc) hg hm PyProof.Rows.boot_max (pa_cons ha.pe (pa_cons hb.pe pa_nil hs2) hs) (by decide) (by decide) hs hpl, re_max2 ha.re hb.re⟩
theorem de_min2 (hm : X.mg "min" = none) (ha : DE X a ta ua) (hb : DE X b tb ub) (hc : X.calm = true := by rfl) (hg : Gl X "min" := by rfl) (hs : starEach [a, b] X.env = (false, eval a X.env) :: starEach [b] X.env := by rfl) (hs2 : starEach [b] X.env = (false, eval b X.env) :: starEach [] X.env := by rfl) (hpl : (backTo pos (starEach [b] X.env)).any (·.1) = false := by rfl) :
    DE X (.Call (.Name "min" p) [a, b] [] pos) (tCB rMin2 (tCons ta (tCons tb tNil))) (dII (fun i j => if j < i then j else i) ua ub) := ⟨pe_callB (call_min2 hc) hg hm PyProof.Rows.boot_min (pa_cons ha.pe (pa_cons hb.pe pa_nil hs2) hs) (by decide) (by decide) hs hpl, re_min2 ha.re hb.re⟩
end

/-! ### the law's own run -/
def spLaw (K : PySem.W.Frag) : Sp := fun vs H Q _ => ∃ (a : Addr) (ns : List Int), vs = [.ref a] ∧ SqL K H a (ns.map V.int) ∧ ns.length ≤ 63 ∧ ∀ H', Q (.bl true) H'
/-- by data: handed in are at most 63 ints, True comes out -/
def S_law : DSp := fun as R => ∃ ns : List Int, ns.length ≤ 63 ∧ as = [.scr (ns.map PyData.int)] ∧ R (.bool true) []
theorem ints_rp {K : PySem.W.Frag} {G : Hp} : ∀ ns : List Int, RpAll K G (ns.map V.int) (ns.map PyData.int)
  | [] => .nil
  | n :: r => .cons (.int n) (ints_rp r)
theorem law_by {P : Program} {w : World} {K : PySem.W.Frag} {mg : Str → Option Value} {base : Heap} {k : Nat} {f : Addr} {fd : FuncData} {ps : List Str} (F : FnOkG P w K mg base CX0 k f fd ps (spD K S_law)) : FnOkG P w K mg base CX0 k f fd ps (spLaw K) :=
  F.imp fun vs H Q E h => by
    obtain ⟨a, ns, rfl, hS, hl, q⟩ := h
    refine ⟨⟨fun _ => 0, 0, H, H, []⟩, [.scr (ns.map PyData.int)], fun d outs => d = .bool true, rfl, rfl, ?_, ⟨ns, hl, rfl, rfl⟩, fun d outs v G' H' hd _ r => ?_⟩
    · exact {
        g0 := Ex.refl _, ex := Ex.refl _, fr := fun a o h _ => h, fs := fun a h _ => h
        tg := fun j hj => absurd hj (Nat.not_lt_zero j)
        len := rfl
        sl := fun i s h => by
          cases i with
          | zero =>
            cases (show some (Sl.scr (ns.map PyData.int)) = some s from h)
            exact ⟨a, _, rfl, hS, ints_rp ns⟩
          | succ i => simp at h
        ap := fun i j t1 d1 t2 d2 hij h1 h2 => by
          cases i with
          | zero => cases (show some (Sl.scr (ns.map PyData.int)) = some (.own t1 d1) from h1)
          | succ i => simp at h1
        hd := fun p xs h => nomatch h }
    · subst hd
      rw [r.bl_of]
      exact q H'
end TL

set_option Elab.async false
set_option linter.all false
set_option maxRecDepth 100000
set_option maxHeartbeats 4000000
/-! TLs: what the readings are reckoned with. -/
namespace TL
open PySem PySem.Spec L2
variable [XW]
theorem kb_ss : kitB "str" "str" = some true := by decide +kernel
theorem kb_ns : kitB "NoneType" "str" = some false := by decide +kernel
theorem kb_bs : kitB "bool" "str" = some false := by decide +kernel
theorem kb_is : kitB "int" "str" = some false := by decide +kernel
theorem kb_ls : kitB "list" "str" = some false := by decide +kernel
theorem kb_ts : kitB "tuple" "str" = some false := by decide +kernel
theorem kb_ds : kitB "dict" "str" = some false := by decide +kernel
theorem kb_bb : kitB "bool" "bool" = some true := by decide +kernel
theorem sh_int (i : Int) : SeqAt.shaped (.int i) = true := rfl
theorem sh_bool (b : Bool) : SeqAt.shaped (.bool b) = true := rfl
theorem sh_none : SeqAt.shaped .none = true := rfl
theorem sh_str {x : Str} (h : PyData.strOk x = true) : SeqAt.shaped (.str x) = true := by
  unfold SeqAt.shaped
  rw [Bool.and_eq_true]
  exact ⟨by simpa [PyData.canLay0] using h, rfl⟩
theorem ev_ii (i j : Int) : PyData.eqv (.int i) (.int j) = (i == j) := by simp [PyData.eqv]
theorem ev_bb (i j : Bool) : PyData.eqv (.bool i) (.bool j) = (i == j) := by simp [PyData.eqv]
theorem ev_ss (i j : Str) : PyData.eqv (.str i) (.str j) = (i == j) := by simp [PyData.eqv]
/-- codes that a text may have -/
def okC (z : Str) : Prop := ∀ c ∈ z.cps.toList, c < 1114112
theorem strOk_of {z : Str} (h : okC z) : PyData.strOk z = true := by
  unfold PyData.strOk
  rw [← Array.all_toList, List.all_eq_true]
  intro c hc
  exact decide_eq_true (h c hc)
/-- one sign below another -/
theorem lt_one {a b : Nat} : decide (([a] : List Nat) < [b]) = decide (a < b) := by
  apply decide_eq_decide.mpr
  constructor
  · intro h
    cases h with
    | rel h => exact h
    | cons h => cases h
  · intro h
    exact List.Lex.rel h
theorem lt_one' {a b : Nat} : ([a] : List Nat) < [b] ↔ a < b := by
  have := lt_one (a := a) (b := b)
  simpa using this
theorem le_one' {a b : Nat} : ([a] : List Nat) ≤ [b] ↔ a ≤ b := by
  show ¬ (([b] : List Nat) < [a]) ↔ _
  rw [lt_one']
  omega
theorem cps_a : (Str.ofString "a").cps.toList = [97] := by decide +kernel
theorem cps_z : (Str.ofString "z").cps.toList = [122] := by decide +kernel
theorem cps_one (c : Nat) : (Str.mk #[c]).cps.toList = [c] := rfl
theorem len_one (c : Nat) : (Str.mk #[c]).length = 1 := rfl

end TL

set_option Elab.async false
set_option linter.all false
set_option maxRecDepth 100000
set_option maxHeartbeats 4000000
/-! TLd: the drawing hand; comprehensions by filter and map. -/
namespace TL
open PySem PySem.Spec L2
def S_hand : DSn := fun as R => ∃ (ns : List Int) (k : Int), as = [.scr (ns.map PyData.int), .dat (.int k)] ∧ ns.length ≤ 63 ∧ (0 ≤ k ∧ k ≤ 63) ∧ ∀ x y : Int, 0 ≤ x → 0 ≤ y → y < 2147483648 → R [.int x, .int y] []
/-- a hand -/
def okH (x y : Int) : Prop := 0 ≤ x ∧ 0 ≤ y ∧ y < 2147483648
def S_draw : DSp := fun as R => ∃ x y n : Int, as = [.own (some 0) [.int x, .int y], .dat (.int n)] ∧ okH x y ∧ (0 < n ∧ n < 1073741824) ∧
  ∀ r x' y' : Int, (0 ≤ r ∧ r < n) → okH x' y' → R (.int r) [[.int x', .int y']]
theorem call_draw {i : Nat} {u : DTE} {δ : List Sl} {R : DQ} {t : Option Nat} {x y n : Int} (hs : δ[i]? = some (.own t [.int x, .int y])) (hv : okH x y) (hn : 0 < n ∧ n < 1073741824) (hu : ∀ Q : DQ, Q (.int n) δ → u δ Q)
    (k : ∀ r x' y' : Int, (0 ≤ r ∧ r < n) → okH x' y' → R (.int r) (δ.set i (.own t [.int x', .int y']))) : dCall S_draw (cS i (cD u cNil)) δ R := by
  refine ⟨by rw [hs]; rfl, hu _ ?_⟩
  have hm : muts δ [.s i, .d (.int n)] = [i] := by
    show (match δ[i]? with
      | some (.own _ _) => i :: muts δ [.d (.int n)]
      | _ => muts δ [.d (.int n)]) = [i]
    rw [hs]
    rfl
  have ha : asOf δ [.s i, .d (.int n)] 0 = [.own (some 0) [.int x, .int y], .dat (.int n)] := by
    show (match δ[i]? with
      | some (.own _ ds) => Sl.own (some 0) ds :: asOf δ [.d (.int n)] 1
      | some (.scr ds) => .scr ds :: asOf δ [.d (.int n)] 0
      | _ => .no :: asOf δ [.d (.int n)] 0) = _
    rw [hs]
    rfl
  show (muts δ [.s i, .d (.int n)]).Nodup ∧ S_draw (asOf δ [.s i, .d (.int n)] 0) fun d outs => outs.length = (muts δ [.s i, .d (.int n)]).length ∧ R d (setOuts δ (muts δ [.s i, .d (.int n)]) outs)
  rw [hm, ha]
  refine ⟨by simp, x, y, n, rfl, hv, hn, fun r x' y' hr hv' => ⟨rfl, ?_⟩⟩
  have e : setOuts δ [i] [[.int x', .int y']] = δ.set i (.own t [.int x', .int y']) := by
    show setOut δ i [.int x', .int y'] = _
    unfold setOut
    rw [hs]
  rw [e]
  exact k r x' y' hr hv'
theorem outs1 {δ : List Sl} {cs : List PyData} (i : Nat) (h : δ[i]? = some (.own (some 0) cs)) : OutsIn δ [cs] := fun j ds hj => by
  cases j with
  | zero =>
    have e : cs = ds := by simpa using hj
    exact ⟨i, by rw [← e]; exact h⟩
  | succ j => simp at hj
/-- a comprehension that changes nothing -/
theorem lc_fm {vs : List Nat} {g : DTG} {t : DTT} {u : DTE} {R : List PyData → List Sl → Prop} (p : PyData → Bool) (f : PyData → PyData) {δ0 : List Sl} : ∀ (ds acc : List PyData) (δ : List Sl), wipeS δ vs = δ0 → acc.length + ds.length ≤ 16777216 →
    (∀ d ∈ ds, ∀ (Y : PyData → List Sl → Prop) (N : List Sl → Prop), (p d = true → ∀ δ3, wipeS δ3 vs = δ0 → Y (f d) δ3) → (p d = false → ∀ δ2, wipeS δ2 vs = δ0 → N δ2) → g d δ0 (fun δ1 => t δ1 fun b δ2 => if b = true then u δ2 Y else N δ2)) →
    wipeS δ0 vs = δ0 → (∀ δ', wipeS δ' vs = δ0 → R (acc ++ (ds.filter p).map f) δ') → lcW vs g t u R ds acc δ
  | [], acc, δ, h0, hl, hs, h00, k => by
    have z := k δ h0
    simp at z
    exact z
  | d :: r, acc, δ, h0, hl, hs, h00, k => by
    show g d (wipeS δ vs) fun δ1 => t δ1 fun b δ2 => if b = true then u δ2 fun y δ3 => acc.length < sizeLine ∧ lcW vs g t u R r (acc ++ [y]) (wipeS δ3 vs) else lcW vs g t u R r acc (wipeS δ2 vs)
    rw [h0]
    have hl' : acc.length + r.length + 1 ≤ 16777216 := by
      rw [List.length_cons] at hl
      omega
    refine hs d List.mem_cons_self (fun y δ3 => acc.length < sizeLine ∧ lcW vs g t u R r (acc ++ [y]) (wipeS δ3 vs)) _ (fun hp δ3 h3 => ⟨by rw [sizeLine_eq]; omega, ?_⟩) (fun hp δ2 h2 => ?_)
    · rw [h3]
      refine lc_fm p f r (acc ++ [f d]) δ0 h00 (by rw [List.length_append, List.length_singleton]; omega) (fun d' hd' => hs d' (List.mem_cons_of_mem _ hd')) h00 fun δ' h' => ?_
      have z := k δ' h'
      rw [List.filter_cons, if_pos hp, List.map_cons] at z
      rw [List.append_assoc]
      exact z
    · rw [h2]
      refine lc_fm p f r acc δ0 h00 (by omega) (fun d' hd' => hs d' (List.mem_cons_of_mem _ hd')) h00 fun δ' h' => ?_
      have z := k δ' h'
      rw [List.filter_cons, if_neg (by rw [hp]; decide)] at z
      exact z
theorem at0 {α : Type} (a : α) (l : List α) : atI (a :: l) 0 = some a := by
  unfold atI ixN
  rw [if_pos (by decide), if_pos (by simp only [List.length_cons]; omega)]
  rfl
theorem at1 {α : Type} (a b : α) (l : List α) : atI (a :: b :: l) 1 = some b := by
  unfold atI ixN
  rw [if_pos (by decide), if_pos (by simp only [List.length_cons]; omega)]
  rfl
theorem ix20 : ixN 2 0 = some 0 := rfl
theorem ix21 : ixN 2 1 = some 1 := rfl
theorem cutP_map (ns : List Int) (lo hi : Option Int) : ∃ ms : List Int, cutP (ns.map PyData.int) lo hi = ms.map PyData.int ∧ ms.length ≤ ns.length := by
  refine ⟨(ns.drop (HT.sIx ns.length 0 lo)).take (HT.sIx ns.length ns.length hi - HT.sIx ns.length 0 lo), ?_, ?_⟩
  · unfold cutP
    rw [List.length_map, List.map_take, List.map_drop]
  · rw [List.length_take, List.length_drop]
    omega
theorem cell_at (ns : List Int) (lo hi : Option Int) : ∃ z : Int, atI (cutP (ns.map PyData.int) lo hi ++ [PyData.int 0]) 0 = some (.int z) := by
  obtain ⟨ms, e, _⟩ := cutP_map ns lo hi
  rw [e]
  cases ms with
  | nil => exact ⟨0, rfl⟩
  | cons m r => exact ⟨m, at0 _ _⟩
theorem nat_le_size {n : Nat} (h : n ≤ 16777216) : n ≤ sizeLine := by
  rw [sizeLine_eq]
  exact h
end TL

set_option Elab.async false
set_option linter.all false
set_option maxRecDepth 100000
set_option maxHeartbeats 4000000
/-! TLe: calls by their kinds; loops by an invariant; texts. -/
namespace TL
open PySem PySem.Spec L2
theorem asOf_d (δ : List Sl) : ∀ (ds : List PyData) (j : Nat), asOf δ (ds.map CA.d) j = ds.map Sl.dat
  | [], _ => rfl
  | d :: r, j => by
    show Sl.dat d :: asOf δ (r.map CA.d) j = _
    rw [asOf_d δ r j]
    rfl
theorem muts_d (δ : List Sl) : ∀ ds : List PyData, muts δ (ds.map CA.d) = []
  | [] => rfl
  | d :: r => muts_d δ r
/-- a call by data alone -/
theorem call_pure {S : DSp} {ua : DCA} {δ : List Sl} {R : DQ} (ds : List PyData) (hu : ∀ Q : List CA → List Sl → Prop, Q (ds.map CA.d) δ → ua δ Q) (k : S (ds.map Sl.dat) fun d outs => outs = [] ∧ R d δ) (mono : ∀ R R' : PyData → List (List PyData) → Prop, (∀ d o, R d o → R' d o) → S (ds.map Sl.dat) R → S (ds.map Sl.dat) R') : dCall S ua δ R := by
  refine hu _ ?_
  rw [muts_d, asOf_d]
  refine ⟨List.nodup_nil, mono _ _ (fun d o h => ?_) k⟩
  obtain ⟨rfl, h⟩ := h
  exact ⟨rfl, h⟩
/-- a call that may change the list in slot i, its first argument -/
theorem call_own1 {S : DSp} {ua : DCA} {δ : List Sl} {R : DQ} {i : Nat} {t : Option Nat} {cs : List PyData} (hs : δ[i]? = some (.own t cs)) (ds : List PyData) (hu : ∀ Q : List CA → List Sl → Prop, Q (ds.map CA.d) δ → ua δ Q)
    (k : S (.own (some 0) cs :: ds.map Sl.dat) fun d outs => ∃ o, outs = [o] ∧ R d (δ.set i (.own t o))) (mono : ∀ R R' : PyData → List (List PyData) → Prop, (∀ d o, R d o → R' d o) → S (.own (some 0) cs :: ds.map Sl.dat) R → S (.own (some 0) cs :: ds.map Sl.dat) R') : dCall S (cS i ua) δ R := by
  refine ⟨by rw [hs]; rfl, hu _ ?_⟩
  have hm : muts δ (.s i :: ds.map CA.d) = [i] := by
    show (match δ[i]? with
      | some (.own _ _) => i :: muts δ (ds.map CA.d)
      | _ => muts δ (ds.map CA.d)) = [i]
    rw [hs, muts_d]
  have ha : asOf δ (.s i :: ds.map CA.d) 0 = .own (some 0) cs :: ds.map Sl.dat := by
    show (match δ[i]? with
      | some (.own _ ds') => Sl.own (some 0) ds' :: asOf δ (ds.map CA.d) 1
      | some (.scr ds') => .scr ds' :: asOf δ (ds.map CA.d) 0
      | _ => .no :: asOf δ (ds.map CA.d) 0) = _
    rw [hs, asOf_d]
  show (muts δ (.s i :: ds.map CA.d)).Nodup ∧ S (asOf δ (.s i :: ds.map CA.d) 0) fun d outs => outs.length = (muts δ (.s i :: ds.map CA.d)).length ∧ R d (setOuts δ (muts δ (.s i :: ds.map CA.d)) outs)
  rw [hm, ha]
  refine ⟨by simp, mono _ _ (fun d o h => ?_) k⟩
  obtain ⟨o, rfl, h⟩ := h
  refine ⟨rfl, ?_⟩
  have e : setOuts δ [i] [o] = δ.set i (.own t o) := by
    show setOut δ i o = _
    unfold setOut
    rw [hs]
  rw [e]
  exact h
/-- a new hand -/
theorem call_hand {i j q : Nat} {δ : List Sl} {E : List Sl → Prop} {ns : List Int} {k : Int} (hs : δ[j]? = some (.scr (ns.map PyData.int))) (hk : δ[q]? = some (.dat (.int k))) (hl : ns.length ≤ 63) (hb : 0 ≤ k ∧ k ≤ 63)
    (h : ∀ x y : Int, okH x y → E (δ.set i (.own none [.int x, .int y]))) : dCallOwn i S_hand (cS j (cD (dVar q) cNil)) E δ := by
  refine ⟨by rw [hs]; rfl, ?_⟩
  show dVar q δ _
  unfold dVar
  rw [hk]
  have hm : muts δ [.s j, .d (.int k)] = [] := by
    show (match δ[j]? with
      | some (.own _ _) => j :: muts δ [.d (.int k)]
      | _ => muts δ [.d (.int k)]) = []
    rw [hs]
    rfl
  have ha : asOf δ [.s j, .d (.int k)] 0 = [.scr (ns.map PyData.int), .dat (.int k)] := by
    show (match δ[j]? with
      | some (.own _ ds) => Sl.own (some 0) ds :: asOf δ [.d (.int k)] 1
      | some (.scr ds) => .scr ds :: asOf δ [.d (.int k)] 0
      | _ => .no :: asOf δ [.d (.int k)] 0) = _
    rw [hs]
    rfl
  show (muts δ [.s j, .d (.int k)]).Nodup ∧ S_hand (asOf δ [.s j, .d (.int k)] 0) fun ds outs => outs.length = (muts δ [.s j, .d (.int k)]).length ∧ E ((setOuts δ (muts δ [.s j, .d (.int k)]) outs).set i (.own none ds))
  rw [hm, ha]
  exact ⟨List.nodup_nil, ns, k, rfl, hl, hb, fun x y a b c => ⟨rfl, h x y ⟨a, b, c⟩⟩⟩
theorem for_inv {g : DTG} {u : DTS} {E : DEnds} (I : List Sl → Prop) (he : ∀ δ, I δ → E.nx δ) : ∀ (ds : List PyData) (δ : List Sl), I δ →
    (∀ d ∈ ds, ∀ δ, I δ → ∀ N : List Sl → Prop, (∀ δ', I δ' → N δ') → g d δ fun δ1 => u { E with nx := N, ct := N, bk := E.nx } δ1) → forW g u E ds δ
  | [], δ, hi, _ => he δ hi
  | d :: r, δ, hi, hs => hs d List.mem_cons_self δ hi _ fun δ' h' => for_inv I he r δ' h' fun d' hd' => hs d' (List.mem_cons_of_mem _ hd')
/-- texts -/
theorem okC_cut {z : Str} (h : okC z) (lo hi : Option Int) : okC (cutS z lo hi) := fun c hc => by
  have hc : c ∈ (z.cps.toList.drop (HT.sIx z.length 0 lo)).take (HT.sIx z.length z.length hi - HT.sIx z.length 0 lo) := hc
  exact h c (List.mem_of_mem_drop (List.mem_of_mem_take hc))
theorem tl_app (x y : Str) : (x ++ y).cps.toList = x.cps.toList ++ y.cps.toList := TL.tl_append x y
theorem okC_app {x y : Str} (hx : okC x) (hy : okC y) : okC (x ++ y) := fun c hc => by
  rw [tl_app, List.mem_append] at hc
  exact hc.elim (hx c) (hy c)
theorem len_app (x y : Str) : (x ++ y).length = x.length + y.length := PySem.Str.length_append x y
theorem okC_one {c : Nat} (h : c < 1114112) : okC ⟨#[c]⟩ := fun d hd => by
  have e : d = c := by simpa using hd
  rw [e]
  exact h
theorem mul01 {x : Str} {i : Int} (h0 : 0 ≤ i) (h1 : i < 2) : (Txt.mul x i = Str.empty) ∨ Txt.mul x i = x := by
  have hi : i = 0 ∨ i = 1 := by omega
  rcases hi with rfl | rfl
  · left
    unfold Txt.mul
    rw [if_pos (by decide)]
  · right
    unfold Txt.mul
    rw [if_neg (by decide), if_pos (by simp)]
theorem join_ones : ∀ cs : List Nat, Txt.join (Str.ofString "") (cs.map fun c => (⟨#[c]⟩ : Str)) = ⟨cs.toArray⟩ := fun cs => by
  apply TL.ext_tl
  rw [TL.join_eq]
  show TL.tl (Str.join _ _) = cs
  rw [TL.tl_join]
  have e0 : TL.tl (Str.ofString "") = [] := by decide +kernel
  rw [e0]
  induction cs with
  | nil => rfl
  | cons c r ih =>
    cases r with
    | nil => rfl
    | cons d r =>
      show [c] ++ ([] ++ TL.joinL [] _) = c :: d :: r
      rw [List.nil_append]
      exact congrArg (c :: ·) ih
theorem strsOf_ones : ∀ cs : List Nat, strsOf (cs.map fun c => PyData.str ⟨#[c]⟩) = some (cs.map fun c => (⟨#[c]⟩ : Str))
  | [] => rfl
  | c :: r => by
    show (strsOf (r.map fun c => PyData.str ⟨#[c]⟩)).map _ = _
    rw [strsOf_ones r]
    rfl
end TL

set_option Elab.async false
set_option linter.all false
set_option maxRecDepth 100000
set_option maxHeartbeats 4000000
/-! TLp: slices of texts with a step; sums, greatest; find; the set of a list of ints, sorted. -/
namespace TL
open PySem PySem.Spec L2
variable [XW]

/-! ### z[a:b:k] -/
def sliceS (z : Str) (a b k : Int) : Str :=
  if (k == 1 && (Builtin.Str.strSliceIndices (some a) (some b) k z.length).length == z.length) = true then z
  else ⟨((Builtin.Str.strSliceIndices (some a) (some b) k z.length).filterMap (z.cps[·]?)).toArray⟩
def tSlStep (te ta tb tk : TE) : TE := fun σ H Q => te σ H fun x H1 => ta σ H1 fun a H2 => tb σ H2 fun b H3 => tk σ H3 fun k H4 =>
  ∃ z i j n, x = .str z ∧ a = .int i ∧ b = .int j ∧ k = .int n ∧ n ≠ 0 ∧ z.length ≤ sizeLine ∧ Q (.str (sliceS z i j n)) H4
section
variable {X : Cx} {e a b k : Expr} {te ta tb tk : TE} {pos p2 : Pos}
open PyProof.Rows in
theorem pe_slStep (he : PE X e te) (ha : PE X a ta) (hb : PE X b tb) (hk : PE X k tk) : PE X (.Subscript e (.Slice (some a) (some b) (some k) p2) pos) (tSlStep te ta tb tk) := by
  refine ⟨fun pins s σ H Q I h => ?_⟩
  refine PyProof.Rows.Subscript_ (thn (he.run pins s σ H _ I h) fun v s1 ⟨x, H1, I1, r1, q1⟩ => ?_)
  refine wpAny_Slice ?_
  rw [evalPart_some]
  refine thn (ha.run pins s1 σ H1 _ I1 q1) fun va s2 ⟨x2, H2, I2, r2, q2⟩ => ?_
  rw [evalPart_some]
  refine thn (hb.run pins s2 σ H2 _ I2 q2) fun vb s3 ⟨x3, H3, I3, r3, q3⟩ => ?_
  rw [evalPart_some]
  refine thn (hk.run pins s3 σ H3 _ I3 q3) fun vk s4 ⟨x4, H4, I4, r4, q4⟩ => ?_
  obtain ⟨z, i, j, n, rfl, rfl, rfl, rfl, hn, hz, q⟩ := q4
  obtain ⟨t1, rfl⟩ := r1
  obtain ⟨t2, rfl⟩ := r2
  obtain ⟨t3, rfl⟩ := r3
  obtain ⟨t4, rfl⟩ := r4
  have I5 : Inv X pins σ H4 { s4 with heap := s4.heap.push { cls := .type "slice", data := .fields #[.int i t2, .int j t3, .int n t4] } } := I4.kept (t' := s4.toks) fun b ob q => Heap.get?_push_of_some _ q
  refine tail_any (ops := [.ref s4.heap.objs.size, .str z t1]) (typeIs_str _ _ _) F.slot_str_getitem.lookup ?_ (by with_unfolding_all rfl)
  refine wpAny_getItem_str_slice (l := some (i, t2)) (u := some (j, t3)) (st := some (n, t4)) ⟨_, Heap.get?_push_size _ rfl, rfl, rfl⟩ (by simpa using hn) ?_
  unfold sliceMade slicePicked
  unfold sliceS at q
  show Made.post (if (n == 1 && (Builtin.Str.strSliceIndices (some i) (some j) n z.length).length == z.length) = true then Made.val (.str z t1) else _) _ _
  by_cases c : (n == 1 && (Builtin.Str.strSliceIndices (some i) (some j) n z.length).length == z.length) = true
  · rw [if_pos c] at q ⊢
    exact ⟨.str z, H4, I5, ⟨_, rfl⟩, q⟩
  · rw [if_neg c] at q ⊢
    refine ⟨?_, .str _, H4, I5.tok _, ⟨_, rfl⟩, q⟩
    show (((Builtin.Str.strSliceIndices (some i) (some j) n z.length).filterMap (z.cps[·]?)).toArray).size ≤ sizeLine
    rw [List.size_toArray]
    exact Nat.le_trans (List.length_filterMap_le _ _) (Nat.le_trans (sliceIndicesBy_le _ _ n hn z.length) hz)
def dSlStep (ue ua ub uk : DTE) : DTE := fun δ R => ue δ fun d δ1 => ua δ1 fun d1 δ2 => ub δ2 fun d2 δ3 => uk δ3 fun d3 δ4 => match d, d1, d2, d3 with
  | .str z, .int i, .int j, .int n => (n ≠ 0 ∧ z.length ≤ sizeLine) ∧ R (.str (sliceS z i j n)) δ4
  | _, _, _, _ => False
theorem re_slStep {K : PySem.W.Frag} {ue ua ub uk : DTE} (he : RE K te ue) (ha : RE K ta ua) (hb : RE K tb ub) (hk : RE K tk uk) : RE K (tSlStep te ta tb tk) (dSlStep ue ua ub uk) := by
  intro c σ G H δ Q R E h kk
  refine he c σ G H δ _ _ E h fun d δ1 v G1 H1 h1 E1 e1 r => ?_
  refine ha c σ G1 H1 δ1 _ _ E1 h1 fun d1 δ2 v1 G2 H2 h2 E2 e2 r1 => ?_
  refine hb c σ G2 H2 δ2 _ _ E2 h2 fun d2 δ3 v2 G3 H3 h3 E3 e3 r2 => ?_
  refine hk c σ G3 H3 δ3 _ _ E3 h3 fun d3 δ4 v3 G4 H4 h4 E4 e4 r3 => ?_
  cases d <;> first
    | exact False.elim h4
    | skip
  cases d1 <;> first
    | exact False.elim h4
    | skip
  cases d2 <;> first
    | exact False.elim h4
    | skip
  cases d3 <;> first
    | exact False.elim h4
    | skip
  exact ⟨_, _, _, _, r.str_of, r1.int_of, r2.int_of, r3.int_of, h4.1.1, h4.1.2, kk _ δ4 _ G4 H4 h4.2 E4 (((e1.trans e2).trans e3).trans e4) (.str _)⟩
theorem de_slStep {ue ua ub uk : DTE} (he : DE X e te ue) (ha : DE X a ta ua) (hb : DE X b tb ub) (hk : DE X k tk uk) : DE X (.Subscript e (.Slice (some a) (some b) (some k) p2) pos) (tSlStep te ta tb tk) (dSlStep ue ua ub uk) :=
  ⟨pe_slStep he.pe ha.pe hb.pe hk.pe, re_slStep he.re ha.re hb.re hk.re⟩
end

/-! ### sums, the greatest, find -/
def intsOf : List PyData → Option (List Int)
  | [] => some []
  | .int x :: r => (intsOf r).map (x :: ·)
  | _ :: _ => none
theorem intsOf_map : ∀ ns : List Int, intsOf (ns.map PyData.int) = some ns
  | [] => rfl
  | n :: r => by
    show (intsOf (r.map PyData.int)).map _ = _
    rw [intsOf_map r]
    rfl
section
variable {K : PySem.W.Frag} {ta tb : TE} {ua ub : DTE}
theorem ints_of_rp {G : Hp} : ∀ {ds : List PyData} {xs : List V} {ys : List Int}, RpAll K G xs ds → intsOf ds = some ys → xs = ys.map V.int
  | _, _, _, .nil, h => by
    cases h
    rfl
  | d :: ds, _, ys, .cons (v := v) (vs := vs) r rr, h => by
    cases d <;> first
      | (cases h; done)
      | skip
    rename_i x
    have h : (intsOf ds).map (x :: ·) = some ys := h
    cases q : intsOf ds with
    | none =>
      rw [q] at h
      cases h
    | some zs =>
      rw [q] at h
      cases h
      rw [ints_of_rp rr q, r.int_of]
      rfl
def dSum (u : DTE) : DTE := fun δ R => u δ fun d δ1 => match d with
  | .list ds => (match intsOf ds with
    | some ns => R (.int ns.sum) δ1
    | none => False)
  | _ => False
theorem re_sum (ha : RE K ta ua) : RE K (tCB (rSum K) (tCons ta tNil)) (dSum ua) := by
  intro c σ G H δ Q R E h k
  refine ha c σ G H δ _ _ E h fun d δ1 v G1 H1 h1 E1 e1 r => ?_
  cases d <;> first
    | exact False.elim h1
    | skip
  rename_i ds
  have h1 : (match intsOf ds with
    | some ns => R (.int ns.sum) δ1
    | none => False) := h1
  obtain ⟨a, xs, rfl, q1, q2⟩ := r.lst_of
  cases q : intsOf ds with
  | none =>
    rw [q] at h1
    exact h1.elim
  | some ns =>
    rw [q] at h1
    exact ⟨a, ns, rfl, .inl (.inl (by rw [← ints_of_rp q2 q]; exact E1.ex _ _ q1)), k _ δ1 _ G1 H1 h1 E1 e1 (.int _)⟩
/-- the greatest of a list that is not empty -/
def dMaxL (u : DTE) : DTE := fun δ R => u δ fun d δ1 => match d with
  | .list ds => (match intsOf ds with
    | some ns => 0 < ns.length ∧ ∀ m, m ∈ ns → (∀ y, y ∈ ns → y ≤ m) → R (.int m) δ1
    | none => False)
  | _ => False
theorem re_maxL (ha : RE K ta ua) : RE K (tCB (rMax K) (tCons ta tNil)) (dMaxL ua) := by
  intro c σ G H δ Q R E h k
  refine ha c σ G H δ _ _ E h fun d δ1 v G1 H1 h1 E1 e1 r => ?_
  cases d <;> first
    | exact False.elim h1
    | skip
  rename_i ds
  have h1 : (match intsOf ds with
    | some ns => 0 < ns.length ∧ ∀ m, m ∈ ns → (∀ y, y ∈ ns → y ≤ m) → R (.int m) δ1
    | none => False) := h1
  obtain ⟨a, xs, rfl, q1, q2⟩ := r.lst_of
  cases q : intsOf ds with
  | none =>
    rw [q] at h1
    exact h1.elim
  | some ns =>
    rw [q] at h1
    exact ⟨a, ns, rfl, .inl (.inl (by rw [← ints_of_rp q2 q]; exact E1.ex _ _ q1)), h1.1, fun m hm hy => k _ δ1 _ G1 H1 (h1.2 m hm hy) E1 e1 (.int _)⟩
def rFind : V → List V → Hp → VK → Prop := fun x xs H Q => ∃ a b, x = .str a ∧ xs = [.str b] ∧ Q (.int (Txt.find a b)) H
def dFind (ua ub : DTE) : DTE := fun δ R => ua δ fun d1 δ1 => match d1 with
  | .str a => ub δ1 fun d2 δ2 => (match d2 with
    | .str b => R (.int (Txt.find a b)) δ2
    | _ => False)
  | _ => False
theorem re_find (ha : RE K ta ua) (hb : RE K tb ub) : RE K (tM1 rFind ta tb) (dFind ua ub) := by
  intro c σ G H δ Q R E h k
  refine ha c σ G H δ _ _ E h fun d1 δ1 v1 G1 H1 h1 E1 e1 r1 => ?_
  cases d1 <;> first
    | exact False.elim h1
    | skip
  rename_i a
  refine ⟨⟨a, r1.str_of⟩, ?_⟩
  refine hb c σ G1 H1 δ1 _ _ E1 h1 fun d2 δ2 v2 G2 H2 h2 E2 e2 r2 => ?_
  cases d2 <;> first
    | exact False.elim h2
    | exact ⟨a, _, r1.str_of, by rw [r2.str_of], k _ δ2 _ G2 H2 h2 E2 (e1.trans e2) (.int _)⟩
end
section
variable {X : Cx} {a b : Expr} {ta tb : TE} {ua ub : DTE} {pos p : Pos}
theorem de_sum1 (hm : X.mg "sum" = none) (ha : DE X a ta ua) (hc : X.calm = true := by rfl) (hg : Gl X "sum" := by rfl) (hv : bootBuiltins "sum" = some (.builtin "sum") := by decide +kernel) (hs : starEach [a] X.env = (false, eval a X.env) :: starEach [] X.env := by rfl) (hpl : (backTo pos (starEach [] X.env)).any (·.1) = false := by rfl) :
    DE X (.Call (.Name "sum" p) [a] [] pos) (tCB (rSum X.K) (tCons ta tNil)) (dSum ua) := ⟨pe_callB (cr_sum hc) hg hm hv (pa_cons ha.pe pa_nil hs) (by decide) (by decide) hs hpl, re_sum ha.re⟩
theorem de_max1 (hm : X.mg "max" = none) (ha : DE X a ta ua) (hc : X.calm = true := by rfl) (hg : Gl X "max" := by rfl) (hs : starEach [a] X.env = (false, eval a X.env) :: starEach [] X.env := by rfl) (hpl : (backTo pos (starEach [] X.env)).any (·.1) = false := by rfl) :
    DE X (.Call (.Name "max" p) [a] [] pos) (tCB (rMax X.K) (tCons ta tNil)) (dMaxL ua) := ⟨pe_callB (cr_max hc) hg hm PyProof.Rows.boot_max (pa_cons ha.pe pa_nil hs) (by decide) (by decide) hs hpl, re_maxL ha.re⟩
theorem de_m_find {apos : Pos} (ha : DE X a ta ua) (hb : DE X b tb ub) (hs : starEach [b] X.env = [(false, eval b X.env)] := by rfl) (hbase : attributeBase a "find" X.env (eval a X.env) = eval a X.env := by rfl) (hline : (apos.endLine == pos.line) = true := by rfl) :
    DE X (.Call (.Attribute a "find" apos) [b] [] pos) (tM1 rFind ta tb) (dFind ua ub) := ⟨pe_m1 F.slot_str_find F.type_str_find mt_find ha.pe hb.pe hs hbase hline, re_find ha.re hb.re⟩
end
end TL

set_option Elab.async false
set_option linter.all false
set_option maxRecDepth 100000
set_option maxHeartbeats 4000000
/-! TLq: the set of a list of ints, made by the type's call; sorted of it. -/
namespace TL
open PySem PySem.Spec PyProof.Rows L2
variable [XW]
/-- a set without members, as it is laid -/
abbrev setE (w : World) : Obj := { cls := .type "set", dict := none, data := .set #[] 0 (.fresh 0 0 (!w.params.followText "set-order")) }
section
variable {P : Program} {w : World} {A : Around} {E : Value → Shared → Prop} {s : Shared}
/-- what is known behind the filling -/
def Filled (w : World) (s : Shared) (ns : List Int) (s2 : Shared) : Prop := ∃ (g : Heap) (k n : Nat), s2 = { s with heap := g, toks := k } ∧ SetR w g s.heap.objs.size (fun j => decide (j ∈ ns)) n ∧ n ≤ ns.length ∧ ∀ b o, s.heap.get? b = some o → g.get? b = some o
set_option maxHeartbeats 4000000 in
theorem fill_list {l : Addr} {its : Array Value} {ns : List Int} (calm : A.handled = none) (L : s.heap.IsList l its) (hit : IntsAre its.toList ns) (room : ns.length + 1 < scanBound) :
    codeAny (model P w) A (.call (.builtin "set.__init__") ⟨[.ref s.heap.objs.size, .ref l], []⟩) (wants (fun r s2 => r = .none ∧ Filled w s ns s2) E) { s with heap := s.heap.push (setE w) } := by
  have e0 : (s.heap.push (setE w)).get? s.heap.objs.size = some (setE w) := Heap.get?_push_size _ rfl
  have ty : Shared.TypeIs { s with heap := s.heap.push (setE w) } (.ref s.heap.objs.size) "set" := ⟨_, e0, rfl⟩
  have isz : its.size = ns.length := by
    have q := IntsAre.length hit
    rwa [Array.length_toList] at q
  refine codeAny_call_builtin F.called_set.init.plain F.entry_set_init (check_set_init_1 ty ?_)
  have L1 : (s.heap.push (setE w)).IsList l its := L.push _
  obtain ⟨⟨oc, od, ob, os⟩, ho, hc, n0, hd⟩ := L
  simp only at hc hd
  subst hc hd
  have hlt : l < s.heap.objs.size := Heap.lt_size ho
  have ho1 : (s.heap.push (setE w)).get? l = some { cls := .type "list", dict := od, data := .seq its n0, slots := os } := Heap.get?_push_of_some _ ho
  have f1 := F.sub_list_set
  have f2 := F.sub_list_frozenset
  have f3 : (Value.type "list" == Value.type "dict") = false := by decide
  unfold Builtin.«set.__init__» noKeywords Builtin.Frozenset.updateFrom
  generalize hp : pyIter = PI
  wp_walk
  subst hp
  refine wpAny_pyIter_list L1 ?_
  refine wpAny_bind (wpAny_runValue ?_)
  have c3 : A.in1.in1.handled = none := by simp [calm]
  have n1 : (s.heap.push (setE w)).objs.size = s.heap.objs.size + 1 := Heap.size_push ..
  have n2 : l ≠ (s.heap.push (setE w)).objs.size := by
    rw [n1]
    exact Nat.ne_of_lt (Nat.lt_succ_of_lt hlt)
  have n3 : s.heap.objs.size ∉ [(s.heap.push (setE w)).objs.size, l] := by
    rw [n1]
    intro z
    rcases List.mem_cons.mp z with z | z
    · exact absurd z (Nat.ne_of_lt (Nat.lt_succ_self _))
    · exact absurd (List.mem_singleton.mp z) (Nat.ne_of_gt hlt)
  have vals : ∀ (i : Nat) (v : Value), its[i]? = some v → ∃ k t, ns[i]? = some k ∧ v = .int k t := fun i v hv => by
    have hi : i < ns.length := by
      rw [← isz]
      exact (Array.getElem?_eq_some_iff.mp hv).1
    obtain ⟨t, e⟩ := IntsAre.int_at hit i v (by rw [Array.getElem?_toList]; exact hv)
    refine ⟨ns[i], t, List.getElem?_eq_getElem hi, ?_⟩
    rw [e, List.getD_eq_getElem?_getD, List.getElem?_eq_getElem hi]
    rfl
  refine set_update_ints ((Walks.list c3 _ l n2 its).toS) s.heap.objs.size n3 ns isz room vals (its.size - 0) 0 _ (by omega) (Nat.zero_le _) ?_ ?_ ?_
  · exact ⟨⟨_, Heap.get?_push_size _ rfl, rfl, rfl⟩, L1.push _⟩
  · exact ⟨0, Nat.le_refl 0, setR_new_at (Heap.get?_push_of_some _ e0)⟩
  · intro s3 n mv hn S
    obtain ⟨g, gs, dr, tk, oo⟩ := s3
    obtain rfl : gs = s.gens := mv.gens
    obtain rfl : dr = s.drawn := mv.drawn
    obtain rfl : oo = s.os := mv.os
    show wpAny _ _ _ _ _ _
    refine wpAny_pure ?_
    show wpAny _ _ (ret Value.none) _ _ _
    refine wpAny_pure ⟨rfl, g, tk, n, rfl, S, by rw [isz] at hn; exact hn, fun b o e => ?_⟩
    have b0 : b < s.heap.objs.size := Heap.lt_size e
    refine mv.heap b o (fun z => ?_) (Heap.get?_push_of_some _ (Heap.get?_push_of_some _ e))
    rcases List.mem_cons.mp z with z | z
    · exact absurd z (Nat.ne_of_lt b0)
    · have z := List.mem_singleton.mp z
      rw [n1] at z
      exact absurd z (Nat.ne_of_lt (Nat.lt_succ_of_lt b0))
/-- set(xs), xs a list of ints -/
theorem set_of_ints {l : Addr} {its : Array Value} {ns : List Int} {Q : Value → Shared → Prop} (calm : A.handled = none) (L : s.heap.IsList l its) (hit : IntsAre its.toList ns) (room : ns.length + 1 < scanBound)
    (k : ∀ s2, Filled w s ns s2 → Q (.ref s.heap.objs.size) s2) : wpAny (model P w) A (call (.type "set") [.ref l]) Q E s := by
  obtain ⟨m1, m2, m3⟩ := F.called_set.mro; have m4 := F.called_set.made; have m5 := F.called_set.sub
  refine wpAny_call (codeAny_of_tree ?tree); case tree =>
  show wpAny _ _ (callAny (.type "set") ⟨[.ref l], []⟩) _ _ _
  refine wpAny_pure ⟨Code.quiet_builtin _ (by decide +kernel), codeAny_builtin F.entry_type_call ?body⟩; case body =>
  rw [Around.under_plain (weight_type_call_type "set" [.ref l] []) rfl]; have m6 := F.called_set.notType; have m7 := F.called_set.canCreate; have m8 := F.typeCall_set_1 (.ref l)
  repeat (any_goals first | assumption | wp_step)
  refine codeAny_mono (code_set_led1 (.ref l) (E := E) (Q₁ := fun v s1 => v = .ref s.heap.objs.size ∧ s1 = { s with heap := s.heap.push (setE w) }) ⟨rfl, rfl⟩) ?after
  case after =>
    rintro (e | f) s1 hr
    · exact hr
    · cases f with
      | ret v =>
        obtain ⟨rfl, rfl⟩ := hr
        have e0 : (s.heap.push (setE w)).get? s.heap.objs.size = some (setE w) := Heap.get?_push_size _ rfl
        have ty : Shared.TypeIs { s with heap := s.heap.push (setE w) } (.ref s.heap.objs.size) "set" := ⟨_, e0, rfl⟩
        have i1 := F.called_set.init.lookup; have i2 := F.called_set.init.bind (.ref s.heap.objs.size)
        repeat (any_goals first | assumption | wp_step)
        refine codeAny_mono (fill_list (E := E) (by first | exact calm | simp [calm]) L hit room) ?done
        case done =>
          rintro (e | f) s2 hr2
          · exact hr2
          · cases f with
            | ret r =>
              obtain ⟨rfl, hf⟩ := hr2
              repeat (any_goals first | assumption | wp_step)
              exact k _ hf
            | _ => exact hr2.elim
      | _ => exact hr.elim
end
/-! ### over the layer -/
section
variable {X : Cx}
/-- set(xs) -/
def rSetI (K : PySem.W.Frag) (w : World) : List V → Hp → VK → Prop := fun xs H Q => ∃ (a : Addr) (ns : List Int), xs = [V.ref a] ∧ SqL K H a (ns.map V.int) ∧ ns.length < 60 ∧
  ∀ (p : Addr) (n : Nat), H p = none → n ≤ ns.length → Q (.ref p) (upd H p (SetO w p (fun j => decide (j ∈ ns)) n))
theorem cr_setI (hc : X.calm = true) : CallR X (.type "set") (rSetI X.K X.w) := by
  intro pins s σ H xs us Q I r h
  obtain ⟨a, ns, rfl, hS, hl, q⟩ := h
  rw [Vals.ref1 r]
  obtain ⟨its, rv, pl, hz⟩ := I.list hS
  refine set_of_ints (I.ok.hd hc) pl.isList (by rw [List.toList_toArray]; exact ints_of_vals rv) (by unfold scanBound; omega) fun s2 hf => ?_
  obtain ⟨g, k, n, rfl, S, hn, kept⟩ := hf
  have free : H s.heap.objs.size = none := I.hok.fresh (Nat.le_refl _)
  exact ⟨.ref _, _, I.laid (t' := k) kept (Nat.le_refl _) (setO_new S), rfl, q _ n free hn⟩
end
end TL

set_option Elab.async false
set_option linter.all false
set_option maxRecDepth 100000
set_option maxHeartbeats 4000000
/-! TLr: max with default=, sorted(set(ints)), tuples put together, calls by keywords alone. -/
namespace TL
open PySem PySem.Spec L2
variable [XW]
section
variable {X : Cx}
/-- max(xs, default=d) -/
def rMaxDf (K : PySem.W.Frag) : List V → List V → Hp → VK → Prop := fun xs zs H Q => ∃ (a : Addr) (ns : List Int) (d : Int), xs = [V.ref a] ∧ zs = [V.int d] ∧ SqL K H a (ns.map V.int) ∧ (ns = [] → Q (.int d) H) ∧ ∀ m, m ∈ ns → (∀ y, y ∈ ns → y ≤ m) → Q (.int m) H
theorem foldmax_in : ∀ (r : List Int) (n : Int), r.foldl max n ∈ n :: r ∧ ∀ y ∈ n :: r, y ≤ r.foldl max n
  | [], n => ⟨List.mem_cons_self, fun y hy => by rw [List.mem_singleton.mp hy]; exact Int.le_refl _⟩
  | k :: r, n => by
    obtain ⟨h1, h2⟩ := foldmax_in r (max n k)
    rw [List.foldl_cons]
    constructor
    · rcases List.mem_cons.mp h1 with e | e
      · rw [e]
        by_cases hk : n ≤ k
        · rw [Int.max_eq_right hk]
          exact List.mem_cons_of_mem _ List.mem_cons_self
        · rw [Int.max_eq_left (by omega)]
          exact List.mem_cons_self
      · exact List.mem_cons_of_mem _ (List.mem_cons_of_mem _ e)
    · intro y hy
      have top := h2 _ List.mem_cons_self
      rcases List.mem_cons.mp hy with e | hy
      · rw [e]
        exact Int.le_trans (Int.le_max_left _ _) top
      · rcases List.mem_cons.mp hy with e | hy
        · rw [e]
          exact Int.le_trans (Int.le_max_right _ _) top
        · exact h2 y (List.mem_cons_of_mem _ hy)
theorem depth_ints : ∀ ns : List Int, PyData.depthAll (ns.map PyData.int) = 0
  | [] => rfl
  | n :: r => by
    show max (PyData.depth (.int n)) (PyData.depthAll (r.map PyData.int)) = 0
    rw [depth_ints r]
    rfl
theorem cr_maxDf (hc : X.calm = true) (hu : X.A.units + 65 < cLine) : CallRK X (.builtin "max") [Str.ofString "default"] (rMaxDf X.K) := by
  intro pins s σ H xs zs us ws Q I r rz h
  obtain ⟨a, ns, d, rfl, rfl, hs, q0, q1⟩ := h
  obtain ⟨its, rv, hl, _⟩ := I.list hs
  rw [Vals.ref1 r]
  obtain ⟨u, rfl, ru⟩ := L2.vals1 rz
  obtain ⟨t, rfl⟩ := ru
  show wpAny _ _ (call (.builtin "max") [.ref a] [(Str.ofString "default", .int d t)]) _ _ _
  refine PySem.W.max_list_default (xs := ns.map PyData.int) (as := []) (I.ok.hd hc) hl.isList (by rw [List.toList_toArray]; exact PyProof.Rows.ints_readAll _ rv.ints) ⟨fun x hx y hy => ?_, fun x hx => ?_⟩ (by rw [depth_ints]; omega) (fun e h' tk hk => ?_) (fun y ys i v h' tk bs e hv rd hk => ?_)
  · obtain ⟨i, _, rfl⟩ := List.mem_map.mp hx
    obtain ⟨j, _, rfl⟩ := List.mem_map.mp hy
    rfl
  · obtain ⟨i, _, rfl⟩ := List.mem_map.mp hx
    exact fun z => nomatch z
  · exact ⟨.int d, H, I.kept hk, ⟨_, rfl⟩, q0 (List.map_eq_nil_iff.mp e)⟩
  · cases ns with
    | nil => cases e
    | cons n r =>
      rw [List.map_cons] at e
      obtain ⟨rfl, rfl⟩ := List.cons.inj e
      rw [PySem.W.maxD_ints] at rd
      obtain ⟨h1, h2⟩ := foldmax_in r n
      cases rd
      exact ⟨.int _, H, I.kept hk, ⟨_, rfl⟩, q1 _ h1 h2⟩
end
section
variable {K : PySem.W.Frag} {ta tb : TE} {ua ub : DTE}
def dMaxDf (u : DTE) (k : Int) : DTE := fun δ R => u δ fun d δ1 => match d with
  | .list ds => (match intsOf ds with
    | some ns => (ns = [] → R (.int k) δ1) ∧ ∀ m, m ∈ ns → (∀ y, y ∈ ns → y ≤ m) → R (.int m) δ1
    | none => False)
  | _ => False
theorem re_maxDf {k0 : Int} (ha : RE K ta ua) : RE K (tCKw (rMaxDf K) (tCons ta tNil) (tCons (tC (.int k0)) tNil)) (dMaxDf ua k0) := by
  intro c σ G H δ Q R E h k
  refine ha c σ G H δ _ _ E h fun d δ1 v G1 H1 h1 E1 e1 r => ?_
  cases d <;> first
    | exact False.elim h1
    | skip
  rename_i ds
  have h1 : (match intsOf ds with
    | some ns => (ns = [] → R (.int k0) δ1) ∧ ∀ m, m ∈ ns → (∀ y, y ∈ ns → y ≤ m) → R (.int m) δ1
    | none => False) := h1
  obtain ⟨a, xs, rfl, q1, q2⟩ := r.lst_of
  cases q : intsOf ds with
  | none =>
    rw [q] at h1
    exact h1.elim
  | some ns =>
    rw [q] at h1
    exact ⟨a, ns, k0, rfl, rfl, .inl (.inl (by rw [← ints_of_rp q2 q]; exact E1.ex _ _ q1)), fun z => k _ δ1 _ G1 H1 (h1.1 z) E1 e1 (.int _), fun m hm hy => k _ δ1 _ G1 H1 (h1.2 m hm hy) E1 e1 (.int _)⟩
/-- sorted(set(xs)), xs a list of ints -/
def dSortSet (u : DTE) : DTE := fun δ R => u δ fun d δ1 => match d with
  | .list ds => (match intsOf ds with
    | some ns => ns.length < 60 ∧ ∀ ms : List Int, ms.Pairwise (· < ·) → (∀ k, k ∈ ms ↔ k ∈ ns) → R (.list (ms.map PyData.int)) δ1
    | none => False)
  | _ => False
theorem re_sortSet {w : World} (ha : RE K ta ua) : RE K (tCB (rSortedSet w) (tCons (tCB (rSetI K w) (tCons ta tNil)) tNil)) (dSortSet ua) := by
  intro c σ G H δ Q R E h k
  refine ha c σ G H δ _ _ E h fun d δ1 v G1 H1 h1 E1 e1 r => ?_
  cases d <;> first
    | exact False.elim h1
    | skip
  rename_i ds
  have h1 : (match intsOf ds with
    | some ns => ns.length < 60 ∧ ∀ ms : List Int, ms.Pairwise (· < ·) → (∀ k, k ∈ ms ↔ k ∈ ns) → R (.list (ms.map PyData.int)) δ1
    | none => False) := h1
  obtain ⟨a, xs, rfl, q1, q2⟩ := r.lst_of
  cases q : intsOf ds with
  | none =>
    rw [q] at h1
    exact h1.elim
  | some ns =>
    rw [q] at h1
    obtain ⟨hl, h1⟩ := h1
    refine ⟨a, ns, rfl, .inl (.inl (by rw [← ints_of_rp q2 q]; exact E1.ex _ _ q1)), hl, fun p n hp hn => ?_⟩
    refine ⟨p, _, n, rfl, upd_same, by omega, fun ms p2 hs hm hlen hp2 => ?_⟩
    have A1 : Al G1 H1 G1 (upd H1 p (SetO w p (fun j => decide (j ∈ ns)) n)) := Al.tmp E1.ex hp
    have A2 := Al.new (o := .lst (ms.map V.int)) A1.ex hp2
    have A := A1.trans A2
    have rp : Rp K (upd G1 p2 (.lst (ms.map V.int))) (.ref p2) (.list (ms.map PyData.int)) := .lst upd_same (ints_rp ms)
    refine k _ δ1 _ _ _ (h1 ms hs fun j => ?_) (E1.al A) (e1.trans A.g) rp
    rw [hm j]
    exact decide_eq_true_iff
/-- two tuples put together, the one ahead not empty -/
def rdCatT : R2D := fun d1 d2 R => match d1, d2 with
  | .tuple xs, .tuple ys => 0 < xs.length ∧ xs.length + ys.length ≤ sizeLine ∧ R (.tuple (xs ++ ys))
  | _, _ => False
theorem ro_catT : RO K (rCatT K) rdCatT := by
  intro G H x y d1 d2 Q R e r1 r2 h k
  cases d1 <;> first
    | exact False.elim h
    | skip
  cases d2 <;> first
    | exact False.elim h
    | skip
  rename_i xs ys
  obtain ⟨h0, hz, h⟩ := h
  obtain ⟨a, vs, rfl, a1, a2⟩ := r1.tup_of
  obtain ⟨b, us, rfl, b1, b2⟩ := r2.tup_of
  have l1 := a2.len
  have l2 := b2.len
  refine ⟨a, b, vs, us, rfl, rfl, .inl (.inl (e _ _ a1)), .inl (.inl (e _ _ b1)), fun z => by rw [z] at l1; simp at l1; omega, by omega, fun z => ?_, fun z p hp => ?_⟩
  · subst z
    cases b2
    rw [List.append_nil] at h
    exact k _ _ G H h (Al.refl e) (.tup a1 a2)
  · have A := Al.new (o := .tup (vs ++ us)) e hp
    exact k _ _ _ _ h A (.tup upd_same (RpAll.app (a2.up A.g) (b2.up A.g)))
end
section
variable {X : Cx} {a b e : Expr} {ta tb : TE} {ua ub : DTE} {pos p p2 pk : Pos}
theorem de_maxDf {k0 : Int} {nm : Option Str} {v : Expr} (hm : X.mg "max" = none) (hu : X.A.units + 65 < cLine) (ha : DE X a ta ua) (hv : PE X v (tC (.int k0))) (hc : X.calm = true := by rfl) (hg : Gl X "max" := by rfl)
    (he : backTo pos (starEach [a] X.env) = (false, eval a X.env) :: backTo pos (starEach [] X.env) := by rfl) (hpl : (backTo pos (starEach [a] X.env)).any (·.1) = false := by rfl) (hs : starEach [a] X.env = (false, eval a X.env) :: starEach [] X.env := by rfl)
    (hall : (backToKw pos (keywordEach [⟨nm, v, pk⟩] X.env)).all (·.1.isSome) = true := by rfl) (hnone : (backToKw pos (keywordEach [⟨nm, v, pk⟩] X.env)).any (·.1.isNone) = false := by rfl) (hks : (backToKw pos (keywordEach [⟨nm, v, pk⟩] X.env)).filterMap (·.1) = [Str.ofString "default"] := by rfl) :
    DE X (.Call (.Name "max" p) [a] [⟨nm, v, pk⟩] pos) (tCKw (rMaxDf X.K) (tCons ta tNil) (tCons (tC (.int k0)) tNil)) (dMaxDf ua k0) :=
  ⟨pe_callBK (cr_maxDf hc hu) hg hm PyProof.Rows.boot_max (pa_cons ha.pe pa_nil hs) (pk_cons hv pk_nil) (by decide) (by decide) he hpl hall hnone hks, re_maxDf ha.re⟩
theorem de_sortSet (hm : X.mg "sorted" = none) (hm2 : X.mg "set" = none) (ha : DE X a ta ua) (hc : X.calm = true := by rfl) (hg : Gl X "sorted" := by rfl) (hg2 : Gl X "set" := by rfl)
    (hv : bootBuiltins "sorted" = some (.builtin "sorted") := by decide +kernel) (hv2 : bootBuiltins "set" = some (.type "set") := by decide +kernel)
    (hs : starEach [a] X.env = (false, eval a X.env) :: starEach [] X.env := by rfl) (hpl : (backTo p2 (starEach [] X.env)).any (·.1) = false := by rfl)
    (hs2 : starEach [.Call (.Name "set" pk) [a] [] p2] X.env = (false, eval (.Call (.Name "set" pk) [a] [] p2) X.env) :: starEach [] X.env := by rfl) (hpl2 : (backTo pos (starEach [] X.env)).any (·.1) = false := by rfl) :
    DE X (.Call (.Name "sorted" p) [.Call (.Name "set" pk) [a] [] p2] [] pos) (tCB (rSortedSet X.w) (tCons (tCB (rSetI X.K X.w) (tCons ta tNil)) tNil)) (dSortSet ua) :=
  ⟨pe_callB (cr_sortedSet hc) hg hm hv (pa_cons (pe_callTy (cr_setI hc) hg2 hm2 hv2 (pa_cons ha.pe pa_nil hs) (by decide) (by decide) hs hpl) pa_nil hs2) (by decide) (by decide) hs2 hpl2, re_sortSet ha.re⟩
end
end TL

set_option Elab.async false
set_option linter.all false
set_option maxRecDepth 100000
set_option maxHeartbeats 4000000
/-! TLk: own defs called by keywords alone. -/
namespace TL
open PySem PySem.Spec L2
variable [XW]
/-- a def that may be called by the names of its parameters, too -/
structure KnK (P : Program) (w : World) (K : PySem.W.Frag) (mg : Str → Option Value) (base : Heap) (k : Nat) (x : Str) (ks : List Str) (S : DSp) : Prop where
  ex : ∃ (f : Addr) (fd : FuncData) (ps : List Str), FnOkG P w K mg base CX0 k f fd ps (spD K S) ∧ mg x = some (.ref f) ∧ PySem.W.keepIn K (.ref f) = true ∧ KBinds K fd ps ks (fun us ws => us ++ ws) (fun us ws => us ++ ws)
section
variable {X : Cx} {CX : CXT} {k : Nat} {f : Addr} {fd : FuncData} {ps ks : List Str} {sp : Sp} {E : XK} {x : Str} {p pos pk : Pos} {kws : List Keyword} {tk : TA} {g : List Value → List Value → List Value} {gV : List V → List V → List V}
theorem pe_callK0 (F : FnOkG X.prog X.w X.K X.mg X.base CX k f fd ps sp) (hr : RoomG k X.A) (hg : Gl X x) (hm : X.mg x = some (.ref f)) (hk : PySem.W.keepIn X.K (.ref f) = true) (hb : KBinds X.K fd ps ks g gV) (hx : Passes CX X E)
    (hkw : PK X kws tk) (hall : (backToKw pos (keywordEach kws X.env)).all (·.1.isSome) = true := by rfl) (hks : (backToKw pos (keywordEach kws X.env)).filterMap (·.1) = ks := by rfl)
    (hdb : (x == ("__debug__" : Str)) = false := by decide)
    (hpl : ((backTo pos (starEach [] X.env)).any (·.1) || (backToKw pos (keywordEach kws X.env)).any (·.1.isNone)) = false := by rfl) :
    PE X (.Call (.Name x p) [] kws pos) (tCallK sp gV E tNil tk) := by
  refine ⟨fun pins s σ H Q I h => ?_⟩
  refine wpAny_Call_Name_kw (ld_glob I hg hm ?_ hdb)
  refine PySem.W.callWith_KW0 (h₀ := X.base) I.ok.mod.kin hk hall (thn (hkw.run pos pins s σ H _ I h) fun ws s2 ⟨zs, H2, I2, rz, q2⟩ => ⟨I2.kIn, ?_⟩) hpl
  rw [hks]
  exact run_fnkG F hr hb hx I2 .nil rz q2
theorem pk_of_pa : ∀ {kws : List Keyword} {t : TA}, (∃ e te nm q, kws = [⟨nm, e, q⟩] ∧ PE X e te ∧ t = tCons te tNil) → PK X kws t := fun {kws t} ⟨e, te, nm, q, h1, h2, h3⟩ => by
  subst h1 h3
  exact pk_cons h2 pk_nil
theorem de_callKw {v : Expr} {tv : TE} {uv : DTE} {nm : Option Str} {S : DSp} {j : Nat} (kn : KnK X.prog X.w X.K X.mg X.base k x ks S) (hr : RoomG j X.A) (hk : k ≤ j) (hv : DE X v tv uv) (hg : Gl X x := by rfl) (hdb : (x == ("__debug__" : Str)) = false := by decide)
    (hall : (backToKw pos (keywordEach [⟨nm, v, pk⟩] X.env)).all (·.1.isSome) = true := by rfl) (hks : (backToKw pos (keywordEach [⟨nm, v, pk⟩] X.env)).filterMap (·.1) = ks := by rfl)
    (hpl : ((backTo pos (starEach [] X.env)).any (·.1) || (backToKw pos (keywordEach [⟨nm, v, pk⟩] X.env)).any (·.1.isNone)) = false := by rfl) :
    DE X (.Call (.Name x p) [] [⟨nm, v, pk⟩] pos) (tCall (spD X.K S) [] E0 (tCons tv tNil)) (dCall S (cD uv cNil)) := by
  obtain ⟨f, fd, ps, F, hm, kp, b⟩ := kn.ex
  refine ⟨?_, re_call (rca_d hv.re rca_nil)⟩
  have q := pe_callK0 (p := p) (tk := tCons tv tNil) F (hr.mono hk) hg hm kp b pass0 (pk_cons hv.pe pk_nil) hall hks hdb hpl
  have e : tCallK (spD X.K S) (fun us ws => us ++ ws) E0 tNil (tCons tv tNil) = tCall (spD X.K S) [] E0 (tCons tv tNil) := by
    funext σ H Q
    show (tv σ H fun z H2 => spD X.K S ([] ++ [z]) H2 Q E0) = (tv σ H fun z H2 => spD X.K S ([z] ++ []) H2 Q E0)
    rfl
  rw [← e]
  exact q
end
theorem kbinds1 {K : PySem.W.Frag} {x qual : Str} {st : Stmt} {f : Addr} {fd : FuncData} {y : Str} (F : Fun K x qual st f fd)
    (h1 : ∀ (kV doc pm : Value) (an : Option Addr) (cdv ct u : Value), bindArgs (PySem.W.fnOf x qual (defArgs st) (defBody st) (defScope st) .none kV doc pm an cdv ct) ⟨[u], []⟩ = pure [(y, u)])
    (h2 : ∀ (kV doc pm : Value) (an : Option Addr) (cdv ct u : Value), bindArgs (PySem.W.fnOf x qual (defArgs st) (defBody st) (defScope st) .none kV doc pm an cdv ct) ⟨[], [(y, u)]⟩ = pure [(y, u)]) :
    KBinds K fd [y] [y] (fun us ws => us ++ ws) (fun us ws => us ++ ws) := by
  obtain ⟨oc, od, kV, doc, pm, an, cdv, ct, osl, rfl, lk, hcd⟩ := F.ex
  refine ⟨fun s us ws _ hl => ?_, fun r rz => r.append rz⟩
  rw [List.length_append] at hl
  rcases us with _ | ⟨u, us⟩
  · rcases ws with _ | ⟨u, ws⟩
    · simp at hl
    · have e : ws = [] := by
        simp at hl
        exact hl
      subst e
      exact .of_eq (h2 kV doc pm an cdv ct u)
  · have e : us = [] ∧ ws = [] := by
      constructor <;> apply List.eq_nil_of_length_eq_zero <;> simp at hl <;> omega
    obtain ⟨rfl, rfl⟩ := e
    exact .of_eq (h1 kV doc pm an cdv ct u)
end TL

set_option Elab.async false
set_option linter.all false
set_option maxRecDepth 100000
set_option maxHeartbeats 4000000
/-! TLt: calls in a comprehension; a call whose later arguments change its first; a promise that asks for nothing. -/
namespace TL
open PySem PySem.Spec L2
variable [XW]
def MonoS (S : DSp) : Prop := ∀ (as : List Sl) (R R' : PyData → List (List PyData) → Prop), (∀ d o, R d o → R' d o) → S as R → S as R'
theorem var_at {i : Nat} {δ : List Sl} {R : DQ} {d : PyData} (h : δ[i]? = some (.dat d)) (k : R d δ) : dVar i δ R := by
  unfold dVar
  rw [h]
  exact k
theorem own_tail {S : DSp} {δ : List Sl} {R : DQ} {i : Nat} {t : Option Nat} {cs : List PyData} (hs : δ[i]? = some (.own t cs)) (ds : List PyData) (mono : MonoS S)
    (k : S (.own (some 0) cs :: ds.map Sl.dat) fun d outs => ∃ o, outs = [o] ∧ R d (δ.set i (.own t o))) :
    (muts δ (.s i :: ds.map CA.d)).Nodup ∧ S (asOf δ (.s i :: ds.map CA.d) 0) fun d outs => outs.length = (muts δ (.s i :: ds.map CA.d)).length ∧ R d (setOuts δ (muts δ (.s i :: ds.map CA.d)) outs) := by
  have z := call_own1 (R := R) (ua := fun δ Q => Q (ds.map CA.d) δ) hs ds (fun Q q => q) k (mono _)
  exact z.2
theorem lc_calls {i : Nat} {S : DSp} {R : List PyData → List Sl → Prop} (mono : MonoS S) {δ0 : List Sl} (h00 : wipeS δ0 [i] = δ0) (hi : i < δ0.length) : ∀ (ps : List (PyData × PyData)) (acc : List PyData) (δ : List Sl), wipeS δ [i] = δ0 → acc.length + ps.length ≤ 16777216 →
    (∀ q ∈ ps, ∀ R' : PyData → List (List PyData) → Prop, R' q.2 [] → S [.dat q.1] R') → (∀ δ', wipeS δ' [i] = δ0 → R (acc ++ ps.map (·.2)) δ') → lcW [i] (dgName i) dYes (dCall S (cD (dVar i) cNil)) R (ps.map (·.1)) acc δ
  | [], acc, δ, h0, hl, hs, k => by
    have z := k δ h0
    rw [List.map_nil, List.append_nil] at z
    exact z
  | q :: r, acc, δ, h0, hl, hs, k => by
    have hl' : acc.length + r.length + 1 ≤ 16777216 := by
      rw [List.length_cons] at hl
      omega
    show dCall S (cD (dVar i) cNil) ((wipeS δ [i]).set i (.dat q.1)) fun y δ3 => acc.length < sizeLine ∧ lcW [i] (dgName i) dYes (dCall S (cD (dVar i) cNil)) R (r.map (·.1)) (acc ++ [y]) (wipeS δ3 [i])
    rw [h0]
    refine call_pure [q.1] (fun Q z => ?_) ?_ (mono _)
    · exact var_at (by rw [List.getElem?_set_self hi]) z
    · refine hs q List.mem_cons_self _ ⟨rfl, by rw [sizeLine_eq]; omega, ?_⟩
      have e : wipeS (δ0.set i (.dat q.1)) [i] = δ0 := by
        show (δ0.set i (.dat q.1)).set i .no = δ0
        rw [List.set_set]
        exact h00
      rw [e]
      refine lc_calls mono h00 hi r (acc ++ [q.2]) δ0 h00 (by rw [List.length_append, List.length_singleton]; omega) (fun q' hq' => hs q' (List.mem_cons_of_mem _ hq')) fun δ' h' => ?_
      have z := k δ' h'
      rw [List.map_cons] at z
      rw [List.append_assoc]
      exact z
theorem fn_none {P : Program} {w : World} {K : PySem.W.Frag} {mg : Str → Option Value} {base : Heap} {k : Nat} {f : Addr} {fd : FuncData} {ps : List Str} {S : DSp} (h : ∀ as R, ¬ S as R) : FnOkG P w K mg base CX0 k f fd ps (spD K S) :=
  ⟨fun vs H Q E ⟨_, _, _, _, _, _, z, _⟩ => absurd z (h _ _), fun A outer s H args us vs Q E _ _ _ _ ⟨_, _, _, _, _, _, z, _⟩ => absurd z (h _ _)⟩
end TL

set_option Elab.async false
set_option linter.all false
set_option maxRecDepth 100000
set_option maxHeartbeats 4000000
/-! TLi: the rules that name the frozen part of the heap, told again so that they may stand in a comprehension. -/
namespace TL
open PySem PySem.Spec L2
variable [XW]
section
variable {X : Cx} {K : PySem.W.Frag} {a b e : Expr} {es : List Expr} {ta tb te : TE} {ua ub ue : DTE} {pos p p2 : Pos} {tca : TA} {uca : DCA}
theorem de_callI {P : Program} {w : World} {mg : Str → Option Value} {base : Heap} {x : Str} {S : DSp} {k j : Nat} (kn : Kn P w K mg base k x S) (hr : RoomG j X.A) (hk : k ≤ j) (ha : DCa X (e :: es) tca uca)
    (hX : X.prog = P ∧ X.w = w ∧ X.K = K ∧ X.mg = mg ∧ X.base = base := by exact ⟨rfl, rfl, rfl, rfl, rfl⟩) (hg : Gl X x := by rfl) (hdb : (x == ("__debug__" : Str)) = false := by decide)
    (he : starEach (e :: es) X.env = (false, eval e X.env) :: starEach es X.env := by rfl) (hpl : (backTo pos (starEach es X.env)).any (·.1) = false := by rfl) : DE X (.Call (.Name x p) (e :: es) [] pos) (tCall (spD K S) [] E0 tca) (dCall S uca) := by
  obtain ⟨rfl, rfl, rfl, rfl, rfl⟩ := hX
  exact de_call kn hr hk ha hg hdb he hpl
theorem de_ixVI (i : Nat) {x : Str} (hb : DE X b tb ub) (hK : X.K = K := by rfl) (hN : X.N[i]? = some x := by rfl) (hv : Vis X.env.scope x := by first | exact Or.inl rfl | exact Or.inr (Or.inl rfl) | exact Or.inr (Or.inr rfl)) (hd : (x == ("__debug__" : Str)) = false := by decide)
    (hcd : (x == ("__classdict__" : Str)) = false := by decide) (hs : PlainIx b := by exact fun _ _ => rfl) : DE X (.Subscript (.Name x p) b pos) (tOp (rIxL K) (tVar i) tb) (dIxV i ub) := by
  subst hK
  exact de_ixV i hb hN hv hd hcd hs
theorem de_lenI {ps : Pos} (hm : X.mg "len" = none) (ha : DE X e te ue) (hK : X.K = K := by rfl) (hg : Gl X "len" := by rfl) (hs : starEach [e] X.env = (false, eval e X.env) :: starEach [] X.env := by rfl) (hpl : (backTo pos (starEach [] X.env)).any (·.1) = false := by rfl) :
    DE X (.Call (.Name "len" p) [e] [] pos) (tCB (rLen K) (tCons te tNil)) (dLen ue) := by
  subst hK
  exact de_len (ps := default) hm ha hg hs hpl
theorem de_isiI {T : String} {Tn : Str} (hm : X.mg "isinstance" = none) (hT : X.mg Tn = none) (hv : bootBuiltins Tn = some (.type T)) (ha : DE X e te ue) (hK : X.K = K := by rfl) (hg : Gl X "isinstance" := by rfl) (hgT : Gl X Tn := by rfl) (hb : bootBuiltins "isinstance" = some (.builtin "isinstance") := by decide +kernel)
    (hn : Tn ≠ "__name__" := by decide) (hd : (Tn == ("__debug__" : Str)) = false := by decide)
    (hs : starEach [e, .Name Tn p2] X.env = (false, eval e X.env) :: starEach [.Name Tn p2] X.env := by rfl) (hs2 : starEach [.Name Tn p2] X.env = (false, eval (.Name Tn p2) X.env) :: starEach [] X.env := by rfl) (hpl : (backTo pos (starEach [.Name Tn p2] X.env)).any (·.1) = false := by rfl) (hTe : kitB "" T = none := by decide +kernel) :
    DE X (.Call (.Name "isinstance" p) [e, .Name Tn p2] [] pos) (tCB (rIsi K) (tCons te (tCons (tC (.ty T)) tNil))) (dIsi T ue) := by
  subst hK
  exact de_isi hm hT hv ha hg hgT hb hn hd hs hs2 hpl hTe
end
end TL

set_option Elab.async false
set_option linter.all false
set_option maxRecDepth 100000
set_option maxHeartbeats 4000000
/-! TLm: what K03 found out and other laws want too; statements that are never reached. -/
namespace TL
open PySem PySem.Spec L2
variable [XW]
def isNon : PyData → Bool
  | .none => true
  | _ => false
def dIsN : R2D := fun a b R => match b with
  | .none => R (.bool (isNon a))
  | _ => False
def dNotN : R2D := fun a b R => match b with
  | .none => R (.bool (!isNon a))
  | _ => False
theorem isNon_rp {K : PySem.W.Frag} {G : Hp} {x : V} {d : PyData} (r : Rp K G x d) : decide (x = V.non) = isNon d := by
  cases r <;> simp [isNon, errD]
theorem ro_isN {K : PySem.W.Frag} : RO K (fun x y H Q => y = .non ∧ Q (.bl (decide (x = .non))) H) dIsN := by
  intro G H x y d1 d2 Q R e r1 r2 h k
  cases d2 <;> first
    | exact False.elim h
    | skip
  refine ⟨r2.non_of, ?_⟩
  rw [isNon_rp r1]
  exact k _ _ G H h (Al.refl e) (.bl _)
theorem ro_notN {K : PySem.W.Frag} : RO K (fun x y H Q => y = .non ∧ Q (.bl (!decide (x = .non))) H) dNotN := by
  intro G H x y d1 d2 Q R e r1 r2 h k
  cases d2 <;> first
    | exact False.elim h
    | skip
  refine ⟨r2.non_of, ?_⟩
  rw [isNon_rp r1]
  exact k _ _ G H h (Al.refl e) (.bl _)
theorem call_own_late {S : DSp} {R : DQ} {i : Nat} {t : Option Nat} {δ : List Sl} {ua : DCA} (P : List PyData → List PyData → List Sl → Prop) (hi : isS δ[i]? = true)
    (hu : ∀ Q : List CA → List Sl → Prop, (∀ ds cs δ2, P ds cs δ2 → Q (ds.map CA.d) δ2) → ua δ Q) (mono : MonoS S)
    (k : ∀ ds cs δ2, P ds cs δ2 → δ2[i]? = some (.own t cs) ∧ S (.own (some 0) cs :: ds.map Sl.dat) fun d outs => ∃ o, outs = [o] ∧ R d (δ2.set i (.own t o))) : dCall S (cS i ua) δ R :=
  ⟨hi, hu _ fun ds cs δ2 h => own_tail (k ds cs δ2 h).1 ds mono (k ds cs δ2 h).2⟩
theorem eqv_ints : ∀ ns : List Int, PyData.eqvAll (ns.map PyData.int) (ns.map PyData.int) = true
  | [] => by simp [PyData.eqvAll]
  | n :: r => by
    show PyData.eqvAll (.int n :: r.map PyData.int) (.int n :: r.map PyData.int) = true
    simp [PyData.eqvAll, ev_ii, eqv_ints r]
theorem eqv_lints (ns : List Int) : PyData.eqv (.list (ns.map PyData.int)) (.list (ns.map PyData.int)) = true := by
  simp [PyData.eqv, eqv_ints ns]
theorem sh_ints (ns : List Int) : SeqAt.shaped (.list (ns.map PyData.int)) = true := by
  have a : PyData.canLayAll0 (ns.map PyData.int) = true := by
    induction ns with
    | nil => rfl
    | cons n r ih =>
      show (PyData.canLay0 (.int n) && PyData.canLayAll0 (r.map PyData.int)) = true
      rw [ih]
      rfl
  unfold SeqAt.shaped
  rw [Bool.and_eq_true]
  refine ⟨a, decide_eq_true ?_⟩
  show PyData.depthAll _ + 1 ≤ 64
  rw [depth_ints]
  decide
/-- two rising lists with the same members are one -/
theorem rise_eq : ∀ {a b : List Int}, a.Pairwise (· < ·) → b.Pairwise (· < ·) → (∀ k, k ∈ a ↔ k ∈ b) → a = b
  | [], [], _, _, _ => rfl
  | [], y :: b, _, _, h => absurd ((h y).mpr List.mem_cons_self) (by simp)
  | x :: a, [], _, _, h => absurd ((h x).mp List.mem_cons_self) (by simp)
  | x :: a, y :: b, ha, hb, h => by
    have ha' := List.pairwise_cons.mp ha
    have hb' := List.pairwise_cons.mp hb
    have e : x = y := by
      rcases List.mem_cons.mp ((h x).mp List.mem_cons_self) with e | h1
      · exact e
      · rcases List.mem_cons.mp ((h y).mpr List.mem_cons_self) with e | h2
        · exact e.symm
        · have := hb'.1 x h1
          have := ha'.1 y h2
          omega
    subst e
    refine congrArg (x :: ·) (rise_eq ha'.2 hb'.2 fun k => ⟨fun hk => ?_, fun hk => ?_⟩)
    · rcases List.mem_cons.mp ((h k).mp (List.mem_cons_of_mem _ hk)) with e | h1
      · have := ha'.1 k hk
        omega
      · exact h1
    · rcases List.mem_cons.mp ((h k).mpr (List.mem_cons_of_mem _ hk)) with e | h1
      · have := hb'.1 k hk
        omega
      · exact h1
/-- a statement that is never reached -/
def tNever : TS := fun _ _ _ => False
def dNever : DTS := fun _ _ => False
theorem ds_never {X : Cx} {st : Stmt} : DS X st tNever dNever := ⟨⟨fun _ _ _ _ _ _ h => False.elim h⟩, fun _ _ _ _ _ _ _ _ h _ => False.elim h⟩
end TL

set_option Elab.async false
set_option linter.all false
set_option maxRecDepth 100000
set_option maxHeartbeats 4000000
/-! TLo: all and any of a list of truths. -/
namespace TL
open PySem PySem.Spec L2
variable [XW]
def boolsOf : List PyData → Option (List Bool)
  | [] => some []
  | .bool b :: r => (boolsOf r).map (b :: ·)
  | _ :: _ => none
theorem boolsOf_map : ∀ bs : List Bool, boolsOf (bs.map PyData.bool) = some bs
  | [] => rfl
  | b :: r => by
    show (boolsOf (r.map PyData.bool)).map (b :: ·) = some (b :: r)
    rw [boolsOf_map r]
    rfl
section
variable {K : PySem.W.Frag} {ta : TE} {ua : DTE}
theorem bools_of_rp {G : Hp} : ∀ {ds : List PyData} {xs : List V} {ys : List Bool}, RpAll K G xs ds → boolsOf ds = some ys → xs = ys.map V.bl
  | _, _, _, .nil, h => by
    cases h
    rfl
  | d :: ds, _, ys, .cons (v := v) (vs := vs) r rr, h => by
    cases d <;> first
      | (cases h; done)
      | skip
    rename_i x
    have h : (boolsOf ds).map (x :: ·) = some ys := h
    cases q : boolsOf ds with
    | none =>
      rw [q] at h
      cases h
    | some zs =>
      rw [q] at h
      cases h
      rw [bools_of_rp rr q, r.bl_of]
      rfl
def dBools (f : List Bool → Bool) (u : DTE) : DTE := fun δ R => u δ fun d δ1 => match d with
  | .list ds => (match boolsOf ds with
    | some bs => R (.bool (f bs)) δ1
    | none => False)
  | _ => False
theorem re_bools {r : List V → Hp → VK → Prop} {f : List Bool → Bool} (hr : ∀ (a : Addr) (bs : List Bool) (H : Hp) (Q : VK), SqL K H a (bs.map V.bl) → Q (.bl (f bs)) H → r [V.ref a] H Q) (ha : RE K ta ua) : RE K (tCB r (tCons ta tNil)) (dBools f ua) := by
  intro c σ G H δ Q R E h k
  refine ha c σ G H δ _ _ E h fun d δ1 v G1 H1 h1 E1 e1 rr => ?_
  cases d <;> first
    | exact False.elim h1
    | skip
  rename_i ds
  have h1 : (match boolsOf ds with
    | some bs => R (.bool (f bs)) δ1
    | none => False) := h1
  obtain ⟨a, xs, rfl, q1, q2⟩ := rr.lst_of
  cases q : boolsOf ds with
  | none =>
    rw [q] at h1
    exact h1.elim
  | some bs =>
    rw [q] at h1
    exact hr a bs H1 _ (.inl (.inl (by rw [← bools_of_rp q2 q]; exact E1.ex _ _ q1))) (k _ δ1 _ G1 H1 h1 E1 e1 (.bl _))
end
section
variable {X : Cx} {a : Expr} {ta : TE} {ua : DTE} {pos p : Pos}
theorem de_all1 (hm : X.mg "all" = none) (ha : DE X a ta ua) (hc : X.calm = true := by rfl) (hg : Gl X "all" := by rfl) (hv : bootBuiltins "all" = some (.builtin "all") := by decide +kernel) (hs : starEach [a] X.env = (false, eval a X.env) :: starEach [] X.env := by rfl) (hpl : (backTo pos (starEach [] X.env)).any (·.1) = false := by rfl) :
    DE X (.Call (.Name "all" p) [a] [] pos) (tCB (rAll X.K) (tCons ta tNil)) (dBools (fun bs => bs.all id) ua) := ⟨pe_callB (cr_all hc) hg hm hv (pa_cons ha.pe pa_nil hs) (by decide) (by decide) hs hpl, re_bools (fun a bs H Q h q => ⟨a, bs, rfl, h, q⟩) ha.re⟩
theorem de_any1 (hm : X.mg "any" = none) (ha : DE X a ta ua) (hc : X.calm = true := by rfl) (hg : Gl X "any" := by rfl) (hv : bootBuiltins "any" = some (.builtin "any") := by decide +kernel) (hs : starEach [a] X.env = (false, eval a X.env) :: starEach [] X.env := by rfl) (hpl : (backTo pos (starEach [] X.env)).any (·.1) = false := by rfl) :
    DE X (.Call (.Name "any" p) [a] [] pos) (tCB (rAny X.K) (tCons ta tNil)) (dBools (fun bs => bs.any id) ua) := ⟨pe_callB (cr_any hc) hg hm hv (pa_cons ha.pe pa_nil hs) (by decide) (by decide) hs hpl, re_bools (fun a bs H Q h q => ⟨a, bs, rfl, h, q⟩) ha.re⟩
end
end TL

set_option Elab.async false
set_option linter.all false
set_option maxRecDepth 100000
set_option maxHeartbeats 4000000
/-! TLu: f-texts, pop, a text in a list that grows, written dicts of the module, repr of data, a sign in a text, truth. -/
namespace TL
open PySem PySem.Spec L2
variable [XW]

/-! ### f-texts -/
def dFmt (u : DTE) : DTE := fun δ R => u δ fun d δ1 => match d with
  | .str y => y.length ≤ sizeLine ∧ R (.str y) δ1
  | .int i => i.natAbs.log2 < 1920 ∧ R (.str (toString i)) δ1
  | _ => False
def dJs : List DTE → Str → List Sl → (Str → List Sl → Prop) → Prop
  | [], acc, δ, R => R acc δ
  | u :: us, acc, δ, R => u δ fun d δ1 => match d with
    | .str y => (acc ++ y).length ≤ sizeLine ∧ dJs us (acc ++ y) δ1 R
    | _ => False
def dJoined (us : List DTE) : DTE := fun δ R => dJs us Str.empty δ fun out δ1 => R (.str out) δ1
inductive DJ (X : Cx) : List Expr → List TE → List DTE → Prop where
  | nil : DJ X [] [] []
  | cons {e : Expr} {t : TE} {u : DTE} {es : List Expr} {ts : List TE} {us : List DTE} (h : DE X e t u) (r : DJ X es ts us) : DJ X (e :: es) (t :: ts) (u :: us)
theorem DJ.pj {X : Cx} {es : List Expr} {ts : List TE} {us : List DTE} (h : DJ X es ts us) : PJ X es ts := by
  induction h with
  | nil => exact .nil
  | cons h _ ih => exact .cons h.pe ih
theorem DJ.rj {X : Cx} {es : List Expr} {ts : List TE} {us : List DTE} (h : DJ X es ts us) : ∀ (c : Cf) (σ : L2.St) (G H : Hp) (δ : List Sl) (acc : Str) (Q : Str → Hp → Prop) (R : Str → List Sl → Prop), EnvOk X.K c G H σ δ → dJs us acc δ R →
    (∀ out δ' G' H', R out δ' → EnvOk X.K c G' H' σ δ' → Ex G G' → Q out H') → tJs ts acc σ H Q := by
  induction h with
  | nil =>
    intro c σ G H δ acc Q R E h k
    exact k acc δ G H h E (Ex.refl _)
  | cons h _ ih =>
    intro c σ G H δ acc Q R E hh k
    refine h.re c σ G H δ _ _ E hh fun d δ1 v G1 H1 h1 E1 e1 r1 => ?_
    cases d <;> first
      | exact False.elim h1
      | skip
    exact ⟨_, r1.str_of, h1.1, ih c σ G1 H1 δ1 _ Q R E1 h1.2 fun out δ' G' H' a b e => k out δ' G' H' a b (e1.trans e)⟩
section
variable {X : Cx} {e v1 v2 : Expr} {rest : List Expr} {te : TE} {ue : DTE} {ts : List TE} {us : List DTE} {pos : Pos}
theorem re_fmt {K : PySem.W.Frag} (ha : RE K te ue) : RE K (tFmt te) (dFmt ue) := by
  intro c σ G H δ Q R E h k
  refine ha c σ G H δ _ _ E h fun d δ1 v G1 H1 h1 E1 e1 r1 => ?_
  cases d <;> first
    | exact False.elim h1
    | skip
  · exact .inr ⟨_, r1.int_of, h1.1, k _ δ1 _ G1 H1 h1.2 E1 e1 (.str _)⟩
  · exact .inl ⟨_, r1.str_of, h1.1, k _ δ1 _ G1 H1 h1.2 E1 e1 (.str _)⟩
theorem de_fmt (h : DE X e te ue) : DE X (.FormattedValue e (-1) none pos) (tFmt te) (dFmt ue) := ⟨pe_fmt h.pe, re_fmt h.re⟩
theorem dj_nil : DJ X [] [] [] := .nil
theorem dj_cons (h : DE X e te ue) (r : DJ X rest ts us) : DJ X (e :: rest) (te :: ts) (ue :: us) := .cons h r
theorem de_joined (h : DJ X (v1 :: v2 :: rest) ts us) : DE X (.JoinedStr (v1 :: v2 :: rest) pos) (fun σ H Q => tJs ts Str.empty σ H fun out H1 => Q (.str out) H1) (dJoined us) :=
  ⟨pe_joined h.pj, fun c σ G H δ Q R E hh k => h.rj c σ G H δ Str.empty _ _ E hh fun out δ' G' H' a b e => k _ δ' _ G' H' a b e (.str _)⟩
end

/-! ### pop -/
def dPop (i : Nat) : DTE := fun δ R => match δ[i]? with
  | some (.own t ds) => (match ds.getLast? with
    | some d => R d (δ.set i (.own t ds.dropLast))
    | none => False)
  | _ => False
theorem RpAll.init {K : PySem.W.Frag} {G : Hp} : ∀ {vs : List V} {ds : List PyData}, RpAll K G vs ds → RpAll K G vs.dropLast ds.dropLast
  | _, _, .nil => .nil
  | _, _, .cons _ .nil => .nil
  | _, _, .cons r (.cons q t) => .cons r (RpAll.init (.cons q t))
theorem re_pop {K : PySem.W.Frag} {i : Nat} : RE K (tBM0 K "list" rPop (tVar i)) (dPop i) := by
  intro c σ G H δ Q R E h k
  unfold dPop at h
  cases hs : δ[i]? with
  | none =>
    rw [hs] at h
    exact False.elim h
  | some s =>
    rw [hs] at h
    cases s <;> first
      | exact False.elim h
      | skip
    rename_i t ds
    have h : (match ds.getLast? with
      | some d => R d (δ.set i (.own t ds.dropLast))
      | none => False) := h
    obtain ⟨p, xs, e, hg, hh, r, _⟩ := E.sl i _ hs
    cases q : ds.getLast? with
    | none =>
      rw [q] at h
      exact False.elim h
    | some d =>
      rw [q] at h
      have hd : ds[ds.length - 1]? = some d := by rw [← List.getLast?_eq_getElem?]; exact q
      obtain ⟨v, hv, rv⟩ := r.get hd
      refine ⟨.ref p, e, .inl ⟨rfl, _, .inl (.inl hh)⟩, p, xs, v, rfl, rfl, hh, by rw [r.len]; exact hv, ?_⟩
      exact k d _ v G _ h (E.poke hs e (RpAll.init r)) (Ex.refl _) rv
/-! ### xs[k] += text -/
def dAugI (i : Nat) (ui u : DTE) (f : PyData → PyData → (PyData → Prop) → Prop) : DTS := fun E δ => (slL δ[i]?).isSome = true ∧ ui δ fun di δ1 => match δ1[i]?, di with
  | some (.own _ ds), .int k => (match ixN ds.length k with
    | some j => (match ds[j]? with
      | some old => u δ1 fun d δ2 => f old d fun new => (match δ2[i]? with
        | some (.own t2 ds2) => (match ixN ds2.length k with
          | some j2 => E.nx (δ2.set i (.own t2 (ds2.set j2 new)))
          | none => False)
        | _ => False)
      | none => False)
    | none => False)
  | _, _ => False
/-- an operation in place, of data that are laid nowhere anew -/
def RIp (K : PySem.W.Frag) (r : TIp) (rd : R2D) : Prop := RO K r rd
theorem get_own {K : PySem.W.Frag} {G : Hp} {xs : List V} {ds : List PyData} (r : RpAll K G xs ds) {k : Int} {j : Nat} {d : PyData} (h : ixN ds.length k = some j) (hd : ds[j]? = some d) : ∃ v, atI xs k = some v ∧ Rp K G v d := by
  refine at_rp r ?_
  unfold atI
  rw [h]
  exact hd
theorem rs_augI {K : PySem.W.Frag} {i : Nat} {ti te : TE} {ui ue : DTE} {r : TIp} {rd : R2D} (hi : RE K ti ui) (ha : RE K te ue) (hr : RO K r rd) : RS K (tAugS (tVar i) ti te (rIxL K) r rSetL) (dAugI i ui ue rd) := by
  intro c σ G H δ D E EV h k
  obtain ⟨hsome, h⟩ := h
  obtain ⟨ds0, h0⟩ := Option.isSome_iff_exists.mp hsome
  obtain ⟨p, xs0, hv, _, _⟩ := slL_ok EV h0
  refine ⟨.ref p, hv, ?_⟩
  refine hi c σ G H δ _ _ EV h fun di δ1 y G1 H1 h1 E1 e1 r1 => ?_
  cases hs : δ1[i]? with
  | none =>
    rw [hs] at h1
    exact False.elim h1
  | some s =>
    rw [hs] at h1
    cases s <;> first
      | exact False.elim h1
      | skip
    rename_i tg ds
    cases di <;> first
      | exact False.elim h1
      | skip
    rename_i kk
    have h1 : (match ixN ds.length kk with
      | some j => (match ds[j]? with
        | some old => ue δ1 fun d δ2 => rd old d fun new => (match δ2[i]? with
          | some (.own t2 ds2) => (match ixN ds2.length kk with
            | some j2 => E.nx (δ2.set i (.own t2 (ds2.set j2 new)))
            | none => False)
          | _ => False)
        | none => False)
      | none => False) := h1
    obtain ⟨p', xs, e, hg, hh, rr, q⟩ := E1.sl i _ hs
    have e' := e
    rw [hv] at e'
    have ev := V.ref.inj (Option.some.inj (Option.some.inj e'))
    subst ev
    cases q1 : ixN ds.length kk with
    | none =>
      rw [q1] at h1
      exact h1.elim
    | some j =>
      rw [q1] at h1
      have h1 : (match ds[j]? with
        | some old => ue δ1 fun d δ2 => rd old d fun new => (match δ2[i]? with
          | some (.own t2 ds2) => (match ixN ds2.length kk with
            | some j2 => E.nx (δ2.set i (.own t2 (ds2.set j2 new)))
            | none => False)
          | _ => False)
        | none => False) := h1
      cases q2 : ds[j]? with
      | none =>
        rw [q2] at h1
        exact h1.elim
      | some old =>
        rw [q2] at h1
        obtain ⟨v, av, rv⟩ := get_own rr q1 q2
        refine ⟨p, xs, kk, v, rfl, r1.int_of, .inl (.inl hh), av, ?_⟩
        refine ha c σ G1 H1 δ1 _ _ E1 h1 fun d δ2 z G2 H2 h2 E2 e2 r2 => ?_
        refine hr G2 H2 v z old d _ _ E2.ex (rv.up e2) r2 h2 fun new w G3 H3 h3 A r3 => ?_
        have E3 := E2.al A
        cases hs2 : δ2[i]? with
        | none =>
          rw [hs2] at h3
          exact False.elim h3
        | some s2 =>
          rw [hs2] at h3
          cases s2 <;> first
            | exact False.elim h3
            | skip
          rename_i t2 ds2
          have h3 : (match ixN ds2.length kk with
            | some j2 => E.nx (δ2.set i (.own t2 (ds2.set j2 new)))
            | none => False) := h3
          obtain ⟨p2, ys, e3, hg3, hh3, rr3, _⟩ := E3.sl i _ hs2
          have e3' := e3
          rw [hv] at e3'
          have ev3 := V.ref.inj (Option.some.inj (Option.some.inj e3'))
          subst ev3
          cases q3 : ixN ds2.length kk with
          | none =>
            rw [q3] at h3
            exact h3.elim
          | some j2 =>
            rw [q3] at h3
            refine ⟨p, ys, kk, j2, rfl, r1.int_of, hh3, by rw [rr3.len]; exact q3, ?_⟩
            exact k.nx σ G3 _ _ h3 (E3.poke hs2 hv (RpAll.set r3 j2 rr3)) ((e1.trans e2).trans A.g)
theorem pget_list {X : Cx} : PGet X (rIxL X.K) := by
  intro pins s σ H x y v u Q I rx ry h
  obtain ⟨p, xs, i, z, rfl, rfl, hq, he, q⟩ := h
  cases rx
  obtain ⟨t, rfl⟩ := ry
  obtain ⟨its, r, pl, hz⟩ := I.list hq
  obtain ⟨j, h1, h2, h3, h4, h5⟩ := atI_get he
  obtain ⟨w, ew, rw'⟩ := r.get h2
  have hl := r.length
  have hn := line63
  have fin : EP X pins σ Q w s := ⟨z, H, I, rw', q⟩
  have sz : its.toArray.size = its.length := List.size_toArray
  by_cases h0 : 0 ≤ i
  · have hj : i.toNat = j := by
      rw [seqIndex_of h0 h5] at h1
      exact Option.some.inj h1
    exact wpAny_getItem_list pl.isList h0 (by omega) (by rw [hj]; simpa using ew) fin
  · have hj : (i + (its.toArray.size : Int)).toNat = j := by
      rw [seqIndex_neg (by omega) h4] at h1
      rw [sz, ← hl]
      exact Option.some.inj h1
    exact wpAny_getItem_list_neg pl.isList (by omega) (by omega) (by omega) (by rw [hj]; simpa using ew) fin
/-- name += text -/
def dAugT (i : Nat) (u : DTE) : DTS := fun E δ => match δ[i]? with
  | some (.dat (.str a)) => u δ fun d δ1 => (match d with
    | .str b => a.length + b.length ≤ sizeLine ∧ E.nx (δ1.set i (.dat (.str (a ++ b))))
    | _ => False)
  | _ => False
def rAddT : TIp := fun x y H Q => ∃ i j, x = .str i ∧ y = .str j ∧ i.length + j.length ≤ sizeLine ∧ Q (.str (i ++ j)) H
theorem rs_augT {K : PySem.W.Frag} {i : Nat} {te : TE} {ue : DTE} (ha : RE K te ue) : RS K (tAug i te rAddT) (dAugT i ue) := by
  intro c σ G H δ D E EV h k
  unfold dAugT at h
  cases hs : δ[i]? with
  | none =>
    rw [hs] at h
    exact False.elim h
  | some s =>
    rw [hs] at h
    have z := EV.sl i s hs
    cases s <;> first
      | exact False.elim h
      | skip
    rename_i d0
    cases d0 <;> first
      | exact False.elim h
      | skip
    rename_i a
    obtain ⟨x, e, rx⟩ := z
    have ex := rx.str_of
    subst ex
    refine ⟨_, e, ?_⟩
    refine ha c σ G H δ _ _ EV h fun d δ1 v G1 H1 h1 E1 e1 r => ?_
    cases d <;> first
      | exact False.elim h1
      | skip
    rename_i b
    exact ⟨a, b, rfl, r.str_of, h1.1, k.nx _ G1 H1 _ h1.2 (E1.put (.str _)) e1⟩
/-! ### a sign in a text; truth -/
def dInT (neg : Bool) : R2D := fun a b R => match a, b with
  | .str x, .str z => (match x.cps.toList with
    | [c] => R (.bool (if neg = true then !decide (c ∈ z.cps.toList) else decide (c ∈ z.cps.toList)))
    | _ => False)
  | _, _ => False
theorem one_of {x : Str} {c : Nat} (h : x.cps.toList = [c]) : x = ⟨#[c]⟩ := by
  cases x
  rename_i a
  have : a = #[c] := by
    apply Array.toList_inj.mp
    exact h
  rw [this]
theorem ro_inT (neg : Bool) {K : PySem.W.Frag} {r : R2} (hr : ∀ (c : Nat) (z : Str) (H : Hp) (Q : VK), Q (.bl (if neg = true then !decide (c ∈ z.cps.toList) else decide (c ∈ z.cps.toList))) H → r (.str ⟨#[c]⟩) (.str z) H Q) : RO K r (dInT neg) := by
  intro G H x y d1 d2 Q R e r1 r2 h k
  cases d1 <;> cases d2 <;> first
    | exact False.elim h
    | skip
  rename_i x z
  have e1 := r1.str_of
  have e2 := r2.str_of
  subst e1 e2
  have h : (match x.cps.toList with
    | [c] => R (.bool (if neg = true then !decide (c ∈ z.cps.toList) else decide (c ∈ z.cps.toList)))
    | _ => False) := h
  match q : x.cps.toList, h with
  | [c], h =>
    rw [one_of q]
    exact hr c z H Q (k _ _ G H h (Al.refl e) (.bl _))
theorem ro_inS {K : PySem.W.Frag} : RO K rInS (dInT false) := ro_inT false fun c z H Q q => ⟨c, z, rfl, rfl, q⟩
theorem ro_notInS {K : PySem.W.Frag} : RO K rNotInS (dInT true) := ro_inT true fun c z H Q q => ⟨c, z, rfl, rfl, q⟩
/-- the truth of a text, a list, a tuple, a truth -/
def dTru (u : DTE) : DTT := fun δ R => u δ fun d δ1 => match d with
  | .bool b => R b δ1
  | .str x => x.length ≤ sizeLine ∧ R ((x.length : Int) != 0) δ1
  | .int i => R (i != 0) δ1
  | .list ds => R (!ds.isEmpty) δ1
  | .tuple ds => R (!ds.isEmpty) δ1
  | .none => R false δ1
  | _ => False
theorem empty_rp {K : PySem.W.Frag} {G : Hp} {xs : List V} {ds : List PyData} (r : RpAll K G xs ds) : xs.isEmpty = ds.isEmpty := by
  cases r <;> rfl
theorem rt_tru {K : PySem.W.Frag} {te : TE} {ue : DTE} (ha : RE K te ue) : RT K (fun σ H Q => te σ H fun x H' => ∃ k, TruV K x H' k ∧ Q k H') (dTru ue) := by
  intro c σ G H δ Q R E h k
  refine ha c σ G H δ _ _ E h fun d δ1 v G1 H1 h1 E1 e1 r1 => ?_
  cases d <;> first
    | exact False.elim h1
    | skip
  · rw [r1.non_of]
    exact ⟨false, rfl, k _ δ1 G1 H1 h1 E1 e1⟩
  · rw [r1.bl_of]
    exact ⟨_, rfl, k _ δ1 G1 H1 h1 E1 e1⟩
  · rw [r1.int_of]
    exact ⟨_, rfl, k _ δ1 G1 H1 h1 E1 e1⟩
  · rw [r1.str_of]
    exact ⟨_, ⟨h1.1, rfl⟩, k _ δ1 G1 H1 h1.2 E1 e1⟩
  · obtain ⟨a, xs, rfl, q1, q2⟩ := r1.lst_of
    exact ⟨_, .inl ⟨xs, .inl (.inl (E1.ex _ _ q1)), rfl⟩, by rw [empty_rp q2]; exact k _ δ1 G1 H1 h1 E1 e1⟩
  · obtain ⟨a, xs, rfl, q1, q2⟩ := r1.tup_of
    exact ⟨_, .inr (.inl ⟨xs, .inl (.inl (E1.ex _ _ q1)), rfl⟩), by rw [empty_rp q2]; exact k _ δ1 G1 H1 h1 E1 e1⟩
/-! ### repr of data -/
def rRepr (K : PySem.W.Frag) : List V → Hp → VK → Prop := fun xs H Q => ∃ x d, xs = [x] ∧ Dp K H x d ∧ SeqAt.shaped d = true ∧ d.showable = true ∧ d.shown.length ≤ sizeLine ∧ Q (.str d.shown) H
theorem call_reprD {X : Cx} (hg : X.A.guards = some []) (hu : X.A.units + 65 < cLine) : CallR X (.builtin "repr") (rRepr X.K) := by
  intro pins s σ H xs us Q I r h
  obtain ⟨x, d, rfl, hd, sh, hs, hz, q⟩ := h
  obtain ⟨u, rfl, ru⟩ := L2.vals1 r
  have lay := SeqAt.canLay_of_shaped sh
  have dep : d.depth ≤ 64 := by
    have z : (d.canLay0 && decide (d.depth ≤ 64)) = true := sh
    rw [Bool.and_eq_true] at z
    exact of_decide_eq_true z.2
  obtain ⟨as, rd⟩ := Dp.reads I d x u hd ru
  have nod := PyData.noDict_hsm (as := as) (PyData.hasDict_of_canLay d lay)
  have big : ∀ (a : Addr), u = .ref a → wpAny (model X.prog X.w) X.A (call (.builtin "repr") [u]) (EP X pins σ Q) X.xe s := fun a e => by
    subst e
    exact repr_of_reads' rd hs nod hg (by omega) (fun _ _ e => e) (fun h' u tk hk => ⟨.str d.shown, H, I.kept hk, ⟨_, rfl⟩, q⟩) hz
  cases hd with
  | non =>
    obtain rfl : u = Value.none := ru
    exact PySem.P.repr_of_none ⟨.str (PyData.shown .none), H, I.tok _, ⟨_, rfl⟩, q⟩
  | bl b =>
    obtain rfl : u = Value.bool b := ru
    exact PySem.P.repr_of_bool ⟨.str (PyData.shown (.bool b)), H, I.tok _, ⟨_, rfl⟩, q⟩
  | int i =>
    obtain ⟨t, rfl⟩ := ru
    exact PySem.P.repr_of_int (of_decide_eq_true hs) ⟨.str (PyData.shown (.int i)), H, I.tok _, ⟨_, rfl⟩, q⟩
  | str y =>
    obtain ⟨t, rfl⟩ := ru
    exact PySem.P.repr_of_str ⟨.str (PyData.shown (.str y)), H, I.tok _, ⟨_, rfl⟩, q⟩ hz
  | lst _ _ => exact big _ ru
  | tup _ _ => exact big _ ru
def dRepr (u : DTE) : DTE := fun δ R => u δ fun d δ1 => SeqAt.shaped d = true ∧ d.showable = true ∧ d.shown.length ≤ sizeLine ∧ R (.str d.shown) δ1
theorem re_repr {K : PySem.W.Frag} {te : TE} {ue : DTE} (ha : RE K te ue) : RE K (tCB (rRepr K) (tCons te tNil)) (dRepr ue) := by
  intro c σ G H δ Q R E h k
  refine ha c σ G H δ _ _ E h fun d δ1 v G1 H1 h1 E1 e1 r1 => ?_
  exact ⟨v, d, rfl, (r1.up E1.ex).dp _ _ (SeqAt.canLay_of_shaped h1.1), h1.1, h1.2.1, h1.2.2.1, k _ δ1 _ G1 H1 h1.2.2.2 E1 e1 (.str _)⟩
/-! ### a written dict of the module -/
def rGetK (K : PySem.W.Frag) (d : Addr) : R2 := fun x y H Q => ∃ (z : Str) (u0 : Value) (v0 : V), x = .ref d ∧ y = .str z ∧ PySem.W.nsIn K d z = some (some u0) ∧ RelV v0 u0 ∧ Q v0 H
/-- D[text]: m tells the datum at a text -/
def dGetK (m : Str → Option PyData) (u : DTE) : DTE := fun δ R => u δ fun d δ1 => match d with
  | .str z => (match m z with
    | some x => R x δ1
    | none => False)
  | _ => False
/-- the dict at d tells what m tells, of texts alone -/
def KMap (K : PySem.W.Frag) (d : Addr) (m : Str → Option PyData) : Prop := ∀ z x, m z = some x → ∃ u0 v0, PySem.W.nsIn K d z = some (some u0) ∧ RelV v0 u0 ∧ ∀ G, Rp K G v0 x
theorem re_getK {K : PySem.W.Frag} {d : Addr} {m : Str → Option PyData} {te : TE} {ue : DTE} (hm : KMap K d m) (ha : RE K te ue) : RE K (tOp (rGetK K d) (tC (.ref d)) te) (dGetK m ue) := by
  intro c σ G H δ Q R E h k
  refine ha c σ G H δ _ _ E h fun y δ1 v G1 H1 h1 E1 e1 r1 => ?_
  cases y <;> first
    | exact False.elim h1
    | skip
  rename_i z
  have h1 : (match m z with
    | some x => R x δ1
    | none => False) := h1
  cases q : m z with
  | none =>
    rw [q] at h1
    exact h1.elim
  | some x =>
    rw [q] at h1
    obtain ⟨u0, v0, a1, a2, a3⟩ := hm z x q
    exact ⟨z, u0, v0, rfl, r1.str_of, a1, a2, k _ δ1 _ G1 H1 h1 E1 e1 (a3 G1)⟩
section
variable {X : Cx} {a b e : Expr} {ta tb te : TE} {ua ub ue : DTE} {pos p p2 : Pos}
theorem ix_getK {d : Addr} {es : Array DictEntry} {n : Nat} (D : KDict X.K X.w d es n) : IxR X (rGetK X.K d) := by
  intro value slice pins s σ H x y v u Q I rx ry h hs
  have h' := h
  obtain ⟨z, u0, v0, rfl, rfl, _⟩ := h'
  have rx' : v = .ref d := rx
  subst rx'
  exact PyProof.Rows.tail_any (kd_type D I) F.slot_dict_getitem.lookup (op_item_kd D pins s σ H _ _ _ _ Q I rx ry h) hs
theorem de_getK {x : Str} {d : Addr} {es : Array DictEntry} {n : Nat} {m : Str → Option PyData} (D : KDict X.K X.w d es n) (hm : KMap X.K d m) (hx : X.mg x = some (.ref d)) (hb : DE X b tb ub) (hg : Gl X x := by rfl) (hd : (x == ("__debug__" : Str)) = false := by decide)
    (hs : PlainIx b := by exact fun _ _ => rfl) : DE X (.Subscript (.Name x p) b pos) (tOp (rGetK X.K d) (tC (.ref d)) tb) (dGetK m ub) := ⟨pe_ix (ix_getK D) (pe_glob hg hx rfl hd) hb.pe hs, re_getK hm hb.re⟩
theorem de_repr1 (hm : X.mg "repr" = none) (hgd : X.A.guards = some []) (hu : X.A.units + 65 < cLine) (ha : DE X a ta ua) (hg : Gl X "repr" := by rfl) (hv : bootBuiltins "repr" = some (.builtin "repr") := by decide +kernel) (hs : starEach [a] X.env = (false, eval a X.env) :: starEach [] X.env := by rfl) (hpl : (backTo pos (starEach [] X.env)).any (·.1) = false := by rfl) :
    DE X (.Call (.Name "repr" p) [a] [] pos) (tCB (rRepr X.K) (tCons ta tNil)) (dRepr ua) := ⟨pe_callB (call_reprD hgd hu) hg hm hv (pa_cons ha.pe pa_nil hs) (by decide) (by decide) hs hpl, re_repr ha.re⟩
theorem dt_tru (h : DE X e te ue) (he : ∀ whole, isTrue e X.env whole = (do let v ← whole; standAt e.pos; holding [v] (truthy v)) := by intro _; rfl) : DT X e (fun σ H Q => te σ H fun x H' => ∃ k, TruV X.K x H' k ∧ Q k H') (dTru ue) := ⟨pt_truth h.pe he, rt_tru h.re⟩
theorem ds_augT (i : Nat) {x : Str} (hN : X.N.Nodup) (he : DE X e te ue) (hi : X.N[i]? = some x := by rfl) (hx : Loc X.env.scope x := by first | exact Or.inl rfl | exact Or.inr rfl)
    (hf : X.fn x = true ∨ X.env.scope.names.lookup x = some .local := by first | exact .inl rfl | exact .inr rfl | assumption) : DS X (.AugAssign (.Name x p) .Add e pos) (tAug i te rAddT) (dAugT i ue) := ⟨ps_aug hN hi hx he.pe iop_add_str hf, rs_augT he.re⟩
theorem ds_augI (i : Nat) {x : Str} (hb : DE X b tb ub) (he : DE X e te ue) (hN : X.N[i]? = some x := by rfl) (hv : Vis X.env.scope x := by first | exact Or.inl rfl | exact Or.inr (Or.inl rfl) | exact Or.inr (Or.inr rfl)) (hd : (x == ("__debug__" : Str)) = false := by decide)
    (hcd : (x == ("__classdict__" : Str)) = false := by decide) (ha : ∀ ov iv new, augStore b ov iv new = (do holding [new, ov, iv] (setItem ov iv new); release [new, ov, iv] []; pure .next) := by intros; rfl) :
    DS X (.AugAssign (.Subscript (.Name x p) b p2) .Add e pos) (tAugS (tVar i) tb te (rIxL X.K) rAddT rSetL) (dAugI i ub ue dAddS) := ⟨ps_augS (pe_var hN hv hd hcd) hb.pe pget_list he.pe iop_add_str set_list ha, rs_augI hb.re he.re ro_addS⟩
theorem de_pop (i : Nat) {x : Str} {apos : Pos} (pb : PE X (.Call (.Attribute (.Name x p) "pop" apos) [] [] pos) (tBM0 X.K "list" rPop (tVar i))) : DE X (.Call (.Attribute (.Name x p) "pop" apos) [] [] pos) (tBM0 X.K "list" rPop (tVar i)) (dPop i) := ⟨pb, re_pop⟩
end
end TL

set_option Elab.async false
set_option linter.all false
set_option maxRecDepth 100000
set_option maxHeartbeats 4000000
/-! TLv: calls that may change two lists. -/
namespace TL
open PySem PySem.Spec L2
variable [XW]
theorem asOf_app (δ : List Sl) : ∀ (ds : List PyData) (cs : List CA) (j : Nat), asOf δ (ds.map CA.d ++ cs) j = ds.map Sl.dat ++ asOf δ cs j
  | [], _, _ => rfl
  | d :: r, cs, j => by
    show Sl.dat d :: asOf δ (r.map CA.d ++ cs) j = _
    rw [asOf_app δ r cs j]
    rfl
theorem muts_app (δ : List Sl) : ∀ (ds : List PyData) (cs : List CA), muts δ (ds.map CA.d ++ cs) = muts δ cs
  | [], _ => rfl
  | d :: r, cs => muts_app δ r cs
theorem call_own2 {S : DSp} {ua : DCA} {δ δ' : List Sl} {R : DQ} {i j : Nat} {t1 t2 : Option Nat} {c1 c2 : List PyData} (ds : List PyData) (hu : ∀ Q : List CA → List Sl → Prop, Q (ds.map CA.d ++ [.s i, .s j]) δ' → ua δ Q) (hij : i ≠ j) (hi : δ'[i]? = some (.own t1 c1)) (hj : δ'[j]? = some (.own t2 c2)) (mono : MonoS S)
    (k : S (ds.map Sl.dat ++ [.own (some 0) c1, .own (some 1) c2]) fun d outs => ∃ o1 o2, outs = [o1, o2] ∧ R d ((δ'.set i (.own t1 o1)).set j (.own t2 o2))) : dCall S ua δ R := by
  have m1 : muts δ' [.s i, .s j] = [i, j] := by
    show (match δ'[i]? with
      | some (.own _ _) => i :: muts δ' [.s j]
      | _ => muts δ' [.s j]) = _
    rw [hi]
    show i :: (match δ'[j]? with
      | some (.own _ _) => j :: muts δ' []
      | _ => muts δ' []) = _
    rw [hj]
    rfl
  have a1 : asOf δ' [.s i, .s j] 0 = [.own (some 0) c1, .own (some 1) c2] := by
    show (match δ'[i]? with
      | some (.own _ ds) => Sl.own (some 0) ds :: asOf δ' [.s j] 1
      | some (.scr ds) => .scr ds :: asOf δ' [.s j] 0
      | _ => .no :: asOf δ' [.s j] 0) = _
    rw [hi]
    show Sl.own (some 0) c1 :: (match δ'[j]? with
      | some (.own _ ds) => Sl.own (some 1) ds :: asOf δ' [] 2
      | some (.scr ds) => .scr ds :: asOf δ' [] 1
      | _ => .no :: asOf δ' [] 1) = _
    rw [hj]
    rfl
  refine hu _ ?_
  rw [muts_app, asOf_app, m1, a1]
  refine ⟨by simp [hij], mono _ _ _ (fun d o h => ?_) k⟩
  obtain ⟨o1, o2, rfl, h⟩ := h
  refine ⟨rfl, ?_⟩
  have e : setOuts δ' [i, j] [o1, o2] = (δ'.set i (.own t1 o1)).set j (.own t2 o2) := by
    show setOut (setOut δ' i o1) j o2 = _
    have e1 : setOut δ' i o1 = δ'.set i (.own t1 o1) := by
      unfold setOut
      rw [hi]
    have e2 : (δ'.set i (.own t1 o1))[j]? = some (.own t2 c2) := by rw [List.getElem?_set_ne hij, hj]
    rw [e1]
    unfold setOut
    rw [e2]
  rw [e]
  exact h
/-- a call by data alone, whose arguments change lists -/
theorem call_pure2 {S : DSp} {ua : DCA} {δ δ' : List Sl} {R : DQ} (ds : List PyData) (hu : ∀ Q : List CA → List Sl → Prop, Q (ds.map CA.d) δ' → ua δ Q) (mono : MonoS S) (k : S (ds.map Sl.dat) fun d outs => outs = [] ∧ R d δ') : dCall S ua δ R := by
  refine hu _ ?_
  rw [muts_d, asOf_d]
  refine ⟨List.nodup_nil, mono _ _ _ (fun d o h => ?_) k⟩
  obtain ⟨rfl, h⟩ := h
  exact ⟨rfl, h⟩
theorem pop_at {δ : List Sl} {i : Nat} {t : Option Nat} {l : List PyData} {x : PyData} {R : DQ} (h : δ[i]? = some (.own t (l ++ [x]))) (k : R x (δ.set i (.own t l))) : dPop i δ R := by
  unfold dPop
  rw [h]
  show (match (l ++ [x]).getLast? with
    | some d => R d (δ.set i (.own t (l ++ [x]).dropLast))
    | none => False)
  rw [List.getLast?_append, List.dropLast_append_of_ne_nil (by simp)]
  simpa using k
/-- two texts -/
def dEqT : R2D := fun a b R => match a, b with
  | .str x, .str y => R (.bool (x == y))
  | _, _ => False
theorem ro_eqT {K : PySem.W.Frag} : RO K rEq dEqT := by
  intro G H x y d1 d2 Q R e r1 r2 h k
  cases d1 <;> cases d2 <;> first
    | exact False.elim h
    | skip
  have e1 := r1.str_of
  have e2 := r2.str_of
  subst e1 e2
  refine ⟨rfl, ?_⟩
  rw [dec_str]
  exact k _ _ G H h (Al.refl e) (.bl _)
/-- outs of two lists that were handed on -/
theorem outs2 {δ : List Sl} {a b : List PyData} (i j : Nat) (h0 : δ[i]? = some (.own (some 0) a)) (h1 : δ[j]? = some (.own (some 1) b)) : OutsIn δ [a, b] := by
  intro q cs hq
  rcases q with _ | _ | q
  · exact ⟨i, by rw [show cs = a by simpa using hq.symm]; exact h0⟩
  · exact ⟨j, by rw [show cs = b by simpa using hq.symm]; exact h1⟩
  · simp at hq
end TL

set_option Elab.async false
set_option linter.all false
set_option maxRecDepth 100000
set_option maxHeartbeats 2000000
/-! TLw: zip of two texts; repr of data with empty dicts in it; a tuple held against the empty one; get of a written dict; a list told again and again; tuple of a list; all of truths. -/
namespace TL
open PySem PySem.Spec L2
variable [XW]

/-! ### zip of two texts -/
def ItzS (x y : Str) : It :=
  ⟨fun i _ => i < x.cps.size ∧ i < y.cps.size,
    fun i H v H' => ∃ T c d, v = .ref T ∧ H T = none ∧ H' = upd H T (.tup [.str ⟨#[c]⟩, .str ⟨#[d]⟩]) ∧ x.cps[i]? = some c ∧ y.cps[i]? = some d,
    fun i _ => i = min x.cps.size y.cps.size⟩
theorem turn_zipS {P : Program} {w : World} {K : PySem.W.Frag} {elts : List Expr} {kk : Nat} {tpos : Pos} {z zi zo i1 i2 : Addr} {x y : Str} {t u : Tok} (D : ZipSep2 z zi zo i1 i2 [i1] [i2]) :
    Turn P w K (.Tuple elts kk tpos) (ItzS x y) [z, zi, zo, i1, i2] z (fun i h => IsZip h z zi zo .none ∧ IsTupOf2 h zi (.ref i1) (.ref i2) ∧ (∃ a b, IsTupOf2 h zo a b) ∧ h.IsStrIter i1 (strIterType x) x t i ∧ h.IsStrIter i2 (strIterType y) y u i) where
  mem := by simp
  obj := fun i h st c hc => by
    obtain ⟨hz, hTI, ⟨x0, y0, hTO⟩, ⟨o1, e1, c1, d1⟩, ⟨o2, e2, c2, d2⟩⟩ := st
    have e' : c = z ∨ c = zi ∨ c = zo ∨ c = i1 ∨ c = i2 := by simpa using hc
    rcases e' with q | q | q | q | q
    · rw [q]; exact ⟨_, hz, fun v q => nomatch q⟩
    · rw [q]; exact ⟨_, hTI, fun v q => nomatch q⟩
    · rw [q]; exact ⟨_, hTO, fun v q => nomatch q⟩
    · rw [q]; exact ⟨o1, e1, fun v q => by rw [d1] at q; cases q⟩
    · rw [q]; exact ⟨o2, e2, fun v q => by rw [d2] at q; cases q⟩
  keep := fun i h h' st k => by
    obtain ⟨hz, hTI, ⟨x0, y0, hTO⟩, ⟨o1, e1, r1⟩, ⟨o2, e2, r2⟩⟩ := st
    exact ⟨k z (by simp) _ hz, k zi (by simp) _ hTI, ⟨x0, y0, k zo (by simp) _ hTO⟩, ⟨o1, k i1 (by simp) o1 e1, r1⟩, ⟨o2, k i2 (by simp) o2 e2, r2⟩⟩
  item := by
    intro X hP hw hK hc i pins s σ H E I hf st hg
    subst hP hw hK
    obtain ⟨hz, hTI, ⟨x0, y0, hTO⟩, h1, h2⟩ := st
    have hd : X.A.in1.handled = none := I.ok.hd hc
    have D1 := Draws.text (prog := X.prog) (w := X.w) hd i1 x t
    have D2 := Draws.text (prog := X.prog) (w := X.w) hd i2 y u
    have hzl : z < s.heap.objs.size := Heap.lt_size hz
    refine wpAny_pyNext_zipD2_item D D1 D2 hz hTI hTO h1 h2 hg.1 hg.2 fun v1 v2 h' tk y1 y2 z' TO' h1' h2' hT hsz hk => ?_
    obtain ⟨c, u1, hc1, rfl⟩ := y1
    obtain ⟨d, u2, hd1, rfl⟩ := y2
    refine ⟨_, rfl, wpAny_letOwnedTupleGo_zip (s := { s with heap := h', toks := tk }) z' fun h'' z'' sb => ?_⟩
    have hT2 : h''.get? s.heap.objs.size = some { cls := .type "tuple", data := .seq #[.str ⟨#[c]⟩ u1, .str ⟨#[d]⟩ u2] } := (sb.2 _ (Nat.ne_of_gt hzl)).trans hT
    have new : ObjOk X.prog X.w (upd H s.heap.objs.size (.tup [.str ⟨#[c]⟩, .str ⟨#[d]⟩])) h'' s.heap.objs.size (.tup [.str ⟨#[c]⟩, .str ⟨#[d]⟩]) :=
      ⟨by show 2 ≤ sizeLine; decide, [.str ⟨#[c]⟩ u1, .str ⟨#[d]⟩ u2], .cons ⟨u1, rfl⟩ (.cons ⟨u2, rfl⟩ .nil), ⟨_, hT2, rfl, _, rfl⟩⟩
    have I1 : Inv X pins σ (upd H s.heap.objs.size (.tup [.str ⟨#[c]⟩, .str ⟨#[d]⟩])) { s with heap := h'', toks := tk } :=
      I.turnedNew (t' := tk) (ch := [z, zi, zo, i1, i2]) (fun c o hb q => (sb.2 c (fun q' => hb (by simp [q']))).trans (hk c o (fun q' => hb (by simp [q'])) (fun q' => hb (by simp [q'])) (fun q' => hb (by simp [q'])) (fun q' => hb (by simp [q'])) q)) hf (Nat.le_refl _) new
    have i1z : i1 ≠ z := D.zi1.symm
    have i2z : i2 ≠ z := D.zi2.symm
    refine ⟨.ref s.heap.objs.size, _, I1, rfl, ⟨_, c, d, rfl, I.hok.fresh (Nat.le_refl _), rfl, hc1, hd1⟩, ⟨z'', ?_, ⟨.str ⟨#[c]⟩ u1, .str ⟨#[d]⟩ u2, ?_⟩, ?_, ?_⟩, fun c hcm => ?_⟩
    · exact (sb.2 _ D.TIz).trans (hk _ _ D.TIz D.TITO D.TIi1 D.TIi2 hTI)
    · exact (sb.2 _ D.TOz).trans TO'
    · obtain ⟨o, e, r⟩ := h1'; exact ⟨o, (sb.2 _ i1z).trans e, r⟩
    · obtain ⟨o, e, r⟩ := h2'; exact ⟨o, (sb.2 _ i2z).trans e, r⟩
    · have hlt : c < s.heap.objs.size := by
        have e' : c = z ∨ c = zi ∨ c = zo ∨ c = i1 ∨ c = i2 := by simpa using hcm
        rcases e' with q | q | q | q | q
        · rw [q]; exact hzl
        · rw [q]; exact Heap.lt_size hTI
        · rw [q]; exact Heap.lt_size hTO
        · rw [q]; obtain ⟨_, e1, _⟩ := h1; exact Heap.lt_size e1
        · rw [q]; obtain ⟨_, e2, _⟩ := h2; exact Heap.lt_size e2
      rw [upd_ne (Nat.ne_of_lt hlt)]
      exact (hf c hcm).1
  done := by
    intro X hP hw hK hc i pins s σ H E I hf st hg
    subst hP hw hK
    obtain ⟨hz, hTI, ⟨x0, y0, hTO⟩, h1, h2⟩ := st
    have hd : X.A.in1.handled = none := I.ok.hd hc
    have D1 := Draws.text (prog := X.prog) (w := X.w) hd i1 x t
    have D2 := Draws.text (prog := X.prog) (w := X.w) hd i2 y u
    have hg' : i = min x.cps.size y.cps.size := hg
    exact wpAny_pyNext_zipD2_end D D1 D2 hz hTI hTO h1 h2 (by omega) (by omega) (by omega) fun h' tk hk => ⟨rfl, I.turnedL (t' := tk) (ch := [z, zi, zo, i1, i2]) (fun c o hb q =>
      hk c o (fun q' => hb (by simp [q'])) (fun q' => hb (by simp [q'])) (fun q' => hb (by simp [q'])) (fun q' => hb (by simp [q'])) q) hf⟩
  self := fun A i s Q E st h => wpAny_pyIter_zip st.1 h
def iZipS (ta : TA) : L2.TI := fun σ H R => ta σ H fun vs H1 => ∃ x y, vs = [.str x, .str y] ∧ R (ItzS x y) H1
theorem pi_zipS {X : Cx} {e e2 : Expr} {ta : TA} {p pos tpos : Pos} {elts : List Expr} {kk : Nat} (hg : Gl X "zip") (hm : X.mg "zip" = none) (ha : PA X [e, e2] ta)
    (hs : starEach [e, e2] X.env = (false, eval e X.env) :: starEach [e2] X.env := by rfl) (hpl : (backTo pos (starEach [e2] X.env)).any (·.1) = false := by rfl) :
    PI X (.Tuple elts kk tpos) (.Call (.Name "zip" p) [e, e2] [] pos) (iZipS ta) := by
  refine ⟨fun pins s σ H R I h => ?_⟩
  refine PyProof.Rows.Call_ (ld_blt I hg hm PyProof.Rows.boot_zip (PyProof.Rows.callWith_type1 (thn (ha.run pos pins s σ H _ I h) fun us s1 ⟨vs, H1, I1, r1, q1⟩ => ?_) hs hpl))
  obtain ⟨x, y, ex, q1⟩ := q1
  subst ex
  cases r1 with
  | cons r rr =>
    cases rr with
    | cons r' rr =>
      cases rr
      obtain ⟨t, rfl⟩ := r
      obtain ⟨u, rfl⟩ := r'
      have fresh5 : ∀ c, c ∈ [s1.heap.objs.size + 4, s1.heap.objs.size + 2, s1.heap.objs.size + 3, s1.heap.objs.size, s1.heap.objs.size + 1] → FpOk X pins H1 c := fun c hcm => by
        have e' : c = s1.heap.objs.size + 4 ∨ c = s1.heap.objs.size + 2 ∨ c = s1.heap.objs.size + 3 ∨ c = s1.heap.objs.size ∨ c = s1.heap.objs.size + 1 := by simpa using hcm
        have hle : s1.heap.objs.size ≤ c := by
          rcases e' with z | z | z | z | z
          · rw [z]; exact Nat.le_add_right _ _
          · rw [z]; exact Nat.le_add_right _ _
          · rw [z]; exact Nat.le_add_right _ _
          · rw [z]; exact Nat.le_refl _
          · rw [z]; exact Nat.le_add_right _ _
        exact I1.fpOk hle (I1.hok.fresh hle)
      refine zip_begins2 (begins_text x t) (begins_text y u) trivial trivial fun h' hz hTI hTO h1 h2 hsz hk => wpAny_pyIter_zip hz ?_
      have I2 : Inv X pins σ H1 { s1 with heap := h' } := I1.kept (t' := s1.toks) hk
      have sep : ZipSep2 (s1.heap.objs.size + 4) (s1.heap.objs.size + 2) (s1.heap.objs.size + 3) s1.heap.objs.size (s1.heap.objs.size + 1) [s1.heap.objs.size] [s1.heap.objs.size + 1] := by
        constructor <;> simp
      exact ⟨s1.heap.objs.size + 4, [s1.heap.objs.size + 4, s1.heap.objs.size + 2, s1.heap.objs.size + 3, s1.heap.objs.size, s1.heap.objs.size + 1], _, _, H1, rfl, I2, turn_zipS (x := x) (y := y) (t := t) (u := u) sep, ⟨hz, hTI, ⟨_, _, hTO⟩, ⟨_, h1, rfl, rfl⟩, ⟨_, h2, rfl, rfl⟩⟩, fresh5, q1⟩
/-- the pairs of two texts -/
def zipS (x y : Str) : List PyData := (x.cps.toList.zip y.cps.toList).map fun p => .tuple [.str ⟨#[p.1]⟩, .str ⟨#[p.2]⟩]
def diZS (ua ub : DTE) : DTI := fun δ R => ua δ fun d1 δ1 => ub δ1 fun d2 δ2 => match d1, d2 with
  | .str x, .str y => R (zipS x y) δ2
  | _, _ => False
theorem ri_zipS {K : PySem.W.Frag} {ta tb : TE} {ua ub : DTE} (ha : RE K ta ua) (hb : RE K tb ub) : RI K (iZipS (tCons ta (tCons tb tNil))) (diZS ua ub) := by
  intro c σ G H δ Q R E h k
  refine ha c σ G H δ _ _ E h fun d1 δ1 v1 G1 H1 h1 E1 e1 r1 => ?_
  refine hb c σ G1 H1 δ1 _ _ E1 h1 fun d2 δ2 v2 G2 H2 h2 E2 e2 r2 => ?_
  cases d1 <;> cases d2 <;> first
    | exact False.elim h2
    | skip
  rename_i x y
  refine ⟨x, y, by rw [r1.str_of, r2.str_of], k _ δ2 _ G2 H2 h2 E2 (e1.trans e2) ⟨fun G3 H3 a1 a2 => ?_, fun G3 H3 i d a1 a2 hd => ?_⟩⟩
  · show (zipS x y).length = min x.cps.size y.cps.size
    unfold zipS
    rw [List.length_map, List.length_zip, Array.length_toList, Array.length_toList]
  · unfold zipS at hd
    rw [List.getElem?_map] at hd
    cases q : (x.cps.toList.zip y.cps.toList)[i]? with
    | none =>
      rw [q] at hd
      cases hd
    | some ch =>
      rw [q] at hd
      cases hd
      rw [List.getElem?_zip_eq_some] at q
      obtain ⟨qa, qb⟩ := q
      have la := (List.getElem?_eq_some_iff.mp qa).1
      have lb := (List.getElem?_eq_some_iff.mp qb).1
      rw [Array.length_toList] at la lb
      rw [Array.getElem?_toList] at qa qb
      refine ⟨⟨la, lb⟩, fun z H4 hy => ?_⟩
      obtain ⟨T, c, d, rfl, hT, rfl, hc, hd⟩ := hy
      rw [qa] at hc
      rw [qb] at hd
      cases hc
      cases hd
      have A := Al.new (o := .tup [.str ⟨#[ch.1]⟩, .str ⟨#[ch.2]⟩]) a2 hT
      exact ⟨_, A, .tup upd_same (.cons (.str _) (.cons (.str _) .nil))⟩
theorem di_zipS {X : Cx} {a b : Expr} {ta tb : TE} {ua ub : DTE} {p pos tpos : Pos} {elts : List Expr} {kk : Nat} (hm : X.mg "zip" = none) (ha : DE X a ta ua) (hb : DE X b tb ub) (hg : Gl X "zip" := by rfl)
    (hs : starEach [a, b] X.env = (false, eval a X.env) :: starEach [b] X.env := by rfl) (hs2 : starEach [b] X.env = (false, eval b X.env) :: starEach [] X.env := by rfl) (hpl : (backTo pos (starEach [b] X.env)).any (·.1) = false := by rfl) :
    DI X (.Tuple elts kk tpos) (.Call (.Name "zip" p) [a, b] [] pos) (iZipS (tCons ta (tCons tb tNil))) (diZS ua ub) :=
  ⟨pi_zipS hg hm (pa_cons ha.pe (pa_cons hb.pe pa_nil hs2) hs) hs hpl, ri_zipS ha.re hb.re⟩
end TL

set_option Elab.async false
set_option linter.all false
set_option maxRecDepth 100000
set_option maxHeartbeats 2000000
/-! TLx: repr of data with empty dicts in it; a tuple held against the empty one; get of a written dict; a list told again and again; tuple of a list. -/
namespace TL
open PySem PySem.Spec L2
variable [XW]

/-! ### repr of data with empty dicts -/
mutual
/-- no dict but an empty one -/
def okD : PyData → Bool
  | .none => true
  | .bool _ => true
  | .int _ => true
  | .str _ => true
  | .list ds => okDs ds
  | .tuple ds => okDs ds
  | .dict ds => ds.isEmpty
def okDs : List PyData → Bool
  | [] => true
  | d :: ds => okD d && okDs ds
end
section
variable {X : Cx} {pins : List (Addr × Obj)} {σ : St} {H : Hp} {s : Shared}
theorem dict_empty (I : Inv X pins σ H s) {a : Addr} (h : H a = some (.dK [])) : ∃ o es n, s.heap.get? a = some o ∧ o.cls = .type "dict" ∧ o.data = .dict es n ∧ es.toList = [] ∧ (a == sysModules) = false := by
  obtain ⟨_, hd, vs, rel, o, es, ep, ho, hx, hdat, _, hp, _⟩ := dk_of I.hok h
  cases rel
  refine ⟨o, es, ep, ho, hx.1, hdat, ?_, hd⟩
  generalize es.toList = l at hp
  cases hp
  rfl
mutual
theorem rp_repr (I : Inv X pins σ H s) : ∀ (d : PyData) (v : V) (u : Value), Rp X.K H v d → RelV v u → okD d = true → d.showable = true → d.shown.length ≤ sizeLine →
    ∃ as bs, Reads s.heap u d as ∧ ReadAtMost s.heap d.depth bs ∧ ReprK X.prog X.w bs s.heap d.depth u d.shown
  | .none, _, _, h, r, _, _, _ => by
    cases h
    cases r
    exact ⟨[], [], Reads.none, (fun _ h => nomatch h), by simp only [PyData.shown]; exact .of_is ReprIs.none _ _ _⟩
  | .bool b, _, _, h, r, _, _, _ => by
    cases h
    cases r
    exact ⟨[], [], Reads.bool b, (fun _ h => nomatch h), by simp only [PyData.shown]; exact .of_is (ReprIs.bool b) _ _ _⟩
  | .int i, _, _, h, r, _, hs, _ => by
    cases h
    obtain ⟨t, rfl⟩ := r
    exact ⟨[], [], Reads.int i t, (fun _ h => nomatch h), by simp only [PyData.shown]; exact .of_is (ReprIs.int t (by simpa [PyData.showable] using hs)) _ _ _⟩
  | .str x, _, _, h, r, _, _, hz => by
    cases h
    obtain ⟨t, rfl⟩ := r
    exact ⟨[], [], Reads.str x t, (fun _ h => nomatch h), by simp only [PyData.shown]; exact .of_is (ReprIs.str x t (by simpa only [PyData.shown] using hz)) _ _ _⟩
  | .list ds, _, _, h, r, ho, hs, hz => by
    cases h with
    | lst ha hr =>
      cases r
      rename_i a xs
      obtain ⟨its, rv, ⟨o, n, h1, h2, _, h3⟩, _⟩ := I.list (.inl (.inl ha))
      have hz' : (listText (PyData.shownAll ds)).length ≤ sizeLine := by simpa only [PyData.shown] using hz
      obtain ⟨as, bs, h4, hb, hk⟩ := rp_reprAll I ds _ its hr rv (by simpa [okD] using ho) (by simpa [PyData.showable] using hs) (fun t ht => Nat.le_trans (listText_mem_le ht) hz')
      have r : Reads s.heap (.ref a) (.list ds) _ := .list h1 h2 h3 (by simpa using h4)
      have hna : a ∉ bs := not_mem_of_deeper r (by simp only [PyData.depth]; omega) hb
      refine ⟨_, a :: bs, r, ReadAtMost.cons r (by simp only [PyData.depth]; omega) hb, ?_⟩
      simp only [PyData.depth, PyData.shown]
      cases its with
      | nil =>
        cases h4
        simp only [PyData.shownAll, listText_nil]
        exact ReprK.listEmpty h1 h2 h3
      | cons x l => exact ReprK.list h1 h2 h3 hna (by simpa using hk.length_eq) (fun i y e => hk.item i y (by simpa using e))
  | .tuple ds, _, _, h, r, ho, hs, hz => by
    cases h with
    | tup ha hr =>
      cases r
      rename_i a xs
      obtain ⟨its, rv, ⟨o, h1, h2, n, h3⟩, _⟩ := I.tuple (.inl (.inl ha))
      have hz' : (tupleText (PyData.shownAll ds)).length ≤ sizeLine := by simpa only [PyData.shown] using hz
      obtain ⟨as, bs, h4, hb, hk⟩ := rp_reprAll I ds _ its hr rv (by simpa [okD] using ho) (by simpa [PyData.showable] using hs) (fun t ht => Nat.le_trans (tupleText_mem_le ht) hz')
      have r : Reads s.heap (.ref a) (.tuple ds) _ := .tuple h1 h2 h3 (by simpa using h4)
      have hna : a ∉ bs := not_mem_of_deeper r (by simp only [PyData.depth]; omega) hb
      refine ⟨_, a :: bs, r, ReadAtMost.cons r (by simp only [PyData.depth]; omega) hb, ?_⟩
      simp only [PyData.depth, PyData.shown]
      exact ReprK.tuple h1 h2 h3 hna (by simpa using hk)
  | .dict ds, _, _, h, r, ho, hs, hz => by
    cases h with
    | err0 => cases (show false = true from ho)
    | err => cases (show false = true from ho)
    | dic ha hl _ =>
      cases r
      rename_i a kvs _
      cases ds with
      | cons p q => cases (show false = true from ho)
      | nil =>
        have e : kvs = [] := List.length_eq_zero_iff.mp hl
        subst e
        obtain ⟨o, es, n, h1, h2, h3, h4, h5⟩ := dict_empty I ha
        have r : Reads s.heap (.ref a) (.dict []) _ := .dict (kvs := []) h1 h2 h3 (by rw [h4]; exact .nil) (by rw [h4]; exact .nil)
        have hb : ReadAtMost s.heap (PyData.depthKv []) [] := fun _ h => nomatch h
        refine ⟨_, [a], r, ReadAtMost.cons r (by simp only [PyData.depth]; omega) hb, ?_⟩
        simp only [PyData.depth, PyData.shown]
        exact ReprK.dict h1 h2 h3 h5 (fun h => nomatch h) (by rw [h4]; simp only [PyData.shownKv]; exact .nil)
theorem rp_reprAll (I : Inv X pins σ H s) : ∀ (ds : List PyData) (vs : List V) (us : List Value), RpAll X.K H vs ds → Vals vs us → okDs ds = true → PyData.showableAll ds = true → (∀ t ∈ PyData.shownAll ds, t.length ≤ sizeLine) →
    ∃ as bs, ReadsAll s.heap us ds as ∧ ReadAtMost s.heap (PyData.depthAll ds) bs ∧ ReprAllK X.prog X.w bs s.heap (PyData.depthAll ds) us (PyData.shownAll ds)
  | [], _, _, h, r, _, _, _ => by
    cases h
    cases r
    exact ⟨[], [], .nil, (fun _ h => nomatch h), by simp only [PyData.shownAll]; exact .nil⟩
  | d :: ds, _, _, h, r, ho, hs, hz => by
    cases h with
    | cons h1 h2 =>
      cases r with
      | cons r1 r2 =>
        have ho' : okD d = true ∧ okDs ds = true := by simpa [okDs] using ho
        have hs' : d.showable = true ∧ PyData.showableAll ds = true := by simpa [PyData.showableAll] using hs
        obtain ⟨as1, b1, q1, hb1, k1⟩ := rp_repr I d _ _ h1 r1 ho'.1 hs'.1 (hz _ (by simp only [PyData.shownAll]; exact List.mem_cons_self ..))
        obtain ⟨as2, b2, q2, hb2, k2⟩ := rp_reprAll I ds _ _ h2 r2 ho'.2 hs'.2 (fun t ht => hz t (by simp only [PyData.shownAll]; exact List.mem_cons_of_mem _ ht))
        refine ⟨_, b1 ++ b2, .cons q1 q2, ?_, ?_⟩
        · intro b hm
          simp only [PyData.depthAll]
          rcases List.mem_append.mp hm with hm | hm
          · obtain ⟨d', as', r', hd'⟩ := hb1 b hm
            exact ⟨d', as', r', Nat.le_trans hd' (Nat.le_max_left _ _)⟩
          · obtain ⟨d', as', r', hd'⟩ := hb2 b hm
            exact ⟨d', as', r', Nat.le_trans hd' (Nat.le_max_right _ _)⟩
        · simp only [PyData.depthAll, PyData.shownAll]
          exact .cons ((k1.more fun b hb => List.mem_append_left _ hb).level_le (Nat.le_max_left _ _)) (k2.more_le (fun b hb => List.mem_append_right _ hb) (Nat.le_max_right _ _))
end
end
def rReprX (K : PySem.W.Frag) : List V → Hp → VK → Prop := fun xs H Q => ∃ x d, xs = [x] ∧ Rp K H x d ∧ okD d = true ∧ d.showable = true ∧ d.shown.length ≤ sizeLine ∧ d.depth ≤ 64 ∧ Q (.str d.shown) H
theorem call_reprX {X : Cx} (hg : X.A.guards = some []) (hu : X.A.units + 65 < cLine) : CallR X (.builtin "repr") (rReprX X.K) := by
  intro pins s σ H xs us Q I r h
  obtain ⟨x, d, rfl, hd, ho, hs, hz, hdp, q⟩ := h
  obtain ⟨u, rfl, ru⟩ := L2.vals1 r
  have kk : ∀ b o, s.heap.get? b = some o → s.heap.get? b = some o := fun _ _ e => e
  have fin : ∀ (h' : Heap) (u : Tok) (tk : Tok), (∀ b o, s.heap.get? b = some o → h'.get? b = some o) → ∃ x t, Value.str d.shown u = .str x t ∧ EP X pins σ Q (.str d.shown u) { s with heap := h', toks := tk } := fun h' u tk hk => ⟨_, _, rfl, .str d.shown, H, I.kept hk, ⟨_, rfl⟩, q⟩
  cases hd with
  | err0 => cases (show false = true from ho)
  | err => cases (show false = true from ho)
  | non =>
    obtain rfl : u = Value.none := ru
    exact PySem.P.repr_of_none ⟨.str (PyData.shown .none), H, I.tok _, ⟨_, rfl⟩, q⟩
  | bl b =>
    obtain rfl : u = Value.bool b := ru
    exact PySem.P.repr_of_bool ⟨.str (PyData.shown (.bool b)), H, I.tok _, ⟨_, rfl⟩, q⟩
  | int i =>
    obtain ⟨t, rfl⟩ := ru
    exact PySem.P.repr_of_int (of_decide_eq_true hs) ⟨.str (PyData.shown (.int i)), H, I.tok _, ⟨_, rfl⟩, q⟩
  | str y =>
    obtain ⟨t, rfl⟩ := ru
    exact PySem.P.repr_of_str ⟨.str (PyData.shown (.str y)), H, I.tok _, ⟨_, rfl⟩, q⟩ hz
  | @lst a xs ds ha hr =>
    obtain rfl : u = Value.ref a := ru
    obtain ⟨its, rv, ⟨o, n, h1, h2, _, h3⟩, _⟩ := I.list (.inl (.inl ha))
    have hz' : (listText (PyData.shownAll ds)).length ≤ sizeLine := by simpa only [PyData.shown] using hz
    obtain ⟨as, bs, h4, hb, hk⟩ := rp_reprAll I ds _ its hr rv (by simpa [okD] using ho) (by simpa [PyData.showable] using hs) (fun t ht => Nat.le_trans (listText_mem_le ht) hz')
    have r : Reads s.heap (.ref a) (.list ds) _ := .list h1 h2 h3 (by simpa using h4)
    have hna : a ∉ bs := not_mem_of_deeper r (by simp only [PyData.depth]; omega) hb
    simp only [PyData.depth] at hdp
    simp only [PyData.shown] at fin
    refine call_repr_slot (by omega) ⟨o, h1, h2⟩ F.slot_list_repr.toG ?_
    cases its with
    | nil =>
      cases h4
      simp only [PyData.shownAll, listText_nil] at fin
      exact call_list_repr_empty ⟨o, h1, h2⟩ h1 h3 (fin s.heap _ _ kk)
    | cons x l =>
      exact call_list_reprK h1 h2 h3 hna (by simpa using hk.length_eq) (fun i y e => hk.item i y (by simpa using e)) hg (fun b _ => Clear.nil b) (by show X.A.units + 1 + _ < cLine; omega) kk fin hz'
  | @tup a xs ds ha hr =>
    obtain rfl : u = Value.ref a := ru
    obtain ⟨its, rv, ⟨o, h1, h2, n, h3⟩, _⟩ := I.tuple (.inl (.inl ha))
    have hz' : (tupleText (PyData.shownAll ds)).length ≤ sizeLine := by simpa only [PyData.shown] using hz
    obtain ⟨as, bs, h4, hb, hk⟩ := rp_reprAll I ds _ its hr rv (by simpa [okD] using ho) (by simpa [PyData.showable] using hs) (fun t ht => Nat.le_trans (tupleText_mem_le ht) hz')
    have r : Reads s.heap (.ref a) (.tuple ds) _ := .tuple h1 h2 h3 (by simpa using h4)
    have hna : a ∉ bs := not_mem_of_deeper r (by simp only [PyData.depth]; omega) hb
    simp only [PyData.depth] at hdp
    simp only [PyData.shown] at fin
    refine call_repr_slot (by omega) ⟨o, h1, h2⟩ F.slot_tuple_repr ?_
    exact call_tuple_reprK h1 h2 h3 hna (by simpa using hk) hg (fun b _ => Clear.nil b) (by show X.A.units + 1 + _ < cLine; omega) kk fin hz'
  | @dic a kvs ds ha hl _ =>
    obtain rfl : u = Value.ref a := ru
    cases ds with
    | cons p q => cases (show false = true from ho)
    | nil =>
      have e : kvs = [] := List.length_eq_zero_iff.mp hl
      subst e
      obtain ⟨o, es, n, h1, h2, h3, h4, h5⟩ := dict_empty I ha
      have hz' : (dictText (PyData.shownKv [])).length ≤ sizeLine := by simpa only [PyData.shown] using hz
      simp only [PyData.shown] at fin
      refine call_repr_slot (by omega) ⟨o, h1, h2⟩ F.slot_dict_repr ?_
      exact call_dict_reprK (as := []) (d := 0) h1 h2 h3 h5 (fun h => nomatch h) (by rw [h4]; simp only [PyData.shownKv]; exact .nil) hg (fun b _ => Clear.nil b) (by show X.A.units + 1 + _ < cLine; omega) kk fin hz'
def dReprX (u : DTE) : DTE := fun δ R => u δ fun d δ1 => okD d = true ∧ d.showable = true ∧ d.shown.length ≤ sizeLine ∧ d.depth ≤ 64 ∧ R (.str d.shown) δ1
theorem re_reprX {K : PySem.W.Frag} {te : TE} {ue : DTE} (ha : RE K te ue) : RE K (tCB (rReprX K) (tCons te tNil)) (dReprX ue) := by
  intro c σ G H δ Q R E h k
  refine ha c σ G H δ _ _ E h fun d δ1 v G1 H1 h1 E1 e1 r1 => ?_
  exact ⟨v, d, rfl, r1.up E1.ex, h1.1, h1.2.1, h1.2.2.1, h1.2.2.2.1, k _ δ1 _ G1 H1 h1.2.2.2.2 E1 e1 (.str _)⟩

/-! ### a tuple held against the empty one -/
def rEqT0 (K : PySem.W.Frag) : R2 := fun x y H Q => ∃ a b xs, x = .ref a ∧ y = .ref b ∧ SqT K H a xs ∧ SqT K H b [] ∧ Q (.bl xs.isEmpty) H
theorem op_eqT0 {X : Cx} (hu : X.A.units < cLine) : OpR X (compareOp .Eq) (rEqT0 X.K) := by
  intro pins s σ H x y v u Q I rx ry h
  obtain ⟨a, b, xs, rfl, rfl, h1, h2, q⟩ := h
  cases rx
  cases ry
  obtain ⟨its, rv, p, _⟩ := I.tuple h1
  obtain ⟨its2, rv2, p2, _⟩ := I.tuple h2
  cases rv2
  refine SeqAt.eq_tupleAt (e := fun _ => true) (show s.heap.IsTuple a its.toArray from p) (show s.heap.IsTuple b #[] from p2) hu (fun j _ h => absurd h (Nat.not_lt_zero j)) ⟨.bl xs.isEmpty, H, I, ?_, q⟩
  have e : ((List.range (min its.toArray.size (#[] : Array Value).size)).all (fun _ => true) && its.toArray.size == (#[] : Array Value).size) = xs.isEmpty := by
    have l := rv.length
    cases xs with
    | nil =>
      cases its with
      | nil => rfl
      | cons x r => cases l
    | cons x r =>
      cases its with
      | nil => cases l
      | cons y r => simp
  rw [e]
  rfl
def rdEqT0 : R2D := fun d1 d2 R => match d1, d2 with
  | .tuple xs, .tuple [] => R (.bool xs.isEmpty)
  | _, _ => False
theorem ro_eqT0 {K : PySem.W.Frag} : RO K (rEqT0 K) rdEqT0 := by
  intro G H x y d1 d2 Q R e r1 r2 h k
  cases d1 <;> first
    | exact False.elim h
    | skip
  cases d2 <;> first
    | exact False.elim h
    | skip
  rename_i xs ys
  cases ys with
  | cons y r => exact False.elim h
  | nil =>
    obtain ⟨a, vs, rfl, a1, a2⟩ := r1.tup_of
    obtain ⟨b, us, rfl, b1, b2⟩ := r2.tup_of
    cases b2
    exact ⟨a, b, vs, rfl, rfl, .inl (.inl (e _ _ a1)), .inl (.inl (e _ _ b1)), by rw [empty_rp a2]; exact k _ _ G H h (Al.refl e) (.bl _)⟩

/-! ### get of a written dict -/
def tKG (K : PySem.W.Frag) (d : Addr) (ty : TE) : TE := fun σ H Q => ty σ H fun y H1 => ∃ (z : Str) (r : Option Value) (v : V), y = .str z ∧ PySem.W.nsIn K d z = some r ∧ RelV v (r.getD .none) ∧ Q v H1
theorem pe_kget {X : Cx} {x : Str} {e : Expr} {p apos cpos : Pos} {ty : TE} {d : Addr} {es : Array DictEntry} {n : Nat} (D : KDict X.K X.w d es n) (hx : X.mg x = some (.ref d)) (he : PE X e ty) (hg : Gl X x) (hd : (x == ("__debug__" : Str)) = false)
    (m : M1 X (.Name x p) "get" apos e cpos) : PE X (.Call (.Attribute (.Name x p) "get" apos) [e] [] cpos) (tKG X.K d ty) := by
  refine ⟨fun pins s σ H Q I h => ?_⟩
  refine wpAny_Call_method m.base m.few m.line PySem.F.plainAttrs_dict PySem.F.slot_dict_get PySem.F.type_dict_get (thn ((pe_glob (v := .ref d) hg hx rfl hd).run pins s σ H (fun v H1 => v = .ref d ∧ H1 = H) I ⟨rfl, rfl⟩) fun u s1 ⟨x, H1, I1, rx, ex, eh⟩ => ?_)
  subst ex eh
  obtain rfl : u = Value.ref d := rx
  have hm := PySem.W.mapOf_K (prog := X.prog) (w := X.w) I1.kIn D.at_ D.lit
  refine ⟨hm.typeIs, hm.noDict, ?_⟩
  rw [m.trees]
  refine Calls.callWith_builtin rfl (Calls.evalArgs_plain (Calls.spliced_cons (thn (he.run pins s1 σ H1 _ I1 h) fun iv s2 ⟨y, H2, I2, ry, z, r, v, ey, hn, rv, q2⟩ => Calls.spliced_nil ?_)))
  subst ey
  obtain ⟨t, rfl⟩ := ry
  have hm2 := PySem.W.mapOf_K (prog := X.prog) (w := X.w) I2.kIn D.at_ D.lit
  refine call_meetsIn PySem.F.slot_dict_get hm2.typeIs PySem.F.entry_dict_get (PySem.F.args_dict_get_2 _ _) (meets_dict_get (strKind X.prog X.w) d (PySem.strKind_is X.prog X.w z t) D.low) ⟨_, hm2, v, H2, I2.tok _, ?_, q2⟩
  rw [PySem.W.find_K D.at_ hn]
  exact rv
/-- the dict at d tells at every text what m tells -/
def KMap0 (K : PySem.W.Frag) (d : Addr) (m : Str → PyData) : Prop := ∀ z, ∃ r v, PySem.W.nsIn K d z = some r ∧ RelV v (r.getD .none) ∧ ∀ G, Rp K G v (m z)
def dKG (m : Str → PyData) (u : DTE) : DTE := fun δ R => u δ fun d δ1 => match d with
  | .str z => R (m z) δ1
  | _ => False
theorem re_kget {K : PySem.W.Frag} {d : Addr} {m : Str → PyData} {te : TE} {ue : DTE} (hm : KMap0 K d m) (ha : RE K te ue) : RE K (tKG K d te) (dKG m ue) := by
  intro c σ G H δ Q R E h k
  refine ha c σ G H δ _ _ E h fun y δ1 v G1 H1 h1 E1 e1 r1 => ?_
  cases y <;> first
    | exact False.elim h1
    | skip
  rename_i z
  obtain ⟨r, v0, a1, a2, a3⟩ := hm z
  exact ⟨z, r, v0, r1.str_of, a1, a2, k _ δ1 _ G1 H1 h1 E1 e1 (a3 G1)⟩
/-- a written dict whose texts and ints are known -/
theorem kmap0 {K : PySem.W.Frag} {d : Addr} {es : Array DictEntry} {n : Nat} (hl : K.lookup d = some ⟨.type "dict", none, .dict es n, #[]⟩) (kvs : List (Str × Int)) (h : ∃ f : Nat → Tok × Tok, es.toList.map (fun e => (e.key, e.val)) = kvs.mapIdx fun i p => (Value.str p.1 (f i).1, Value.int p.2 (f i).2)) :
    KMap0 K d fun z => match kvs.find? (·.1 == z) with
      | some p => .int p.2
      | none => .none := by
  intro z
  obtain ⟨f, h⟩ := h
  have key : ∀ (l : List DictEntry) (kvs : List (Str × Int)) (f : Nat → Tok × Tok), l.map (fun e => (e.key, e.val)) = kvs.mapIdx (fun i p => (Value.str p.1 (f i).1, Value.int p.2 (f i).2)) →
      ((∃ e p t, l.find? (·.key.isStr z) = some e ∧ kvs.find? (·.1 == z) = some p ∧ e.val = Value.int p.2 t) ∨ (l.find? (·.key.isStr z) = none ∧ kvs.find? (·.1 == z) = none)) ∧ l.any (·.refKey) = false := by
    intro l
    induction l with
    | nil =>
      intro kvs f h
      cases kvs with
      | nil => exact ⟨.inr ⟨rfl, rfl⟩, rfl⟩
      | cons p q => simp at h
    | cons e l ih =>
      intro kvs f h
      cases kvs with
      | nil => simp at h
      | cons p q =>
        rw [List.map_cons, List.mapIdx_cons] at h
        injection h with h1 h2
        injection h1 with hk hv
        obtain ⟨i1, i2⟩ := ih q (fun i => f (i + 1)) h2
        have e1 : e.key.isStr z = (p.1 == z) := by rw [hk]; rfl
        have e2 : e.refKey = false := by unfold DictEntry.refKey; rw [hk]
        refine ⟨?_, by rw [List.any_cons, e2, i2]; rfl⟩
        rw [List.find?_cons, List.find?_cons, e1]
        cases hp : (p.1 == z) with
        | true => exact .inl ⟨e, p, _, rfl, rfl, hv⟩
        | false => exact i1
  obtain ⟨k1, k2⟩ := key es.toList kvs f h
  have en : PySem.W.nsIn K d z = (match es.toList.find? (·.key.isStr z) with
      | some e => some (some e.val)
      | none => if es.toList.any (·.refKey) then none else some none) := by
    unfold PySem.W.nsIn
    rw [hl]
    rfl
  rcases k1 with ⟨e, p, t, a1, a2, a3⟩ | ⟨a1, a2⟩
  · refine ⟨some e.val, .int p.2, by rw [en]; simp only [a1], ⟨t, a3⟩, fun G => ?_⟩
    dsimp only
    rw [a2]
    exact .int _
  · refine ⟨none, .non, by rw [en]; simp only [a1, k2]; rfl, rfl, fun G => ?_⟩
    dsimp only
    rw [a2]
    exact .non

/-! ### a list again and again; tuple of a list -/
theorem RpAll.flat {K : PySem.W.Frag} {G : Hp} {xs : List V} {ds : List PyData} (r : RpAll K G xs ds) : ∀ n : Nat, RpAll K G (List.replicate n xs).flatten (List.replicate n ds).flatten
  | 0 => .nil
  | n + 1 => by
    rw [List.replicate_succ, List.replicate_succ, List.flatten_cons, List.flatten_cons]
    exact r.app (RpAll.flat r n)
def rdRep : R2D := fun d1 d2 R => match d1, d2 with
  | .list xs, .int k => -(2 ^ 63 : Int) ≤ k ∧ k < 2 ^ 63 ∧ xs.length * k.toNat ≤ sizeLine ∧ R (.list (List.replicate k.toNat xs).flatten)
  | _, _ => False
theorem ro_rep {K : PySem.W.Frag} : RO K rRep rdRep := by
  intro G H x y d1 d2 Q R e r1 r2 h k
  cases d1 <;> cases d2 <;> first
    | exact False.elim h
    | skip
  rename_i ds i
  obtain ⟨h1, h2, hz, h⟩ := h
  obtain ⟨a, xs, rfl, a1, a2⟩ := r1.lst_of
  refine ⟨a, i, xs, rfl, r2.int_of, e _ _ a1, h1, h2, by rw [a2.len]; exact hz, fun p hp => ?_⟩
  have A := Al.new (o := .lst (List.replicate i.toNat xs).flatten) e hp
  exact k _ _ _ _ h A (.lst upd_same ((a2.flat i.toNat).up A.g))
def dTupOf (u : DTE) : DTE := fun δ R => u δ fun d δ1 => match d with
  | .list ds => R (.tuple ds) δ1
  | .tuple ds => R (.tuple ds) δ1
  | _ => False
theorem re_tupOf {K : PySem.W.Frag} {ta : TE} {ua : DTE} (ha : RE K ta ua) : RE K (tThen ta (kTup K)) (dTupOf ua) := by
  intro c σ G H δ Q R E h k
  refine ha c σ G H δ _ _ E h fun d δ1 v G1 H1 h1 E1 e1 r1 => ?_
  cases d <;> first
    | exact False.elim h1
    | skip
  · obtain ⟨a, xs, rfl, q1, q2⟩ := r1.lst_of
    refine .inl ⟨a, xs, rfl, .inl (.inl (E1.ex _ _ q1)), fun p hp => ?_⟩
    have A := Al.new (o := .tup xs) E1.ex hp
    exact k _ δ1 _ _ _ h1 (E1.al A) (e1.trans A.g) (.tup upd_same (q2.up A.g))
  · obtain ⟨a, xs, rfl, q1, q2⟩ := r1.tup_of
    exact .inr ⟨a, xs, rfl, .inl (.inl (E1.ex _ _ q1)), k _ δ1 _ G1 H1 h1 E1 e1 r1⟩
section
variable {X : Cx} {a e : Expr} {ta te : TE} {ua ue : DTE} {pos p apos : Pos}
theorem de_reprX (hm : X.mg "repr" = none) (hgd : X.A.guards = some []) (hu : X.A.units + 65 < cLine) (ha : DE X a ta ua) (hg : Gl X "repr" := by rfl) (hv : bootBuiltins "repr" = some (.builtin "repr") := by decide +kernel) (hs : starEach [a] X.env = (false, eval a X.env) :: starEach [] X.env := by rfl) (hpl : (backTo pos (starEach [] X.env)).any (·.1) = false := by rfl) :
    DE X (.Call (.Name "repr" p) [a] [] pos) (tCB (rReprX X.K) (tCons ta tNil)) (dReprX ua) := ⟨pe_callB (call_reprX hgd hu) hg hm hv (pa_cons ha.pe pa_nil hs) (by decide) (by decide) hs hpl, re_reprX ha.re⟩
theorem de_kget {x : Str} {d : Addr} {es : Array DictEntry} {n : Nat} {m : Str → PyData} (D : KDict X.K X.w d es n) (hm : KMap0 X.K d m) (hx : X.mg x = some (.ref d)) (he : DE X e te ue) (hg : Gl X x := by rfl) (hd : (x == ("__debug__" : Str)) = false := by decide)
    (mm : M1 X (.Name x p) "get" apos e pos := by exact ⟨rfl, rfl, rfl, rfl⟩) : DE X (.Call (.Attribute (.Name x p) "get" apos) [e] [] pos) (tKG X.K d te) (dKG m ue) := ⟨pe_kget D hx he.pe hg hd mm, re_kget hm he.re⟩
theorem de_tuple1 (hm : X.mg "tuple" = none) (ha : DE X a ta ua) (hg : Gl X "tuple" := by rfl) (na : starEach [a] X.env = (false, eval a X.env) :: starEach [] X.env := by rfl) :
    DE X (.Call (.Name "tuple" p) [a] [] pos) (tThen ta (kTup X.K)) (dTupOf ua) := ⟨pe_tupleOf hg hm ha.pe na, re_tupOf ha.re⟩
end
end TL

set_option Elab.async false
set_option linter.all false
set_option maxRecDepth 100000
set_option maxHeartbeats 4000000
/-! TLy: sets of texts that can be walked: one more text, set(text), set comprehensions of texts, sorted of them, len of them. -/
namespace TL
open PySem PySem.Spec L2
variable [XW]

/-- the text of an entry -/
def kT (e : Int × Value) : Str := match e.2 with
  | .str x _ => x
  | _ => Str.empty
def isT (w : World) (e : Int × Value) : Prop := ∃ x t, e = (hashStr w x, Value.str x t)
/-- what stands at a: a set of texts, l its members, each once -/
def SetT (w : World) (h : Heap) (a : Addr) (l : List Str) : Prop :=
  ∃ o es ep t, h.get? a = some o ∧ o.ExactSet ∧ o.data = .set es ep t ∧ (∀ e ∈ es.toList, isT w e) ∧ (es.toList.map kT).Perm l ∧ l.Nodup ∧
    es.size < scanBound ∧ t.fits es.size = true ∧ Ris t.place.toList ∧ (w.params.followText "set-order" = true ∨ t.led = true)
section
variable {P : Program} {w : World} {h h' : Heap} {a : Addr} {l : List Str}
theorem SetT.at (R : SetT w h a l) (k : ∀ o, h.get? a = some o → h'.get? a = some o) : SetT w h' a l := by
  obtain ⟨o, es, ep, t, ho, r⟩ := R
  exact ⟨o, es, ep, t, k o ho, r⟩
theorem isT_el {m : List (Int × Value)} (g : ∀ e ∈ m, isT w e) : ElemsOf (PySem.strKind P w) m := fun e he => by
  obtain ⟨x, t, rfl⟩ := g e he
  exact ⟨⟨x, strKind_is P w x t, rfl⟩, rfl⟩
theorem isT_is {e : Int × Value} (g : isT w e) (x : Str) : (PySem.strKind P w).is x e.2 = true ↔ kT e = x := by
  obtain ⟨y, t, rfl⟩ := g
  constructor
  · intro z
    exact (PySem.strKind P w).inj _ _ _ (strKind_is P w y t) z
  · intro z
    have z : y = x := z
    rw [z]
    exact strKind_is P w x t
theorem isT_mem {m : List (Int × Value)} (g : ∀ e ∈ m, isT w e) (x : Str) : x ∈ m.map kT ↔ ∃ e ∈ m, (PySem.strKind P w).is x e.2 = true := by
  rw [List.mem_map]
  exact ⟨fun ⟨e, he, q⟩ => ⟨e, he, (isT_is (g e he) x).mpr q⟩, fun ⟨e, he, q⟩ => ⟨e, he, (isT_is (g e he) x).mp q⟩⟩
theorem SetT.len (R : SetT w h a l) : ∃ o es ep t, h.get? a = some o ∧ o.data = .set es ep t ∧ es.size = l.length := by
  obtain ⟨o, es, ep, t, ho, _, hd, _, pm, _⟩ := R
  refine ⟨o, es, ep, t, ho, hd, ?_⟩
  rw [← pm.length_eq, List.length_map, Array.length_toList]
theorem SetT.setOf (R : SetT w h a l) : h.SetOf (PySem.strKind P w) a (fun x => decide (x ∈ l)) l.length := by
  obtain ⟨o, es, ep, t, ho, hx, hd, g, pm, _, hb, hf, _⟩ := R
  refine ⟨o, es, ep, t, ho, hx, hd, isT_el g, fun x => ?_, hb, hf, ?_⟩
  · rw [decide_eq_true_iff, ← pm.mem_iff]
    exact isT_mem g x
  · rw [← pm.length_eq, List.length_map, Array.length_toList]
end
section
variable {P : Program} {w : World} {A : Around} {E : Value → Shared → Prop} {s : Shared} {a : Addr} {l : List Str}
/-- the tail of an add: what was laid stays, grown or not -/
theorem addT_tail {g : Bool → Sem Unit} (hgv : ∀ (b : Bool) (z : Shared) (Q' : Unit → Shared → Prop), Q' () z → wpAny (model P w) A (g b) Q' E z)
    {o : Obj} {es es1 : Array (Int × Value)} {ep : Nat} {t t2 : SetTable} (ho : s.heap.get? a = some o) (hx : o.ExactSet) (hd : o.data = .set es ep t)
    (g1 : ∀ e ∈ es1.toList, isT w e) (p1 : (es1.toList.map kT).Perm l) (nd : l.Nodup) (b1 : es1.size < scanBound) (f1 : t2.fits es1.size = true) (r1 : Ris t2.place.toList)
    (l1 : w.params.followText "set-order" = true ∨ t2.led = true) {dm : Bool} {R : Option Bool → Shared → Prop} (k : ∀ h', Heap.SameBut a s.heap h' → SetT w h' a l → R (some true) { s with heap := h' }) :
    wpAny (model P w) A (do
        storeSet a es1 t2
        if (!dm && t2.tooFull) = true then do
            g (relayAll t2 es1 (SetTable.grown es1.size)).2.2
            storeSet a (relayAll t2 es1 (SetTable.grown es1.size)).1 (relayAll t2 es1 (SetTable.grown es1.size)).2.1
            pure (some true)
          else pure (some true)) R E s := by
  have z1 := store_at (es' := es1) (t' := t2) ho hd
  have y1 := Heap.SameBut.update s.heap a (Obj.putSet es1 t2)
  refine wpAny_bind (wpAny_storeSet_of ho hd ?_ (fits_of_scanBound b1))
  by_cases hc : (!dm && t2.tooFull) = true
  · rw [if_pos hc]
    have q1 := relayAll_perm t2 es1 (SetTable.grown es1.size)
    have q2 := relayAll_fits t2 es1 (SetTable.grown es1.size)
    have q3 := relayAll_ris t2 es1 (SetTable.grown es1.size)
    have q4 := relayAll_led t2 es1 (SetTable.grown es1.size)
    generalize relayAll t2 es1 (SetTable.grown es1.size) = Z at q1 q2 q3 q4 ⊢
    obtain ⟨es2, t3, gv⟩ := Z
    dsimp only at q1 q2 q3 q4 ⊢
    have sz : es2.size = es1.size := by
      have z := q1.length_eq
      rw [Array.length_toList, Array.length_toList] at z
      exact z
    have b2 : es2.size < scanBound := by
      rw [sz]
      exact b1
    refine wpAny_bind (hgv _ _ _ (wpAny_bind (wpAny_storeSet_of z1 rfl (wpAny_pure (k _ (y1.trans (Heap.SameBut.update _ a _)) ?_)) (fits_of_scanBound b2))))
    exact ⟨_, es2, _, t3, store_at (es' := es2) (t' := t3) z1 rfl, hx, rfl, fun e he => g1 e (q1.mem_iff.mp he), (q1.map kT).trans p1, nd, b2, q2, q3, l1.imp id fun z => q4.trans z⟩
  · rw [if_neg hc]
    exact wpAny_pure (k _ y1 ⟨_, es1, _, t2, z1, hx, rfl, g1, p1, nd, b1, f1, r1, l1⟩)
/-- .. and its head -/
theorem addT_hashed {x : Str} {tk : Tok} {Q : Bool → Shared → Prop} (R : SetT w s.heap a l) (room : l.length + 1 < scanBound)
    (k : ∀ h', Heap.SameBut a s.heap h' → SetT w h' a (if x ∈ l then l else x :: l) → Q (!decide (x ∈ l)) { s with heap := h' }) :
    wpAny (model P w) A (setAddHashed a (.str x tk) ((PySem.strKind P w).hash x)) Q E s := by
  obtain ⟨o, es, ep, t, ho, hx, hd, g, pm, nd, hb, hf, hr, hl⟩ := id R
  have key : (PySem.strKind P w).is x (.str x tk) = true := strKind_is P w x tk
  have el : ElemsOf (PySem.strKind P w) es.toList := isT_el g
  have sc : (Value.str x tk).scannable = true := rfl
  unfold setAddHashed setAddHashedIn
  refine wpAny_holding (wpAny_bind (wpAny_setState_of ho hd hf ?_))
  dsimp only
  rw [byScan_of sc hb el]
  simp only [↓reduceIte]
  unfold setAddByScan
  refine wpAny_bind (wpAny_bind (wpAny_rule (wpAny_bind (wpAny_setScan_of key ho hd hf el ?_))))
  cases found : List.findIdx? (fun e => (PySem.strKind P w).is x e.2) es.toList with
  | some j =>
    dsimp only
    obtain ⟨hj, pj, _⟩ := List.findIdx?_eq_some_iff_getElem.mp found
    have hm : x ∈ l := pm.mem_iff.mp ((isT_mem (P := P) g x).mpr ⟨es.toList[j], List.getElem_mem hj, pj⟩)
    have q := k s.heap (Heap.SameBut.refl a s.heap) (by rw [if_pos hm]; exact R)
    rw [decide_eq_true hm] at q
    exact wpAny_pure (wpAny_pure q)
  | none =>
    dsimp only
    have hm : x ∉ l := fun z => by
      obtain ⟨e, he, q⟩ := (isT_mem (P := P) g x).mp (pm.mem_iff.mpr z)
      have c := List.findIdx?_eq_none_iff.mp found e he
      rw [q] at c
      cases c
    have way : ∀ (b : Bool) {z : Shared} {Q' : Unit → Shared → Prop}, Q' () z → wpAny (model P w) A (match b with | true => rule "set.scan.the-table-gave-way" | false => pure ()) Q' E z := fun b z Q' q => by
      cases b with
      | true => exact wpAny_rule q
      | false => exact wpAny_pure q
    have q1 := layNew_perm t es ((PySem.strKind P w).hash x) (.str x tk)
    have q2 := layNew_fits t es ((PySem.strKind P w).hash x) (.str x tk)
    have q3 := layNew_ris t es ((PySem.strKind P w).hash x) (.str x tk) hr
    have q4 := layNew_led t es ((PySem.strKind P w).hash x) (.str x tk)
    generalize layNew t es ((PySem.strKind P w).hash x) (.str x tk) = Z at q1 q2 q3 q4 ⊢
    obtain ⟨es1, t1, dm, gave⟩ := Z
    dsimp only at q1 q2 q3 q4 ⊢
    rw [Array.toList_push] at q1
    have pc : es1.toList.Perm (((PySem.strKind P w).hash x, Value.str x tk) :: es.toList) := q1.trans (List.perm_append_singleton _ _)
    have g1 : ∀ e ∈ es1.toList, isT w e := fun e he => (List.mem_cons.mp (pc.mem_iff.mp he)).elim (fun z => ⟨x, tk, z⟩) (g e)
    have p1 : (es1.toList.map kT).Perm (x :: l) := (pc.map kT).trans (.cons x pm)
    have nd1 : (x :: l).Nodup := List.nodup_cons.mpr ⟨hm, nd⟩
    have sz : es1.size = l.length + 1 := by
      have z := p1.length_eq
      rw [List.length_map, Array.length_toList] at z
      exact z
    have b1 : es1.size < scanBound := by
      rw [sz]
      exact room
    have ld : w.params.followText "set-order" = true ∨ t1.led = true := hl.imp id fun z => q4.trans z
    have fin : ∀ h', Heap.SameBut a s.heap h' → SetT w h' a (x :: l) → Q true { s with heap := h' } := fun h' sb r => by
      have q := k h' sb (by rw [if_neg hm]; exact r)
      rw [decide_eq_false hm] at q
      exact q
    refine wpAny_bind (way _ ?_)
    split
    · refine wpAny_bind ?_
      rw [hashByValue_scannable 8 sc]
      refine wpAny_pure (addT_tail (l := x :: l) (fun b z Q' q => way b q) ho hx hd g1 p1 nd1 b1 ?_ ?_ ?_ fun h' sb r => ?_)
      · first
          | (split <;> first | exact q2 | exact SetTable.fits_plain_off q2)
          | exact q2
      · first
          | (split <;> exact q3)
          | exact q3
      · first
          | (split <;> exact ld)
          | exact ld
      · dsimp only
        exact wpAny_pure (fin h' sb r)
    · refine wpAny_bind (wpAny_pure ?_)
      simp only [↓reduceIte]
      refine addT_tail (l := x :: l) (fun b z Q' q => way b q) ho hx hd g1 p1 nd1 b1 q2 q3 ld fun h' sb r => ?_
      dsimp only
      exact wpAny_pure (fin h' sb r)
/-- found.add(x) -/
theorem addT {x : Str} {tk : Tok} {Q : Value → Shared → Prop} (R : SetT w s.heap a l) (room : l.length + 1 < scanBound)
    (k : ∀ h', Heap.SameBut a s.heap h' → SetT w h' a (if x ∈ l then l else x :: l) → Q .none { s with heap := h', toks := s.toks + 1 }) :
    wpAny (model P w) A (call (.builtin "set.add") [.ref a, .str x tk]) Q E s := by
  refine wpAny_call_entry F.slot_set_add (R.setOf (P := P)).typeIs F.entry_set_add ?_ (F.args_set_add_2 _ _)
  unfold Builtin.«set.add» Builtin.Frozenset.oneOther
  simp only [List.isEmpty_nil, bind_assoc]
  unfold Builtin.Frozenset.addrOf setAdd
  refine wpAny_bind (wpAny_pure ?_)
  try dsimp only
  refine wpAny_bind (wpAny_pure ?_)
  try dsimp only
  refine wpAny_bind (wpAny_holding (wpAny_bind ((PySem.strKind P w).pyHash (strKind_is P w x tk) ?_)))
  refine addT_hashed (s := { s with toks := s.toks + 1 }) R room fun h' sb r => ?_
  show wpAny _ _ (ret Value.none) _ _ _
  exact wpAny_pure ⟨_, rfl, k h' sb r⟩
theorem setT_fresh {h : Heap} (ho : h.get? a = some (setE w)) : SetT w h a [] :=
  ⟨_, #[], 0, _, ho, ⟨rfl, rfl, rfl⟩, rfl, (fun e he => by simp at he), (by simp), .nil, (by decide), (by rfl), List.Pairwise.nil, by
    show _ ∨ (!w.params.followText "set-order") = true
    cases w.params.followText "set-order" <;> simp⟩
end
/-! ### over the layer -/
def setTO (w : World) (a : Addr) (l : List Str) : HO := .ext fun h => SetT w h a l
section
variable {X : Cx} {pins : List (Addr × Obj)} {σ : L2.St} {H : Hp} {s : Shared}
theorem setTO_ok {P : Program} {w : World} {h : Heap} {a : Addr} {l : List Str} (R : SetT w h a l) : ObjOk P w H h a (setTO w a l) := by
  have ⟨o, _, _, _, ho, _⟩ := R
  exact ⟨R, ⟨o, ho⟩, fun h1 h2 p k => SetT.at p k⟩
theorem setTO_get {a : Addr} {l : List Str} (I : Inv X pins σ H s) (ha : H a = some (setTO X.w a l)) : SetT X.w s.heap a l := (I.hok a _ ha).1
/-- one more of whatever kind is put into the set at D -/
abbrev AddW := Addr → V → Hp → (Hp → Prop) → Prop
def AddR (P : Program) (w : World) (r : AddW) : Prop := ∀ (X : Cx), X.prog = P → X.w = w → ∀ (pins : List (Addr × Obj)) (σ : L2.St) (H : Hp) (s : Shared) (D : Addr) (y : V) (u : Value) (N : Hp → Prop) (Q E : Value → Shared → Prop), Inv X pins σ H s → RelV y u → r D y H N →
  (∀ v s' H', Inv X pins σ H' s' → N H' → Q v s') → wpAny (model X.prog X.w) X.A (call (.builtin "set.add") [.ref D, u]) Q E s
def rAddTx (w : World) : AddW := fun D y H N => ∃ z l, y = .str z ∧ H D = some (setTO w D l) ∧ l.length + 1 < scanBound ∧ N (upd H D (setTO w D (if z ∈ l then l else z :: l)))
theorem addR_text {P : Program} {w : World} : AddR P w (rAddTx w) := by
  intro X hp hw pins σ H s D y u N Q E I ry h k
  subst hp hw
  obtain ⟨z, l, rfl, hD, hl, hn⟩ := h
  obtain ⟨t, rfl⟩ := ry
  refine addT (setTO_get I hD) hl fun h' sb new => ?_
  have there : ∃ v, h'.get? D = some v := by
    have ⟨o, _, _, _, ho, _⟩ := new
    exact ⟨o, ho⟩
  exact k _ _ _ (I.write (e := D) (t' := s.toks + 1) (by rw [hD]; trivial) (.inl rfl) (fun b v hb hv => (sb.2 b hb).trans hv) there (setTO_ok new)) hn
/-- {elt for target in iter if ..}: D the new set, o what stands there at first -/
def tScG (r : AddW) (o0 : Addr → HO) (wi : L2.TI) (g : TG) (tt : TT) (te : TE) (vs : List Nat) : TE := fun σ H Q => wi σ H fun J H1 => ∀ D, H1 D = none → ∃ W : Nat → Nat → Hp → Prop, (∃ m, W 0 m (upd H1 D (o0 D))) ∧ ∀ i m H, W i m H →
  (J.stop i H ∧ Q (.ref D) H) ∨ (J.go i H ∧ ∃ Nx : Hp → Prop, (∀ H', Nx H' → ∃ m', m' < m ∧ W (i + 1) m' H') ∧ ∀ x H', J.yld i H x H' → g x (wipe σ vs) H' fun σ2 H2 => wipe σ2 vs = wipe σ vs ∧ tt σ2 H2 fun b H3 =>
    if b = true then te σ2 H3 fun y H4 => r D y H4 Nx else Nx H3)
/-- what is laid first -/
def FreshR (P : Program) (w : World) (o0 : Addr → HO) : Prop := ∀ (H : Hp) (h : Heap) (a : Addr), h.get? a = some (setE w) → ObjOk P w H h a (o0 a)
theorem fresh_text {P : Program} {w : World} : FreshR P w fun a => setTO w a [] := fun H h a e => setTO_ok (setT_fresh e)
theorem pe_scG {r : AddW} {o0 : Addr → HO} {elt tg iter : Expr} {ifs : List Expr} {scope : Scope} {own : List (Str × Nat)} {pos : Pos} {wi : L2.TI} {g : TG} {tt : TT} {te : TE} (ar : AddR X.prog X.w r) (fr : FreshR X.prog X.w o0) (hc : X.calm = true) (hN : X.N.Nodup) (hi : PI X tg iter wi)
    (ok : BlkOk X.N X.env.scope scope own) (hg : ∀ (s : Shared) (H : Hp) (C : Addr) (cl : List (Str × Addr)) (fp : List Addr), PG (X.blk s H scope (compEnvC scope cl C X.env) fp) tg g)
    (ht : ∀ (s : Shared) (H : Hp) (C : Addr) (cl : List (Str × Addr)) (fp : List Addr), PTs (X.blk s H scope (compEnvC scope cl C X.env) fp) ifs tt)
    (he : ∀ (s : Shared) (H : Hp) (C : Addr) (cl : List (Str × Addr)) (fp : List Addr), PE (X.blk s H scope (compEnvC scope cl C X.env) fp) elt te) (hs : ∀ x, foldedSetIterable iter X.env x = pure x := by intro _; rfl) :
    PE X (.SetComp elt [⟨tg, iter, ifs, 0⟩] scope pos) (tScG r o0 wi g tt te (own.map (·.2))) := by
  refine ⟨fun pins s σ H Q I h => ?_⟩
  rw [PpSet.eval_SetComp]
  have cells : ∀ y ∈ scope.names, y.2 = .free → ∃ c, X.env.cells.lookup y.1 = some c := fun y hy e => (ok.free y hy e).elim (fun k => I.ok.has _ (.inl k)) fun k => I.ok.has _ (.inr k)
  refine wpAny_comprehension_free rfl hs (closure_ok cells) ok.kind (fun y hy e => by rw [ok.uniq y hy, e]) (thn (hi.run pins s σ H _ I h) fun xv s1 hx => thn hx fun itv s2 h2 => ?_)
  obtain ⟨it, fp, tn, J, H2, rfl, I2, T, st2, f2, q⟩ := h2
  refine PpSet.newSet_ok (newEnv_comp ?_)
  have hDn : H2 s2.heap.objs.size = none := I2.hok.fresh (Nat.le_refl _)
  obtain ⟨W, ⟨m0, w0⟩, turn⟩ := q s2.heap.objs.size hDn
  generalize hD : s2.heap.objs.size = D at *
  generalize hs3 : ({ s2 with heap := s2.heap.push (setE X.w) } : Shared) = s3
  have h3 : s3.heap = s2.heap.push (setE X.w) := by rw [← hs3]
  have e3 : s3.heap.get? D = some (setE X.w) := by
    rw [h3, ← hD]
    exact Heap.get?_push_size _ rfl
  have I3 : Inv X pins σ (upd H2 D (o0 D)) s3 := by
    rw [← hs3]
    refine I2.laid (t' := s2.toks) (fun b o e => Heap.get?_push_of_some _ e) (Nat.le_of_eq hD) (fr _ _ _ ?_)
    rw [← hD]
    exact Heap.get?_push_size _ rfl
  have lo : ∀ b ∈ fp, b < s2.heap.objs.size := fun b hb => by
    obtain ⟨o, e, _⟩ := T.obj _ _ st2 b hb
    exact Heap.lt_size e
  have f3 : ∀ b ∈ fp, FpOk X pins (upd H2 D (o0 D)) b ∧ b < s3.heap.objs.size := fun b hb => by
    have hlt := lo b hb
    constructor
    · refine ⟨?_, (f2 b hb).2⟩
      rw [upd_ne (by rw [← hD]; exact Nat.ne_of_lt hlt)]
      exact (f2 b hb).1
    · rw [h3, Heap.size_push]
      exact Nat.lt_succ_of_lt hlt
  have st3 : tn 0 s3.heap := T.keep _ _ _ st2 fun b _ o e => by
    rw [h3]
    exact Heap.get?_push_of_some _ e
  have I4 := block_start I3 ok hN f3
  have pg := hg s3 (upd H2 D (o0 D)) s3.heap.objs.size (cellsFrom (s3.heap.objs.size + 1) scope.names (cloFrom X.env.cells scope.names [])) fp
  have pt := ht s3 (upd H2 D (o0 D)) s3.heap.objs.size (cellsFrom (s3.heap.objs.size + 1) scope.names (cloFrom X.env.cells scope.names [])) fp
  have pe := he s3 (upd H2 D (o0 D)) s3.heap.objs.size (cellsFrom (s3.heap.objs.size + 1) scope.names (cloFrom X.env.cells scope.names [])) fp
  show codeAny _ _ (.compStart (.SetComp elt [⟨tg, iter, ifs, 0⟩] scope pos) 0 (.ref it) (.ref D) (compEnvC scope (cellsFrom (s3.heap.objs.size + 1) scope.names (cloFrom X.env.cells scope.names [])) s3.heap.objs.size X.env)) _ _
  have none_fp : ∀ b ∈ fp, (upd H2 D (o0 D)) b = none := fun b hb => (f3 b hb).1.1
  generalize hce : compEnvC scope (cellsFrom (s3.heap.objs.size + 1) scope.names (cloFrom X.env.cells scope.names [])) s3.heap.objs.size X.env = ce at I4 pg pt pe ⊢
  have cL : ce.locals = s3.heap.objs.size := by
    subst hce
    rfl
  generalize hH3 : upd H2 D (o0 D) = H3 at I3 I4 pg pt pe w0 none_fp f3
  generalize hs4 : ({ s3 with heap := pushCells (s3.heap.push { cls := .type "dict", data := .dict #[] }) scope.names } : Shared) = s4 at I4 ⊢
  have st4 : tn 0 s4.heap := T.keep _ _ _ st3 fun b _ o e => by
    rw [← hs4]
    exact pushCells_keeps _ _ _ _ (Heap.get?_push_of_some _ e)
  have own_fp : ∀ {σ' : L2.St} {H' : Hp} {z : Shared}, Inv (X.blk s3 H3 scope ce fp) [] σ' H' z → (∀ b ∈ fp, H' b = none) → ∀ b ∈ fp, FpOk (X.blk s3 H3 scope ce fp) [] H' b := fun {σ' H' z} I' hn b hb =>
    ⟨hn b hb, (I'.ok.exf b hb).1, I'.ok.exfs b hb, .inl hb, fun x c e => (I'.ok.exf b hb).2 x c e, fun p hp => absurd (show p ∈ ([] : List (Addr × Obj)) ++ [] from hp) (by simp)⟩
  refine PpSet.codeAny_compStart_set ?loop (T.self X.A 0 _ _ _ st4 ?loop)
  case loop =>
    refine PpSet.compLoopS_any (fun n z => ∃ i H', Inv (X.blk s3 H3 scope ce fp) [] (wipe σ (own.map (·.2))) H' z ∧ tn i z.heap ∧ (∀ b ∈ fp, H' b = none) ∧ W i n H') ?_ m0 ⟨0, H3, I4, st4, none_fp, w0⟩
    rintro n s5 ⟨i, H5, I5, st5, n5, w5⟩
    rcases turn i n H5 w5 with ⟨stop, qq⟩ | ⟨go, Nx, hNx, step⟩
    · refine thnF (T.done (X.blk s3 H3 scope ce fp) rfl rfl rfl hc i [] s5 _ H5 (fun _ _ => False) I5 (own_fp I5 n5) st5 stop) fun r s6 ⟨hr, I6⟩ => ?_
      subst hr
      have I7 : Inv X pins σ H5 s6 := I3.call' (ch := fp) I6.os I6.base I6.hok I6.bare fun b hb => ⟨(f3 b hb).1.2.2.2.1, (f3 b hb).1.2.1, (f3 b hb).1.2.2.2.2.1, (f3 b hb).1.2.2.2.2.2⟩
      have nC : H5 s3.heap.objs.size = none := by
        have z : H5 ce.locals = none := I6.free
        rwa [cL] at z
      obtain ⟨m, hn, _⟩ := I6.loc
      have hn : s6.heap.Ns ce.locals m := hn
      rw [cL] at hn
      refine ⟨m, hn, fun h'' sb => ?_⟩
      obtain ⟨a0, a1, a2, a3, a4, a5⟩ := I3.fpOk (Nat.le_refl _) nC
      exact ⟨.ref D, H5, I7.turned (t' := s6.toks) (fun b o hb e => (sb.2 b hb).trans e) a0 a1 a3 a4 a5, rfl, qq⟩
    · refine thnF (T.item (X.blk s3 H3 scope ce fp) rfl rfl rfl hc i [] s5 _ H5 (fun _ _ => False) I5 (own_fp I5 n5) st5 go) fun o6 s6 ⟨u, hr, h6⟩ => ?_
      subst hr
      refine thnF h6 fun _ s7 ⟨x, H7, I7, r7, y7, st7, n7⟩ => ?_
      have I8 := I7.pinned (own_fp I7 n7) (T.obj _ _ st7)
      refine thnF (pg.run _ s7 _ H7 x u _ I8 r7 (step x H7 y7)) fun _ s8 ⟨σ8, H8, I9, hw8, q8⟩ => ?_
      refine thnF (pt.run _ s8 σ8 H8 _ I9 q8) fun b s9 ⟨H9, I10, q9⟩ => ?_
      have fin : ∀ {z : Shared} {H' : Hp}, Inv (X.blk s3 H3 scope ce fp) ([] ++ pinsAt fp s7.heap) σ8 H' z → Nx H' →
          ∃ m, m < n ∧ ∃ i H', Inv (X.blk s3 H3 scope ce fp) [] (wipe σ (own.map (·.2))) H' z ∧ tn i z.heap ∧ (∀ b ∈ fp, H' b = none) ∧ W i m H' := fun {z H'} I' nx => by
        obtain ⟨m', hm, w'⟩ := hNx H' nx
        have pin : ∀ b ∈ fp, ∀ o, s7.heap.get? b = some o → z.heap.get? b = some o ∧ H' b = none := fun b hb o e =>
          let y := I'.pin (b, o) (List.mem_append_right _ (List.mem_append_right _ (mem_pinsAt hb e)))
          ⟨y.1, y.2.1⟩
        have hl : (wipe σ (own.map (·.2))).length = σ8.length := by rw [← hw8, wipe_length]
        refine ⟨m', hm, i + 1, H', (I'.unpinned (pins := [])).weak hl (fun j v e => ?_), T.keep _ _ _ st7 fun b hb o e => (pin b hb o e).1, fun b hb => ?_, w'⟩
        · rw [← hw8] at e
          exact (wipe_some e).1
        · obtain ⟨o, e, _⟩ := T.obj _ _ st7 b hb
          exact (pin b hb o e).2
      cases b with
      | false =>
        simp only [Bool.false_eq_true, if_false] at q9 ⊢
        exact fin I10 q9
      | true =>
        simp only [if_true] at q9 ⊢
        refine thnF (pe.run _ s9 σ8 H9 _ I10 q9) fun z s10 ⟨yv, H10, I11, r11, nx⟩ => ?_
        exact ar (X.blk s3 H3 scope ce fp) rfl rfl _ _ _ _ D yv z Nx _ _ I11 r11 nx fun _ s11 H11 I12 n12 => fin I12 n12
/-- sorted(found), fewer than 64 texts -/
def rSortT (w : World) : List V → Hp → VK → Prop := fun vs H Q => ∃ (a : Addr) (l : List Str), vs = [V.ref a] ∧ H a = some (setTO w a l) ∧ l.length < 64 ∧
  ∀ (ys : List Str) (p : Addr), ys.Perm l → PyProof.Rows.sortedS ys = true → H p = none → Q (.ref p) (upd H p (.lst (ys.map V.str)))
theorem cr_sortT (hc : X.calm = true) : CallR X (.builtin "sorted") (rSortT X.w) := by
  intro pins s σ H vs us Q I r h
  obtain ⟨a, l, rfl, ha, h64, q⟩ := h
  rw [Vals.ref1 r]
  obtain ⟨o, es, ep, t, ho, hx, hd, g, pm, nd, hb, hf, hr, hl⟩ := setTO_get I ha
  refine Calls.call_function_entry PyProof.Rows.kind_sorted PyProof.Rows.plain_sorted PyProof.Rows.entry_sorted (PyProof.Rows.args_sorted1 _) ?_
  unfold Builtin.«sorted»
  refine wpAny_bind (m := checkCount "sorted" 1 1 _) (wpAny_pure ?_)
  refine wpAny_bind (collect_set (A := X.A.in1) (I.ok.hd hc) ⟨o, ho, hx.1, hd⟩ hf hb hr hl fun s1 out k1 hz g1 o1 po => ?_)
  have el : ∀ v ∈ out, ∃ x t, v = Value.str x t := fun v hv => by
    obtain ⟨e, he, rfl⟩ := List.mem_map.mp (po.mem_iff.mp hv)
    obtain ⟨x, t, rfl⟩ := g e he
    exact ⟨x, t, rfl⟩
  have hS := PyProof.Rows.strsAre_map out el
  have pl : (out.map PyProof.Rows.strOf).Perm l := by
    have z := po.map PyProof.Rows.strOf
    rw [List.map_map] at z
    refine z.trans (.trans (.of_eq (List.map_congr_left fun e he => ?_)) pm)
    obtain ⟨x, t, rfl⟩ := g e he
    rfl
  have ol : out.length = l.length := by
    rw [← pl.length_eq, List.length_map]
  have I1 : Inv X pins σ H s1 := I.call' (ch := []) o1 (Un.kept k1) (I.hok.kept k1) (by rw [g1]; exact I.bare) (fun _ z => nomatch z)
  refine wpAny_bind (wpAny_newList ?_ (by rw [ol, sizeLine_eq]; omega))
  have hL : (s1.heap.push (PyProof.Rows.seqObj "list" out.toArray 0)).get? s1.heap.objs.size = some (PyProof.Rows.seqObj "list" out.toArray 0) := Heap.get?_push_size _ rfl
  refine wpAny_bind (wpAny_holding (wpAny_call_entry PyProof.Rows.slot_list_sort ⟨_, hL, rfl⟩ PyProof.Rows.entry_list_sort
    (PyProof.Rows.list_sort_treeK PyProof.Rows.strKind_oneLt hL hS.keysOf (fun v₁ v₂ rest e => PyProof.Rows.keyKind_strs (by rw [← e]; exact hS)) (by rw [ol]; exact h64) fun st' hp hs => ⟨_, rfl, ?_⟩) (PyProof.Rows.args_list_sort _)))
  obtain ⟨ys, y1, y2, y3⟩ := PyProof.Rows.sorted_out_str hS hp hs
  obtain ⟨e', he'⟩ := PyProof.Rows.sortedHeap_at (vs := out) (out := (PyProof.Rows.arrOf st').map (·.2)) hL
  have py := y2.trans pl
  have hlen : (ys.map V.str).length ≤ sizeLine := by
    rw [List.length_map, py.length_eq]
    exact Nat.le_trans (Nat.le_of_lt h64) (by decide)
  refine wpAny_pure ⟨_, rfl, .ref s1.heap.objs.size, upd H s1.heap.objs.size (.lst (ys.map V.str)), I1.laid (t' := s1.toks) (fun b u e => ?_) (Nat.le_refl _)
    (show ObjOk X.prog X.w _ _ _ (.lst (ys.map V.str)) from ⟨hlen, ((PyProof.Rows.arrOf st').map (·.2)).toList, e', vals_of_strs y1, by rw [Array.toArray_toList]; exact he'⟩), rfl, q ys _ py y3 (I1.hok.fresh (Nat.le_refl _))⟩
  have hb' : b < s1.heap.objs.size := Heap.lt_size e
  rw [PyProof.Rows.sortedHeap_old (Nat.ne_of_lt hb') (by rw [PyProof.Rows.size_push']; exact Nat.lt_succ_of_lt hb')]
  exact Heap.get?_push_of_some _ e
end
end TL

set_option Elab.async false
set_option linter.all false
set_option maxRecDepth 100000
set_option maxHeartbeats 4000000
/-! TLz: set(text), len of it; sorted set comprehensions of texts by data; stars in tuples; x in a tuple; == with a written tuple; zip of lists. -/
namespace TL
open PySem PySem.Spec PyProof.Rows L2
variable [XW]
/-! ### set(x), x a text -/
section
variable {P : Program} {w : World} {A : Around} {E : Value → Shared → Prop} {s : Shared}
/-- the signs of a text, each once -/
def Signs (x : Str) (l : List Str) : Prop := ∀ z, z ∈ l ↔ ∃ c ∈ x.cps.toList, z = ⟨#[c]⟩
theorem fill_text {I : Addr} {fp wr : List Addr} {n : Nat} {Pv : Nat → Value → Prop} {St : Nat → Heap → Prop} {R : Result → Shared → Prop} (W : Walks P w A.in1 I fp wr n Pv St) (S : Addr) (hSf : S ∉ fp)
    (x : Str) (hn : n = x.cps.size) (hb : x.cps.size + 1 < scanBound) (hv : ∀ i v, Pv i v → ∃ c u, x.cps[i]? = some c ∧ v = Value.str ⟨#[c]⟩ u) :
    ∀ (k i : Nat) (s : Shared) (l : List Str), n - i = k → i ≤ n → St i s.heap → l.length ≤ i → SetT w s.heap S l → (∀ z, z ∈ l ↔ ∃ c ∈ x.cps.toList.take i, z = ⟨#[c]⟩) →
      (∀ s' l, Moved (S :: wr) (fun a b => b = a) s s' → SetT w s'.heap S l → Signs x l → l.length ≤ n → R (.ok (.ret .none)) s') →
      codeAny (model P w) A (.builtin "set.update.loop" ⟨[.ref S, .ref I], []⟩) R s := by
  have WS := W.toS
  have hSw : S ∉ wr := fun h => hSf (W.sub _ h)
  intro k
  induction k with
  | zero =>
    intro i s l hk hi hst hl hS hm hR
    have e : i = n := by omega
    subst e
    refine codeAny_builtin F.entry_set_update_loop ?_
    rw [Around.under_plainId F.plain_set_update_loop _]
    show wpAny _ A.in1 (pyNext (.ref I) >>= _) _ _ s
    refine wpAny_bind (WS.done s _ _ hst fun s' mv => ?_)
    show wpAny _ A.in1 (ret Value.none) _ _ s'
    refine wpAny_pure (hR s' l (mv.mono fun b hb => List.mem_cons_of_mem _ hb) (hS.at fun o e => mv.heap S o hSw e) (fun z => ?_) hl)
    rw [hm z, List.take_of_length_le (by rw [Array.length_toList, hn]; exact Nat.le_refl _)]
  | succ k ih =>
    intro i s l hk hi hst hl hS hm hR
    have lt : i < n := by omega
    refine codeAny_builtin F.entry_set_update_loop ?_
    rw [Around.under_plainId F.plain_set_update_loop _]
    show wpAny _ A.in1 (pyNext (.ref I) >>= _) _ _ s
    refine wpAny_bind (WS.item i s _ _ lt hst fun v s' hP hst' mv => ?_)
    obtain ⟨c, u, hc, rfl⟩ := hv i v hP
    have hS' : SetT w s'.heap S l := hS.at fun o e => mv.heap S o hSw e
    show wpAny _ A.in1 (holding [Value.str ⟨#[c]⟩ u] (setAdd S (.str ⟨#[c]⟩ u)) >>= _) _ _ s'
    refine wpAny_bind (wpAny_holding ?_)
    unfold setAdd
    refine wpAny_holding (wpAny_bind ((PySem.strKind P w).pyHash (strKind_is P w ⟨#[c]⟩ u) ?_))
    refine addT_hashed (s := { s' with toks := s'.toks + 1 }) hS' (by omega) fun h' sb S2 => ?_
    have len2 : (if (⟨#[c]⟩ : Str) ∈ l then l else ⟨#[c]⟩ :: l).length ≤ i + 1 := by
      split
      · omega
      · rw [List.length_cons]
        omega
    have mem2 : ∀ z, z ∈ (if (⟨#[c]⟩ : Str) ∈ l then l else ⟨#[c]⟩ :: l) ↔ ∃ d ∈ x.cps.toList.take (i + 1), z = ⟨#[d]⟩ := fun z => by
      have e : x.cps.toList.take (i + 1) = x.cps.toList.take i ++ [c] := by
        rw [List.take_add_one, Array.getElem?_toList, hc]
        rfl
      rw [e]
      have base : (∃ d ∈ x.cps.toList.take i ++ [c], z = ⟨#[d]⟩) ↔ z ∈ l ∨ z = ⟨#[c]⟩ := by
        rw [hm z]
        constructor
        · rintro ⟨d, hd, rfl⟩
          rcases List.mem_append.mp hd with hd | hd
          · exact .inl ⟨d, hd, rfl⟩
          · rw [List.mem_singleton.mp hd]
            exact .inr rfl
        · rintro (⟨d, hd, rfl⟩ | rfl)
          · exact ⟨d, List.mem_append_left _ hd, rfl⟩
          · exact ⟨c, List.mem_append_right _ (List.mem_singleton.mpr rfl), rfl⟩
      rw [base]
      split
      · rename_i hin
        exact ⟨.inl, fun z => z.elim id fun e => e ▸ hin⟩
      · rw [List.mem_cons]
        exact Or.comm
    refine wpAny_pure ⟨plainId_quiet F.plain_set_update_loop _, ih (i + 1) _ _ (by omega) lt (WS.frame _ s' _ _ hst' (Nat.le_succ _) fun b hb o e => ?_) len2 S2 mem2 fun s'' l2 m2 S3 g3 n3 => ?_⟩
    · rw [sb.2 b (fun h : b = S => hSf (by rw [← h]; exact hb))]
      exact e
    · refine hR s'' l2 (Moved.trans WS.gtrans ((mv.mono fun b hb => List.mem_cons_of_mem _ hb).then_heap (Nat.le_succ _) fun b o hb e => ?_) m2) S3 g3 n3
      rw [sb.2 b (fun h : b = S => hb (by rw [h]; exact List.mem_cons_self))]
      exact e
end
section
variable {P : Program} {w : World} {A : Around} {E : Value → Shared → Prop} {s : Shared}
set_option maxHeartbeats 4000000 in
theorem init_text {x : Str} {u : Tok} (calm : A.handled = none) (hb : x.cps.size + 1 < scanBound) :
    codeAny (model P w) A (.call (.builtin "set.__init__") ⟨[.ref s.heap.objs.size, .str x u], []⟩)
      (wants (fun r s2 => r = .none ∧ ∃ (g : Heap) (k : Nat) (l : List Str), s2 = { s with heap := g, toks := k } ∧ SetT w g s.heap.objs.size l ∧ Signs x l ∧ l.length ≤ x.cps.size ∧ ∀ b o, s.heap.get? b = some o → g.get? b = some o) E)
      { s with heap := s.heap.push (setE w) } := by
  have e0 : (s.heap.push (setE w)).get? s.heap.objs.size = some (setE w) := Heap.get?_push_size _ rfl
  have ty : Shared.TypeIs { s with heap := s.heap.push (setE w) } (.ref s.heap.objs.size) "set" := ⟨_, e0, rfl⟩
  refine codeAny_call_builtin F.called_set.init.plain F.entry_set_init (check_set_init_1 ty ?_)
  have f1 := F.sub_str_set
  have f2 := F.sub_str_frozenset
  have f3 : (Value.type "str" == Value.type "dict") = false := by decide
  unfold Builtin.«set.__init__» noKeywords Builtin.Frozenset.updateFrom
  generalize hp : pyIter = PI
  wp_walk
  subst hp
  refine wpAny_pyIter_str fun o St hW st0 => ?_
  refine wpAny_bind (wpAny_runValue ?_)
  have c3 : A.in1.in1.handled = none := by simp [calm]
  have n1 : (s.heap.push (setE w)).objs.size = s.heap.objs.size + 1 := Heap.size_push ..
  have n3 : s.heap.objs.size ∉ [(s.heap.push (setE w)).objs.size] := by
    rw [n1]
    intro z
    exact absurd (List.mem_singleton.mp z) (Nat.ne_of_lt (Nat.lt_succ_self _))
  refine fill_text (hW _ c3) s.heap.objs.size n3 x rfl hb (fun i v h => h) (x.cps.size - 0) 0 _ [] (by omega) (Nat.zero_le _) st0 (Nat.le_refl _) (setT_fresh (Heap.get?_push_of_some _ e0)) (by simp) ?_
  intro s3 l mv S g3 hl
  obtain ⟨g, gs, dr, tk, oo⟩ := s3
  obtain rfl : gs = s.gens := mv.gens
  obtain rfl : dr = s.drawn := mv.drawn
  obtain rfl : oo = s.os := mv.os
  show wpAny _ _ _ _ _ _
  refine wpAny_pure ?_
  show wpAny _ _ (ret Value.none) _ _ _
  refine wpAny_pure ⟨rfl, g, tk, l, rfl, S, g3, hl, fun b ob e => ?_⟩
  have b0 : b < s.heap.objs.size := Heap.lt_size e
  refine mv.heap b ob (fun z => ?_) (Heap.get?_push_of_some _ (Heap.get?_push_of_some _ e))
  rcases List.mem_cons.mp z with z | z
  · exact absurd z (Nat.ne_of_lt b0)
  · have z := List.mem_singleton.mp z
    rw [n1] at z
    exact absurd z (Nat.ne_of_lt (Nat.lt_succ_of_lt b0))
/-- set(x) -/
theorem set_of_text {x : Str} {u : Tok} {Q : Value → Shared → Prop} (calm : A.handled = none) (hb : x.cps.size + 1 < scanBound)
    (k : ∀ (g : Heap) (t : Nat) (l : List Str), SetT w g s.heap.objs.size l → Signs x l → l.length ≤ x.cps.size → (∀ b o, s.heap.get? b = some o → g.get? b = some o) → Q (.ref s.heap.objs.size) { s with heap := g, toks := t }) :
    wpAny (model P w) A (call (.type "set") [.str x u]) Q E s := by
  obtain ⟨m1, m2, m3⟩ := F.called_set.mro; have m4 := F.called_set.made; have m5 := F.called_set.sub
  refine wpAny_call (codeAny_of_tree ?tree); case tree =>
  show wpAny _ _ (callAny (.type "set") ⟨[.str x u], []⟩) _ _ _
  refine wpAny_pure ⟨Code.quiet_builtin _ (by decide +kernel), codeAny_builtin F.entry_type_call ?body⟩; case body =>
  rw [Around.under_plain (weight_type_call_type "set" [.str x u] []) rfl]; have m6 := F.called_set.notType; have m7 := F.called_set.canCreate; have m8 := F.typeCall_set_1 (.str x u)
  repeat (any_goals first | assumption | wp_step)
  refine codeAny_mono (code_set_led1 (.str x u) (E := E) (Q₁ := fun v s1 => v = .ref s.heap.objs.size ∧ s1 = { s with heap := s.heap.push (setE w) }) ⟨rfl, rfl⟩) ?after
  case after =>
    rintro (e | f) s1 hr
    · exact hr
    · cases f with
      | ret v =>
        obtain ⟨rfl, rfl⟩ := hr
        have e0 : (s.heap.push (setE w)).get? s.heap.objs.size = some (setE w) := Heap.get?_push_size _ rfl
        have ty : Shared.TypeIs { s with heap := s.heap.push (setE w) } (.ref s.heap.objs.size) "set" := ⟨_, e0, rfl⟩
        have i1 := F.called_set.init.lookup; have i2 := F.called_set.init.bind (.ref s.heap.objs.size)
        repeat (any_goals first | assumption | wp_step)
        refine codeAny_mono (init_text (E := E) (by first | exact calm | simp [calm]) hb) ?done
        case done =>
          rintro (e | f) s2 hr2
          · exact hr2
          · cases f with
            | ret r =>
              obtain ⟨rfl, g, t, l, rfl, S, g3, hl, kept⟩ := hr2
              repeat (any_goals first | assumption | wp_step)
              exact k g t l S g3 hl kept
            | _ => exact hr2.elim
      | _ => exact hr.elim
end
section
variable {X : Cx}
def rSetS (w : World) : List V → Hp → VK → Prop := fun xs H Q => ∃ x : Str, xs = [V.str x] ∧ x.cps.size < 4000 ∧ ∀ (p : Addr) (l : List Str), H p = none → Signs x l → l.Nodup → Q (.ref p) (upd H p (setTO w p l))
theorem cr_setS (hc : X.calm = true) : CallR X (.type "set") (rSetS X.w) := by
  intro pins s σ H xs us Q I r h
  obtain ⟨x, rfl, hl, q⟩ := h
  obtain ⟨u, rfl, t, rfl⟩ := L2.vals1 r
  refine set_of_text (I.ok.hd hc) (by unfold scanBound; omega) fun g k l S g3 _ kept => ?_
  have free : H s.heap.objs.size = none := I.hok.fresh (Nat.le_refl _)
  have nd : l.Nodup := by
    obtain ⟨_, _, _, _, _, _, _, _, _, nd, _⟩ := S
    exact nd
  exact ⟨.ref _, _, I.laid (t' := k) kept (Nat.le_refl _) (setTO_ok S), rfl, q _ l free g3 nd⟩
/-- len(found) -/
def rLenT (w : World) : List V → Hp → VK → Prop := fun xs H Q => ∃ (a : Addr) (l : List Str), xs = [V.ref a] ∧ H a = some (setTO w a l) ∧ Q (.int (l.length : Nat)) H
theorem cr_lenT : CallR X (.builtin "len") (rLenT X.w) := by
  intro pins s σ H xs us Q I r h
  obtain ⟨a, l, rfl, ha, q⟩ := h
  rw [Vals.ref1 r]
  obtain ⟨o, es, ep, t, ho, hx, hd, g, pm, nd, hb, hf, hr, hl⟩ := setTO_get I ha
  have sz : es.size = l.length := by rw [← pm.length_eq, List.length_map, Array.length_toList]
  refine call_len_set ho hx hd hf ?_ ?_
  · unfold scanBound at hb
    omega
  · rw [sz]
    exact ⟨.int _, H, (I.tok _).tok _, ⟨_, rfl⟩, q⟩
end
/-! ### by data -/
section
variable {K : PySem.W.Frag} {ta tb te : TE} {ua ub ue : DTE}
/-- len(set(x)) -/
def dLenSet (u : DTE) : DTE := fun δ R => u δ fun d δ1 => match d with
  | .str x => x.cps.size < 4000 ∧ ∀ l, Signs x l → l.Nodup → R (.int (l.length : Nat)) δ1
  | _ => False
theorem re_lenSet {w : World} (ha : RE K ta ua) : RE K (tCB (rLenT w) (tCons (tCB (rSetS w) (tCons ta tNil)) tNil)) (dLenSet ua) := by
  intro c σ G H δ Q R E h k
  refine ha c σ G H δ _ _ E h fun d δ1 v G1 H1 h1 E1 e1 r => ?_
  cases d <;> first
    | exact False.elim h1
    | skip
  rename_i x
  obtain ⟨hl, h1⟩ := h1
  have e := r.str_of
  subst e
  refine ⟨x, rfl, hl, fun p l hp g nd => ?_⟩
  have A1 : Al G1 H1 G1 (upd H1 p (setTO w p l)) := Al.tmp E1.ex hp
  exact ⟨p, l, rfl, upd_same, k _ δ1 _ _ _ (h1 l g nd) (E1.al A1) (e1.trans A1.g) (.int _)⟩
/-- the turns of a set comprehension -/
def scW (vs : List Nat) (g : DTG) (t : DTT) (u : DTE) (R : List Str → List Sl → Prop) : List PyData → List Str → List Sl → Prop
  | [], acc, δ => R acc δ
  | d :: r, acc, δ => g d (wipeS δ vs) fun δ1 => t δ1 fun b δ2 => if b = true then u δ2 fun y δ3 => (match y with
    | .str z => acc.length < 4000 ∧ scW vs g t u R r (acc ++ [z]) (wipeS δ3 vs)
    | _ => False) else scW vs g t u R r acc (wipeS δ2 vs)
/-- sorted({..}), of texts -/
def dSortSc (w : DTI) (g : DTG) (t : DTT) (u : DTE) (vs : List Nat) : DTE := fun δ R => w δ fun ds δ1 => scW vs g t u (fun acc δ' => (∀ l : List Str, l.Nodup → (∀ z, z ∈ l ↔ z ∈ acc) → l.length < 64) ∧
  ∀ ms : List Str, PyProof.Rows.sortedS ms = true → ms.Nodup → (∀ z, z ∈ ms ↔ z ∈ acc) → R (.list (ms.map PyData.str)) δ') ds [] δ1
theorem strs_rpD {G : Hp} : ∀ ms : List Str, RpAll K G (ms.map V.str) (ms.map PyData.str)
  | [] => .nil
  | z :: r => .cons (.str z) (strs_rpD r)
section
variable {wi : L2.TI} {uw : DTI} {g : TG} {ug : DTG} {js vs : List Nat} {tt : TT} {ut : DTT}
theorem re_sortSc {w : World} (hw : RI K wi uw) (hg : RG K g ug js) (ht : RT K tt ut) (he : RE K te ue) (hj : ∀ j ∈ js, j ∈ vs) : RE K (tCB (rSortT w) (tCons (tScG (rAddTx w) (fun a => setTO w a []) wi g tt te vs) tNil)) (dSortSc uw ug ut ue vs) := by
  intro c σ G H δ Q R E h k
  refine hw c σ G H δ _ _ E h fun ds δ1 J G1 H1 h1 E1 e1 Y => ?_
  intro D hD
  have hn := hid_new E1 hD
  refine ⟨fun i m H => ∃ G δ acc l, EnvOk K { c with hid := (D, setTO w D l) :: c.hid } G H σ δ ∧ Ex G1 G ∧ l.Nodup ∧ (∀ z, z ∈ l ↔ z ∈ acc) ∧ l.length ≤ acc.length ∧ i ≤ ds.length ∧ m = ds.length - i ∧
    scW vs ug ut ue (fun acc δ' => (∀ l : List Str, l.Nodup → (∀ z, z ∈ l ↔ z ∈ acc) → l.length < 64) ∧ ∀ ms : List Str, PyProof.Rows.sortedS ms = true → ms.Nodup → (∀ z, z ∈ ms ↔ z ∈ acc) → R (.list (ms.map PyData.str)) δ') (ds.drop i) acc δ,
    ⟨ds.length, G1, δ1, [], [], E1.hide (ob := setTO w D []) hD (E1.new0 hD), Ex.refl _, .nil, fun _ => Iff.rfl, Nat.le_refl _, Nat.zero_le _, rfl, h1⟩, ?_⟩
  rintro i m H2 ⟨G2, δ2, acc, l, E2, e2, nd, hm, hll, hi, rfl, h2⟩
  by_cases hlt : i < ds.length
  · have hd : ds[i]? = some ds[i] := List.getElem?_eq_getElem hlt
    rw [List.drop_eq_getElem_cons hlt] at h2
    obtain ⟨hgo, hy⟩ := Y.go G2 H2 i _ e2 E2.ex hd
    refine .inr ⟨hgo, fun H' => ∃ G δ acc l, EnvOk K { c with hid := (D, setTO w D l) :: c.hid } G H' σ δ ∧ Ex G1 G ∧ l.Nodup ∧ (∀ z, z ∈ l ↔ z ∈ acc) ∧ l.length ≤ acc.length ∧
      scW vs ug ut ue (fun acc δ' => (∀ l : List Str, l.Nodup → (∀ z, z ∈ l ↔ z ∈ acc) → l.length < 64) ∧ ∀ ms : List Str, PyProof.Rows.sortedS ms = true → ms.Nodup → (∀ z, z ∈ ms ↔ z ∈ acc) → R (.list (ms.map PyData.str)) δ') (ds.drop (i + 1)) acc δ,
      fun H' ⟨G', δ', acc', l', a1, a2, a3, a4, a5, a6⟩ => ⟨ds.length - (i + 1), by omega, G', δ', acc', l', a1, a2, a3, a4, a5, hlt, rfl, a6⟩, fun x H3 hx => ?_⟩
    obtain ⟨G3, A, rx⟩ := hy x H3 hx
    have E3 := (E2.al A).wipe vs
    refine hg _ (wipe σ vs) G3 H3 _ x _ _ _ E3 rx h2 fun σ4 δ4 h4 E4 l4 s4 => ?_
    rw [wipe_length] at l4
    have o4 : ∀ i, i ∉ vs → σ4[i]? = σ[i]? := fun i hi => by
      rw [s4 i fun z => hi (hj i z), wipe_get, if_neg fun z => hi z.1]
    refine ⟨wipe_eq l4 o4, ?_⟩
    have back : ∀ {cc : Cf} {G H : Hp} {δ : List Sl}, EnvOk K cc G H σ4 δ → EnvOk K cc G H σ (wipeS δ vs) := fun {cc G H δ} E => by
      have z := E.wipe vs
      rw [wipe_eq l4 o4] at z
      refine z.other (by rw [wipe_length]) fun i hi => ?_
      rw [wipe_get, if_neg fun z => hi z.1]
    refine ht _ σ4 G3 H3 δ4 _ _ E4 h4 fun b δ5 G5 H5 h5 E5 e5 => ?_
    have e15 : Ex G1 G5 := (e2.trans A.g).trans e5
    cases b with
    | false => exact ⟨G5, wipeS δ5 vs, acc, l, back E5, e15, nd, hm, hll, h5⟩
    | true =>
      refine he _ σ4 G5 H5 δ5 _ _ E5 h5 fun y δ6 v G6 H6 h6 E6 e6 r6 => ?_
      cases y <;> first
        | exact False.elim h6
        | skip
      rename_i z
      obtain ⟨q1, q2⟩ := E6.hd D _ List.mem_cons_self
      have h6 : acc.length < 4000 ∧ scW vs ug ut ue _ (ds.drop (i + 1)) (acc ++ [z]) (wipeS δ6 vs) := h6
      refine ⟨z, l, r6.str_of, q1, by unfold scanBound; omega, G6, wipeS δ6 vs, acc ++ [z], _, (back E6).grow hn, e15.trans e6, ?_, fun y => ?_, ?_, h6.2⟩
      · split
        · exact nd
        · rename_i hz
          exact List.nodup_cons.mpr ⟨hz, nd⟩
      · rw [List.mem_append, List.mem_singleton, ← hm y]
        split
        · rename_i hz
          exact ⟨.inl, fun q => q.elim id fun e => e ▸ hz⟩
        · rw [List.mem_cons]
          exact Or.comm
      · rw [List.length_append, List.length_singleton]
        split
        · omega
        · rw [List.length_cons]
          omega
  · have ei : i = ds.length := by omega
    subst ei
    rw [List.drop_length] at h2
    obtain ⟨h64, h2⟩ := h2
    obtain ⟨q1, q2⟩ := E2.hd D _ List.mem_cons_self
    refine .inl ⟨Y.stop G2 H2 e2 E2.ex, D, l, rfl, q1, h64 l nd hm, fun ys p py sy hp => ?_⟩
    have A2 := Al.new (o := .lst (ys.map V.str)) E2.ex hp
    refine k _ δ2 _ _ _ (h2 ys sy (py.nodup_iff.mpr nd) fun z => (py.mem_iff).trans (hm z)) (E2.unhide.al A2) ((e1.trans e2).trans A2.g) (.lst upd_same (strs_rpD ys))
end
/-- a slice of a tuple, the whole one too -/
def dSlA : R3D := fun d lo hi R => match d with
  | .tuple ds => R (.tuple (cutP ds lo hi))
  | _ => False
theorem rsl_tupA : RSl K (rSlA K) dSlA := by
  intro G H x d lo hi Q R e r h k
  cases d <;> first
    | exact False.elim h
    | skip
  rename_i ds
  obtain ⟨a, xs, rfl, h1, q1⟩ := r.tup_of
  refine ⟨a, xs, rfl, .inl (.inl (e _ _ h1)), fun hw => ?_, fun _ p hp => ?_⟩
  · rw [q1.len] at hw
    have e1 : cutP ds lo hi = ds := by
      unfold cutP
      rw [hw.1, hw.2, List.drop_zero, Nat.sub_zero, List.take_length]
    have h : R (.tuple (cutP ds lo hi)) := h
    rw [e1] at h
    exact k _ _ G H h (Al.refl e) (.tup h1 q1)
  · have A := Al.new (o := .tup (cutV xs lo hi)) e hp
    exact k _ _ _ _ h A (.tup upd_same ((cut_rp q1 lo hi).up A.g))
/-- *e in a display -/
def dStar (u : DTE) (ur : DTA) : DTA := fun δ R => u δ fun d δ1 => match d with
  | .list ds => ur δ1 fun es δ2 => R (ds ++ es) δ2
  | .tuple ds => ur δ1 fun es δ2 => R (ds ++ es) δ2
  | _ => False
theorem ra_star {tr : TA} {ur : DTA} (ha : RE K te ue) (hr : RA K tr ur) : RA K (StX.tStar K te tr) (dStar ue ur) := by
  intro c σ G H δ Q R E h k
  refine ha c σ G H δ _ _ E h fun d δ1 v G1 H1 h1 E1 e1 r1 => ?_
  cases d <;> first
    | exact False.elim h1
    | skip
  · obtain ⟨a, xs, rfl, q1, q2⟩ := r1.lst_of
    refine ⟨a, xs, rfl, .inr (.inl (.inl (E1.ex _ _ q1))), ?_⟩
    exact hr c σ G1 H1 δ1 _ _ E1 h1 fun es δ2 vs G2 H2 h2 E2 e2 r2 => k _ δ2 _ G2 H2 h2 E2 (e1.trans e2) (RpAll.app (q2.up e2) r2)
  · obtain ⟨a, xs, rfl, q1, q2⟩ := r1.tup_of
    refine ⟨a, xs, rfl, .inl (.inl (.inl (E1.ex _ _ q1))), ?_⟩
    exact hr c σ G1 H1 δ1 _ _ E1 h1 fun es δ2 vs G2 H2 h2 E2 e2 r2 => k _ δ2 _ G2 H2 h2 E2 (e1.trans e2) (RpAll.app (q2.up e2) r2)
/-- x in a tuple -/
def rInDT (K : PySem.W.Frag) (neg : Bool) : R2 := fun x y H Q => ∃ d ds, Dp K H x d ∧ Dp K H y (.tuple ds) ∧ SeqAt.shaped d = true ∧ SeqAt.shaped (.tuple ds) = true ∧ Q (.bl (if neg = true then !(ds.any fun z => PyData.eqv z d) else ds.any fun z => PyData.eqv z d)) H
def dInTup (neg : Bool) : R2D := fun a b R => match b with
  | .tuple ds => SeqAt.shaped a = true ∧ SeqAt.shaped (.tuple ds) = true ∧ R (.bool (if neg = true then !(ds.any fun z => PyData.eqv z a) else ds.any fun z => PyData.eqv z a))
  | _ => False
theorem ro_inTup (neg : Bool) : RO K (rInDT K neg) (dInTup neg) := by
  intro G H x y d1 d2 Q R e r1 r2 h k
  cases d2 <;> first
    | exact False.elim h
    | skip
  rename_i ds
  exact ⟨d1, ds, (r1.up e).dp _ _ (SeqAt.canLay_of_shaped h.1), (r2.up e).dp _ _ (SeqAt.canLay_of_shaped h.2.1), h.1, h.2.1, k _ _ G H h.2.2 (Al.refl e) (.bl _)⟩
/-- == with a written thing -/
def dEqC (u : DTE) (d0 : PyData) (neg : Bool) : DTE := fun δ R => u δ fun d δ1 => SeqAt.shaped d = true ∧ R (.bool (if neg = true then !(PyData.eqv d d0) else PyData.eqv d d0)) δ1
theorem re_eqC {r : R2} {v0 : V} {d0 : PyData} (neg : Bool) (ha : RE K ta ua) (hr : ∀ x H Q d, Dp K H x d → SeqAt.shaped d = true → Q (.bl (if neg = true then !(PyData.eqv d d0) else PyData.eqv d d0)) H → r x v0 H Q) :
    RE K (tOp r ta (tC v0)) (dEqC ua d0 neg) := by
  intro c σ G H δ Q R E h k
  refine ha c σ G H δ _ _ E h fun d δ1 v G1 H1 h1 E1 e1 r1 => ?_
  exact hr v H1 _ d ((r1.up E1.ex).dp _ _ (SeqAt.canLay_of_shaped h1.1)) h1.1 (k _ δ1 _ G1 H1 h1.2 E1 e1 (.bl _))
/-- two texts held against each other -/
def dNeT : R2D := fun a b R => match a, b with
  | .str x, .str y => R (.bool (!(x == y)))
  | _, _ => False
theorem ro_neT : RO K rNe dNeT := by
  intro G H x y d1 d2 Q R e r1 r2 h k
  cases d1 <;> cases d2 <;> first
    | exact False.elim h
    | skip
  have e1 := r1.str_of
  have e2 := r2.str_of
  subst e1 e2
  refine ⟨rfl, ?_⟩
  rw [dec_str]
  exact k _ _ G H h (Al.refl e) (.bl _)
/-- zip of two lists -/
def zipL (xs ys : List PyData) : List PyData := (xs.zip ys).map fun p => .tuple [p.1, p.2]
def diZL (ua ub : DTE) : DTI := fun δ R => ua δ fun d1 δ1 => ub δ1 fun d2 δ2 => match d1, d2 with
  | .list x, .list y => R (zipL x y) δ2
  | _, _ => False
theorem ri_zipL (ha : RE K ta ua) (hb : RE K tb ub) : RI K (iZip K (tCons ta (tCons tb tNil))) (diZL ua ub) := by
  intro c σ G H δ Q R E h k
  refine ha c σ G H δ _ _ E h fun d1 δ1 v1 G1 H1 h1 E1 e1 r1 => ?_
  refine hb c σ G1 H1 δ1 _ _ E1 h1 fun d2 δ2 v2 G2 H2 h2 E2 e2 r2 => ?_
  cases d1 <;> cases d2 <;> first
    | exact False.elim h2
    | skip
  rename_i x y
  obtain ⟨a, xs, rfl, a1, a2⟩ := (r1.up e2).lst_of
  obtain ⟨b, ys, rfl, b1, b2⟩ := r2.lst_of
  have at1 : ∀ {G3 H3 : Hp}, Ex G2 G3 → Ex G3 H3 → SqL K H3 a xs ∧ SqL K H3 b ys := fun e3 e4 => ⟨.inl (.inl (e4 _ _ (e3 _ _ a1))), .inl (.inl (e4 _ _ (e3 _ _ b1)))⟩
  have sl := at1 (Ex.refl _) E2.ex
  refine ⟨a, b, xs, ys, rfl, sl.1, sl.2, k _ δ2 _ G2 H2 h2 E2 (e1.trans e2) ⟨fun G3 H3 z1 z2 => ?_, fun G3 H3 i d z1 z2 hd => ?_⟩⟩
  · refine ⟨xs, ys, (at1 z1 z2).1, (at1 z1 z2).2, ?_⟩
    have l1 := a2.len
    have l2 := b2.len
    unfold zipL
    rw [List.length_map, List.length_zip]
    omega
  · unfold zipL at hd
    rw [List.getElem?_map] at hd
    cases q : (x.zip y)[i]? with
    | none =>
      rw [q] at hd
      cases hd
    | some ch =>
      rw [q] at hd
      cases hd
      rw [List.getElem?_zip_eq_some] at q
      obtain ⟨qa, qb⟩ := q
      obtain ⟨u1, hu1, ru1⟩ := a2.get qa
      obtain ⟨u2, hu2, ru2⟩ := b2.get qb
      have sl := at1 z1 z2
      refine ⟨⟨xs, ys, u1, u2, sl.1, sl.2, hu1, hu2⟩, fun z H4 hy => ?_⟩
      obtain ⟨T, x', y', rfl, hT, rfl, hc, hd⟩ := hy
      have c1 := (hc xs sl.1).symm.trans hu1
      have c2 := (hd ys sl.2).symm.trans hu2
      cases c1
      cases c2
      have A := Al.new (o := .tup [u1, u2]) z2 hT
      exact ⟨_, A, .tup upd_same (.cons ((ru1.up z1).up A.g) (.cons ((ru2.up z1).up A.g) .nil))⟩
end
/-! ### rules by syntax -/
section
variable {X : Cx} {a b e : Expr} {es : List Expr} {ta tb te : TE} {ua ub ue : DTE} {tr : TA} {ur : DTA} {pos p p2 pk : Pos}
theorem op_inDT (neg : Bool) (hu : X.A.units + 65 < cLine) : OpR X (compareOp (if neg = true then .NotIn else .In)) (rInDT X.K neg) := by
  intro pins s σ H x y v u Q I rx ry h
  obtain ⟨d, ds, hd, he, sd, se, q⟩ := h
  obtain ⟨as, r1⟩ := Dp.reads I d x v hd rx
  obtain ⟨bs, r2⟩ := Dp.reads I (.tuple ds) y u he ry
  cases neg with
  | true => exact SeqAt.notIn_tuple_reads r2 r1 (SeqAt.canLay_of_shaped se) (SeqAt.canLay_of_shaped sd) (room_in_shaped sd hu) ⟨.bl _, H, I, rfl, q⟩
  | false => exact SeqAt.in_tuple_reads r2 r1 (SeqAt.canLay_of_shaped se) (SeqAt.canLay_of_shaped sd) (room_in_shaped sd hu) ⟨.bl _, H, I, rfl, q⟩
theorem da_star {sp_ : Pos} (ha : DE X e te ue) (hr : DA X es tr ur) (hs : starEach (.Starred e sp_ :: es) X.env = (true, eval e X.env) :: starEach es X.env := by rfl) : DA X (.Starred e sp_ :: es) (StX.tStar X.K te tr) (dStar ue ur) := ⟨StX.pa_star ha.pe hr.pa hs, ra_star ha.re hr.ra⟩
theorem de_lenSet (hm : X.mg "len" = none) (hm2 : X.mg "set" = none) (ha : DE X a ta ua) (hc : X.calm = true := by rfl) (hg : Gl X "len" := by rfl) (hg2 : Gl X "set" := by rfl)
    (hv2 : bootBuiltins "set" = some (.type "set") := by decide +kernel) (hs : starEach [a] X.env = (false, eval a X.env) :: starEach [] X.env := by rfl) (hpl : (backTo p2 (starEach [] X.env)).any (·.1) = false := by rfl)
    (hs2 : starEach [.Call (.Name "set" pk) [a] [] p2] X.env = (false, eval (.Call (.Name "set" pk) [a] [] p2) X.env) :: starEach [] X.env := by rfl) (hpl2 : (backTo pos (starEach [] X.env)).any (·.1) = false := by rfl) :
    DE X (.Call (.Name "len" p) [.Call (.Name "set" pk) [a] [] p2] [] pos) (tCB (rLenT X.w) (tCons (tCB (rSetS X.w) (tCons ta tNil)) tNil)) (dLenSet ua) :=
  ⟨pe_callB cr_lenT hg hm PySem.boot_len (pa_cons (pe_callTy (cr_setS hc) hg2 hm2 hv2 (pa_cons ha.pe pa_nil hs) (by decide) (by decide) hs hpl) pa_nil hs2) (by decide) (by decide) hs2 hpl2, re_lenSet ha.re⟩
theorem de_sortSc {elt tg iter : Expr} {ifs : List Expr} {scope : Scope} (own : List (Str × Nat)) {w : L2.TI} {uw : DTI} {g : TG} {ug : DTG} {js : List Nat} {tt : TT} {ut : DTT} (hm : X.mg "sorted" = none) (hc : X.calm = true) (hN : X.N.Nodup) (hi : DI X tg iter w uw) (ok : BlkOk X.N X.env.scope scope own)
    (hg : ∀ (s : Shared) (H : Hp) (C : Addr) (cl : List (Str × Addr)) (fp : List Addr), DG (X.blk s H scope (compEnvC scope cl C X.env) fp) tg g ug js) (ht : ∀ (s : Shared) (H : Hp) (C : Addr) (cl : List (Str × Addr)) (fp : List Addr), DTs (X.blk s H scope (compEnvC scope cl C X.env) fp) ifs tt ut)
    (he : ∀ (s : Shared) (H : Hp) (C : Addr) (cl : List (Str × Addr)) (fp : List Addr), DE (X.blk s H scope (compEnvC scope cl C X.env) fp) elt te ue) (hj : ∀ j ∈ js, j ∈ own.map (·.2)) (hs : ∀ x, foldedSetIterable iter X.env x = pure x := by intro _; rfl)
    (hgl : Gl X "sorted" := by rfl) (hv : bootBuiltins "sorted" = some (.builtin "sorted") := by decide +kernel)
    (hs2 : starEach [.SetComp elt [⟨tg, iter, ifs, 0⟩] scope p2] X.env = (false, eval (.SetComp elt [⟨tg, iter, ifs, 0⟩] scope p2) X.env) :: starEach [] X.env := by rfl) (hpl2 : (backTo pos (starEach [] X.env)).any (·.1) = false := by rfl) :
    DE X (.Call (.Name "sorted" p) [.SetComp elt [⟨tg, iter, ifs, 0⟩] scope p2] [] pos) (tCB (rSortT X.w) (tCons (tScG (rAddTx X.w) (fun a => setTO X.w a []) w g tt te (own.map (·.2))) tNil)) (dSortSc uw ug ut ue (own.map (·.2))) :=
  ⟨pe_callB (cr_sortT hc) hgl hm hv (pa_cons (pe_scG addR_text fresh_text hc hN hi.pi ok (fun a b c d e => (hg a b c d e).pg) (fun a b c d e => (ht a b c d e).pt) (fun a b c d e => (he a b c d e).pe) hs) pa_nil hs2) (by decide) (by decide) hs2 hpl2,
   re_sortSc hi.ri (hg X.s_0 X.H_0 0 [] []).rg (ht X.s_0 X.H_0 0 [] []).rt (he X.s_0 X.H_0 0 [] []).re hj⟩
theorem di_zipL {elts : List Expr} {kk : Nat} {tpos : Pos} (hm : X.mg "zip" = none) (ha : DE X a ta ua) (hb : DE X b tb ub) (hg : Gl X "zip" := by rfl)
    (hs : starEach [a, b] X.env = (false, eval a X.env) :: starEach [b] X.env := by rfl) (hs2 : starEach [b] X.env = (false, eval b X.env) :: starEach [] X.env := by rfl) (hpl : (backTo pos (starEach [b] X.env)).any (·.1) = false := by rfl) :
    DI X (.Tuple elts kk tpos) (.Call (.Name "zip" p) [a, b] [] pos) (iZip X.K (tCons ta (tCons tb tNil))) (diZL ua ub) :=
  ⟨pi_zip hg hm (pa_cons ha.pe (pa_cons hb.pe pa_nil hs2) hs) hs hpl, ri_zipL ha.re hb.re⟩
/-- a module's name that stands for a written tuple -/
structure GDat (K : PySem.W.Frag) (mg : Str → Option Value) (x : Str) (a0 : Addr) (d : PyData) : Prop where
  at_ : mg x = some (.ref a0)
  sh : SeqAt.shaped d = true
  dp : ∀ H, Dp K H (.ref a0) d
theorem de_eqG {x : Str} {a0 : Addr} {d0 : PyData} (hu : X.A.units + 64 < cLine) (D : GDat X.K X.mg x a0 d0) (ha : DE X a ta ua) (hg : Gl X x := by rfl) (hd : (x == ("__debug__" : Str)) = false := by decide)
    (hm : lastMarks [CmpOp.Eq] [Expr.Name x p] = false := by first | rfl | exact nomark _) : DE X (.Compare a [.Eq] [.Name x p] pos) (tOp (rEqD X.K) ta (tC (.ref a0))) (dEqC ua d0 false) :=
  ⟨pe_cmpR (op_eqD hu) ha.pe (pe_glob hg D.at_ rfl hd) hm, re_eqC false ha.re fun v H Q d hd hs q => ⟨d, d0, hd, D.dp H, hs, D.sh, q⟩⟩
theorem dt_eqG {x : Str} {a0 : Addr} {d0 : PyData} (hu : X.A.units + 64 < cLine) (D : GDat X.K X.mg x a0 d0) (ha : DE X a ta ua) (hg : Gl X x := by rfl) (hd : (x == ("__debug__" : Str)) = false := by decide)
    (hm : lastMarks [CmpOp.Eq] [Expr.Name x p] = false := by first | rfl | exact nomark _) : DT X (.Compare a [.Eq] [.Name x p] pos) (tTest (tOp (rEqD X.K) ta (tC (.ref a0)))) (dTest (dEqC ua d0 false)) :=
  ⟨pt_cmpR (op_eqD hu) ha.pe (pe_glob hg D.at_ rfl hd) hm, rt_test (re_eqC false ha.re fun v H Q d hd hs q => ⟨d, d0, hd, D.dp H, hs, D.sh, q⟩)⟩
/-- a written tuple of one text -/
theorem gdat_one {K : PySem.W.Frag} {mg : Str → Option Value} {x z : Str} {a0 : Addr} {t : Tok} {n : Nat} (hm : mg x = some (.ref a0)) (hl : K.lookup a0 = some ⟨.type "tuple", none, .seq #[.str z t] n, #[]⟩) (hs : SeqAt.shaped (.tuple [.str z]) = true) : GDat K mg x a0 (.tuple [.str z]) :=
  ⟨hm, hs, fun H => .tup (.inr ⟨_, _, _, hl, rfl, rfl, by show 1 ≤ sizeLine; decide, .cons (show RelV (V.str z) (Value.str z t) from ⟨t, rfl⟩) .nil⟩) (.cons (.str z) .nil)⟩
end
end TL

set_option Elab.async false
set_option linter.all false
set_option maxRecDepth 100000
set_option maxHeartbeats 4000000
/-! TXa: errors of classes of one's own over any built-in error: stored into, made, thrown. -/
namespace TXE
open PySem PySem.W PySem.Spec PySem.Calls PyProof.Rows Builtin Builtin.ObjectAttr
section
variable {prog : Program} {w : World} {A : Around} {R : Result → Shared → Prop} {hp : Heap} {g : Array GenState} {d : Drawn} {t : Nat} {os : OsState} {K : Frag} {B : String} {bmB : List Value} {name : Str} {tk : Tok} {v : Value} {x C dx : Addr} {fv : Array Value}
theorem dict_cls (h : hasDictIn K C = true) : ∃ cd, clsIn K C = some cd ∧ cd.hasDict = true := any_some h
/-- the first field -/
theorem first_field (SF : StoreFacts B bmB "object.__setattr__" "object") (KX : K.In hp) (hx : hp.get? x = some { cls := .ref C, data := .fields fv }) (ov : excOver K C bmB = true) (hd : hasDictIn K C = true) (ht : takerIn K C name = some none)
    (hq : ∀ h' tk' dx, (∀ b o, b ≠ x → hp.get? b = some o → h'.get? b = some o) → hp.objs.size ≤ dx → dx ≠ x → h'.get? x = some { cls := .ref C, dict := some dx, data := .fields fv } →
      h'.Ns1 dx (fun y => if y = name then some v else none) → R (.ok (.ret .none)) ⟨h', g, d, tk', os⟩) :
    codeAny (model prog w) A (.call (.builtin "object.__setattr__") ⟨[.ref x, .str name tk, v], []⟩) R ⟨hp, g, d, t, os⟩ := by
  obtain ⟨cd, hcd, hh⟩ := dict_cls hd
  have inst : InstAt hp x { cls := .ref C, data := .fields fv } C none := ⟨hx, rfl, rfl, trivial⟩
  have hxs : x ≠ hp.objs.size := Nat.ne_of_lt (Heap.lt_size hx)
  have hcls : Looks (model prog w) hp (classData C) cd := looks_clsIn KX hcd
  refine osa_openX SF KX inst ov ht fun b => ?_
  show wpAny _ _ (storeInOwnDict (.ref x) (.ref C) (.str name tk) name v b) _ _ _
  rcases cd with ⟨nm, bs, mro, ns, qn, hd', sn, sb, ab, col, del⟩
  cases (show hd' = true from hh)
  unfold storeInOwnDict ownDictForStores
  repeat (first | with_reducible refine HandSPX.store_in_new ?_ ?_ | with_reducible refine wpAny_loadPart_at hx ?_ | with_reducible refine hcls.at ?_ | wp_step)
  · exact ⟨_, #[], _, (Heap.get?_update_ne _ _ _ _ hxs.symm).trans (Heap.get?_push_at rfl rfl), rfl, fun e he => absurd he (by simp), fun _ => rfl⟩
  · intro h2 tk2 ns2 sb2
    have hx1 : (hp.push { cls := .type "dict", data := .dict #[] }).get? x = some { cls := .ref C, data := .fields fv } := Heap.get?_push_of_some _ hx
    refine hq h2 tk2 hp.objs.size (fun b o hb ho => ?_) (Nat.le_refl _) hxs.symm ?_ ns2
    · rw [sb2.2 b (Nat.ne_of_lt (Heap.lt_size ho)), Heap.get?_update_ne _ _ _ _ hb]
      exact Heap.get?_push_of_some _ ho
    · rw [sb2.2 x hxs]
      exact Heap.get?_update_self _ hx1 rfl
/-- a further field -/
theorem next_field {m0 : Str → Option Value} {nl : List Str} (SF : StoreFacts B bmB "object.__setattr__" "object") (KX : K.In hp) (hx : hp.get? x = some { cls := .ref C, dict := some dx, data := .fields fv }) (hns : hp.Ns1 dx m0) (hw : Within m0 nl) (hz : nl.length ≤ 1000)
    (ov : excOver K C bmB = true) (hd : hasDictIn K C = true) (ht : takerIn K C name = some none)
    (hq : ∀ h' tk', (∀ b o, b ≠ dx → hp.get? b = some o → h'.get? b = some o) → h'.Ns1 dx (fun y => if y = name then some v else m0 y) → R (.ok (.ret .none)) ⟨h', g, d, tk', os⟩) :
    codeAny (model prog w) A (.call (.builtin "object.__setattr__") ⟨[.ref x, .str name tk, v], []⟩) R ⟨hp, g, d, t, os⟩ := by
  obtain ⟨cd, hcd, hh⟩ := dict_cls hd
  obtain ⟨oD, esD, epD, hoD, hdD, _⟩ := hns.count hw
  have inst : InstAt hp x { cls := .ref C, dict := some dx, data := .fields fv } C (some oD) := ⟨hx, rfl, rfl, hoD⟩
  have hcls : Looks (model prog w) hp (classData C) cd := looks_clsIn KX hcd
  refine osa_openX SF KX inst ov ht fun b => ?_
  show wpAny _ _ (storeInOwnDict (.ref x) (.ref C) (.str name tk) name v b) _ _ _
  rcases cd with ⟨nm, bs, mro, ns, qn, hd', sn, sb, ab, col, del⟩
  cases (show hd' = true from hh)
  unfold storeInOwnDict ownDictForStores
  repeat (first | with_reducible refine OEX.store_in_old hns hw hz ?_ | with_reducible refine wpAny_loadPart_at hx ?_ | with_reducible refine hcls.at ?_ | wp_step)
  intro h2 tk2 ns2 sb2
  exact hq h2 tk2 (fun b o hb ho => (sb2.2 b hb).trans ho) ns2
end
end TXE

set_option Elab.async false
set_option linter.all false
set_option maxRecDepth 100000
set_option maxHeartbeats 4000000
/-! TXm: an error's class called by the names of its fields. -/
namespace TXE
open PySem PySem.W PySem.Spec PyProof.Rows
/-- what makes errors whose built-in bases are bmB: the __new__ of one of these bases -/
structure NewOver (newId : String) (bmB : List Value) : Prop where
  ex : ∃ (B initId : String) (bmF : List Value), ExcBaseFacts B newId initId bmF ∧ bmB.contains (.type B) = true ∧ bmB.contains (.type "AttributeError") = false ∧ bmB.contains (.type "NameError") = false
theorem NewOver.of {newId : String} {bmB : List Value} (F : ExcBaseFacts B newId initId bmB) : NewOver newId bmB := ⟨B, initId, bmB, F, F.hasB, F.noAttr, F.noName⟩
open PySem PySem.W PySem.Spec PySem.Calls PyProof.Rows Builtin Builtin.ObjectAttr HandSPX
section
variable {M : Model} {A : Around} {E : Value → Shared → Prop} {h : Heap} {g : Array GenState} {d : Drawn} {t : Nat} {os : OsState}
variable {nm q : Str} {C N : Addr} {bs bm bmB : List Value} {hdct : Bool} {sn : List Str} {sub : List Value} {ab : Bool} {col : Option Bool} {dd : Option Addr} {k0 k1 k2 k3 k5 : Option Value} {newId : String}
theorem kw_check (F0 : NewOver newId bmB) (hT : ∀ X : String, bm.contains (.type X) = bmB.contains (.type X)) {rest : List Value} {kw : List (Str × Value)} {Q : Unit → Shared → Prop}
    (hC : h.get? C = some (excClassObj nm q C N bs bm hdct sn sub ab col dd k0 k1 k2 k3 k5 newId)) (hq : Q () ⟨h, g, d, t, os⟩) : wpAny M A (checkBuiltinCall newId ⟨.ref C :: rest, kw⟩) Q E ⟨h, g, d, t, os⟩ := by
  obtain ⟨B, initId, bmF, F, d1, d2, d3⟩ := F0.ex
  have c1 : (Value.ref C :: bm).contains (.type B) = true := by rw [List.contains_cons, hT, d1, Bool.or_true]
  have c2 := F.noStar
  simp only [checkBuiltinCall, F.newKind, F.newSplit, F.newRow]
  repeat (first | refine wpAny_loadPart_at hC ?_ | (refine wpAny_isSubtype_exc hC ?_; rw [c1]) | refine wpAny_staticBase_exc hC ?_ | refine wpAny_madeBy_exc hC ?_ | simp only [bne_self_eq_false, Bool.false_eq_true, if_false] | wp_step)
  exact hq
end
section
variable {prog : Program} {w : World} {A : Around} {E : Value → Shared → Prop} {R : Result → Shared → Prop} {h : Heap} {g : Array GenState} {d : Drawn} {t : Nat} {os : OsState}
variable {nm q : Str} {C N : Addr} {bs bm bmB : List Value} {hdct : Bool} {sn : List Str} {sub : List Value} {ab : Bool} {col : Option Bool} {dd : Option Addr} {k0 k1 k2 k3 k5 : Option Value} {newId : String}
theorem kw_new (F0 : NewOver newId bmB) (hT : ∀ X : String, bm.contains (.type X) = bmB.contains (.type X)) {rest : List Value} {kw : List (Str × Value)}
    (hC : h.get? C = some (excClassObj nm q C N bs bm hdct sn sub ab col dd k0 k1 k2 k3 k5 newId))
    (hq : R (.ok (.ret (.ref (h.objs.size + 1)))) ⟨(h.push { cls := .type "tuple", data := .seq rest.toArray }).push
      { cls := .ref C, data := .fields #[.ref h.objs.size, .none, .none, .none, .bool false, .none] }, g, d, t, os⟩) (hrest : rest.length ≤ sizeLine) :
    codeAny (model prog w) A (.builtin newId ⟨.ref C :: rest, kw⟩) R ⟨h, g, d, t, os⟩ := by
  obtain ⟨B, initId, bmF, F, d1, d2, d3⟩ := F0.ex
  have ends := F.ends
  have c1 : (Value.ref C :: bm).contains (.type B) = true := by rw [List.contains_cons, hT, d1, Bool.or_true]
  have c2 : (Value.ref C :: bm).contains (.type "AttributeError") = false := by rw [List.contains_cons, hT, d2]; rfl
  have c3 : (Value.ref C :: bm).contains (.type "NameError") = false := by rw [List.contains_cons, hT, d3]; rfl
  refine codeAny_builtinAt F.entry ?_
  unfold Builtin.«BaseException.__new__»
  refine PySem.wpAt_bind ?_
  show PySem.wpAt _ _ _ (stack >>= _) _ _ _
  refine PySem.wpAt_bind (PySem.wpAt_stack fun p below => PySem.wpAt_of_wpAny ?_)
  wp_walk
  refine PySem.wpAt_of_wpAny ?_
  rw [F.owner]
  repeat (first | with_reducible refine wpAny_madeHere_exc F.canon hC ?_ | with_reducible refine wpAny_loadPart_at hC ?_ | (with_reducible refine wpAny_isSubtype_exc hC ?_; first | rw [c1] | rw [c2] | rw [c3]) | wp_step)
  show R _ _
  rw [Heap.size_push]
  exact hq
/-- type.__call__ with names: BaseException.__new__ takes no heed of them, the own __init__ gets them -/
theorem kw_type_call (F0 : NewOver newId bmB) (hT : ∀ X : String, bm.contains (.type X) = bmB.contains (.type X)) {rest : List Value} {kw : List (Str × Value)} {fI : Addr} {Q : Fin → Shared → Prop}
    (hC : h.get? C = some (excClassObj nm q C N bs bm hdct sn sub ab col dd k0 k1 k2 k3 k5 newId))
    (hi : Looks (model prog w) h (typeLookup (.ref C) "__init__") (some (.ref fI))) (hb : ∀ self, Looks (model prog w) h (bindSpecial (.ref fI) self) (.ref fI, [self])) (hrest : rest.length ≤ sizeLine)
    (hq : codeAny (model prog w) A (.call (.ref fI) ⟨.ref (h.objs.size + 1) :: rest, kw⟩)
      (fun r s' => match r with | .ok (.ret v) => v = .none ∧ Q (.done (.ret (.ref (h.objs.size + 1)))) s' | .ok _ => False | .error e => E e s')
      ⟨(h.push (kdv_tup rest)).push (excO C h.objs.size), g, d, t, os⟩) :
    wpAny (model prog w) A (Builtin.«type.__call__» ⟨.ref C :: rest, kw⟩) Q E ⟨h, g, d, t, os⟩ := by
  repeat (first | with_reducible refine wpAny_loadPart_at hC ?_ | with_reducible refine wpAny_madeBy_exc hC ?_ | wp_step)
  refine codeAny_call_builtin_code (Code.quiet_builtin _ (by obtain ⟨_, _, _, F, _⟩ := F0.ex; exact F.quiet)) (kw_check F0 hT hC ?_)
  refine kw_new F0 hT hC ?_ hrest
  show wpAny _ _ _ _ _ _
  have keep : ∀ b o, h.get? b = some o → ((h.push (kdv_tup rest)).push (excO C h.objs.size)).get? b = some o := fun b o e => Heap.get?_push_of_some _ (Heap.get?_push_of_some _ e)
  have hC1 := keep _ _ hC
  have got : ((h.push (kdv_tup rest)).push (excO C h.objs.size)).get? (h.objs.size + 1) = some (excO C h.objs.size) := by heap_get
  have own : (Value.ref C :: bm).contains (.ref C) = true := by simp
  have i1 := hi.keeps keep
  have b1 := (hb (.ref (h.objs.size + 1))).keeps keep
  unfold isInstance
  repeat (first | with_reducible refine wpAny_loadPart_at got ?_ | (with_reducible refine wpAny_isSubtype_exc hC1 ?_; rw [own]) | wp_step)
  show wpAny _ _ (typeLookup (.ref C) _) _ _ _
  refine i1.at ?_
  refine wpAny_holding (wpAny_bind (b1.at ?_))
  refine wpAny_bind (wpAny_call (codeAny_mono hq fun r s' z => ?_))
  rcases r with e | (v | _ | _ | _) <;> first | exact z | exact z.elim | skip
  obtain ⟨rfl, z⟩ := z
  first
    | exact wpAny_pure (wpAny_pure z)
    | (wp_walk; exact z)
theorem kw_check_type {M : Model} {rest : List Value} {kw : List (Str × Value)} {Q : Unit → Shared → Prop} (hC : h.get? C = some (excClassObj nm q C N bs bm hdct sn sub ab col dd k0 k1 k2 k3 k5 newId))
    (hq : Q () ⟨h, g, d, t, os⟩) : wpAny M A (checkBuiltinCall "type.__call__" ⟨.ref C :: rest, kw⟩) Q E ⟨h, g, d, t, os⟩ := by
  have hs := tc_sub
  have hTy : (⟨h, g, d, t, os⟩ : Shared).TypeIs (.ref C) "type" := ⟨_, hC, rfl⟩
  simp only [checkBuiltinCall, tc_kind, tc_split]
  repeat (any_goals (first | assumption | with_reducible refine wpAny_loadPart_at hC ?_ | with_reducible refine wpAny_onRaise ?_ | with_reducible refine wpAny_map ?_ | wp_step))
theorem kw_call (F0 : NewOver newId bmB) (hT : ∀ X : String, bm.contains (.type X) = bmB.contains (.type X)) {rest : List Value} {kw : List (Str × Value)} {fI : Addr}
    (hC : h.get? C = some (excClassObj nm q C N bs bm hdct sn sub ab col dd k0 k1 k2 k3 k5 newId))
    (hi : Looks (model prog w) h (typeLookup (.ref C) "__init__") (some (.ref fI))) (hb : ∀ self, Looks (model prog w) h (bindSpecial (.ref fI) self) (.ref fI, [self])) (hrest : rest.length ≤ sizeLine)
    (hq : codeAny (model prog w) (A.under (.builtin "type.__call__" ⟨.ref C :: rest, kw⟩)) (.call (.ref fI) ⟨.ref (h.objs.size + 1) :: rest, kw⟩) (InitBack (h.objs.size + 1) R)
      ⟨(h.push (kdv_tup rest)).push (excO C h.objs.size), g, d, t, os⟩) :
    codeAny (model prog w) A (.call (.ref C) ⟨rest, kw⟩) R ⟨h, g, d, t, os⟩ := by
  have f1 := tc_lookup
  have f2 := tc_bind (.ref C)
  have hTy : (⟨h, g, d, t, os⟩ : Shared).TypeIs (.ref C) "type" := ⟨_, hC, rfl⟩
  refine codeAny_of_tree ?_
  show wpAny _ _ (callAny (.ref C) _) _ _ _
  repeat (any_goals (first | assumption | with_reducible refine wpAny_loadPart_at hC ?_ | wp_step))
  refine ⟨rfl, ?_⟩
  refine codeAny_call_builtin_at (Code.quiet_builtin _ (by decide +kernel)) entry_typeCall (kw_check_type hC (kw_type_call F0 hT hC hi hb hrest ?_))
  refine codeAny_mono hq fun r s' z => ?_
  rcases r with e | (v | _ | _ | _) <;> exact z
end
end TXE

set_option Elab.async false
set_option linter.all false
set_option maxRecDepth 100000
set_option maxHeartbeats 4000000
/-! TXb: own errors: their fields stored, read; made; asked by isinstance. -/
namespace TL
open PySem PySem.Spec PyProof.Rows L2

/-- what the written part says of an error's class -/
structure ErrC (K : PySem.W.Frag) (C : Addr) : Prop where
  base : ∃ (newId B : String) (bmB : List Value), TXE.NewOver newId bmB ∧ StoreFacts B bmB "object.__setattr__" "object" ∧ PySem.W.excInitIn K C bmB newId = true ∧ PySem.W.excOver K C bmB = true
  sa : PySem.W.findIn K (.ref C) "__setattr__" = some (some (.builtin "object.__setattr__"))
  hd : PySem.W.hasDictIn K C = true
  ex : PySem.W.subIn K (.ref C) (.type "BaseException") = some true
  ty : PySem.W.typeIn K (.ref C) = some (.type "type")
  kp : PySem.W.keepIn K (.ref C) = true
  ga : PySem.W.findIn K (.ref C) "__getattribute__" = some (some (.builtin "BaseException.__getattribute__"))
  gg : PySem.W.findIn K (.ref C) "__getattr__" = some none
  kl : PySem.W.findIn K (.ref C) "__class__" = some (some (.builtin "object.__class__"))
  kg : PySem.W.specialIn K (.builtin "object.__class__") "__get__" = some (some (.builtin "getset_descriptor.__get__"))
  kt : PySem.W.takesIn K (.builtin "object.__class__") = some true
  mo : PySem.W.mroIn K C (.type "object") = some true
section
variable {X : Cx} {pins : List (Addr × Obj)} {σ : L2.St} {H : Hp} {z : Shared} {a C dx : Addr} {f : Str} {y : V} {u : Value} {fs : List (Str × V)} {Q : Unit → Shared → Prop} {Ex0 : Value → Shared → Prop} {A : Around}
/-- self.f = y, where nothing was stored -/
theorem put_first (T : ErrC X.K C) (I : Inv X pins σ H z) (e : H a = some (exo a C none)) (hno : PySem.W.takerIn X.K C f = some none) (ry : RelV y u)
    (h : ∀ dx z', H dx = none → dx ≠ a → Inv X pins σ (upd (upd H dx (exd dx [(f, y)])) a (exo a C (some dx))) z' → Q () z') : wpAny (model X.prog X.w) A (setAttr (.ref a) f u) Q Ex0 z := by
  obtain ⟨newId, B, bmB, _, SF, _, ov⟩ := T.base
  obtain ⟨t1, ho⟩ := exo_at I.hok e
  obtain ⟨hp, gs, dr, tk, ops⟩ := z
  refine PySem.W.set_plain I.kIn (ox := { cls := .ref C, dict := none, data := .fields #[.ref t1, .none, .none, .none, .bool false, .none] }) (od := none) ⟨ho, rfl, rfl, trivial⟩ T.sa ?_
  refine TXE.first_field SF I.kIn ho ov T.hd hno fun h2 tk2 dx keep size ne hx ns => ?_
  have hnd : H dx = none := I.hok.fresh size
  have old : ∀ {b : Addr} {o : Obj}, hp.get? b = some o → b ≠ dx := fun {b o} q => Nat.ne_of_lt (Nat.lt_of_lt_of_le (Heap.lt_size q) size)
  have nota : ∀ {b : Addr}, H b = none → b ≠ a := fun {b} n w => by
    rw [w, e] at n
    cases n
  have U : Un X.fs [] H (upd (upd H dx (exd dx [(f, y)])) a (exo a C (some dx))) hp h2 := {
    keep := fun b o q n _ _ => keep b o (nota n) q
    slot := fun b o q n _ _ => ⟨o.slots, keep b o (nota n) q⟩
    free := fun b o q n _ => by rw [upd_ne (nota n), upd_ne (old q), n]
    there := fun b o q _ => by
      by_cases hb : b = a
      · subst hb
        exact ⟨_, hx⟩
      · exact ⟨o, keep b o hb q⟩
    tups := fun b xs q => by rw [upd_ne (at_ne e q exo_tup), upd_ne (ne_of_none q hnd), q]
    frzs := fun b o v q => by rw [upd_ne (at_ne e q exo_frz), upd_ne (ne_of_none q hnd), q]
    tbls := fun b ps q => ⟨#[], by rw [upd_ne (at_ne e q exo_tbl), upd_ne (ne_of_none q hnd), q, Array.append_empty]⟩ }
  refine h dx _ hnd ne (I.un (t' := tk2) U fun b o q => ?_)
  by_cases hb : b = a
  · subst hb
    rw [upd_same] at q
    cases q
    exact exo_ok hx
  rw [upd_ne hb] at q
  by_cases hd : b = dx
  · subst hd
    rw [upd_same] at q
    cases q
    exact exd_ok ns (relO_put (fs := []) ry fun _ => True.intro)
  rw [upd_ne hd] at q
  refine (I.hok b o q).stay (fun c v hc w => keep c v ?_ w) (fun c hc => ?_) fun c xs hc => ?_
  · rcases hc with rfl | hc
    · exact hb
    · exact at_ne e hc exo_own
  · rw [upd_ne (at_ne e hc exo_own), upd_ne (ne_of_none hc hnd), hc]
  · rw [upd_ne (at_ne e hc exo_tup), upd_ne (ne_of_none hc hnd), hc]
/-- self.f = y, where something was stored before -/
theorem put_next (T : ErrC X.K C) (I : Inv X pins σ H z) (e : H a = some (exo a C (some dx))) (ed : H dx = some (exd dx fs)) (hl : fs.length ≤ 900) (hno : PySem.W.takerIn X.K C f = some none) (ry : RelV y u)
    (h : ∀ z', Inv X pins σ (upd H dx (exd dx ((f, y) :: fs))) z' → Q () z') : wpAny (model X.prog X.w) A (setAttr (.ref a) f u) Q Ex0 z := by
  obtain ⟨newId, B, bmB, _, SF, _, ov⟩ := T.base
  obtain ⟨t1, ho⟩ := exo_at I.hok e
  obtain ⟨mA, ns, rel⟩ := exd_at I.hok ed
  have hw := within_of rel
  obtain ⟨hp, gs, dr, tk, ops⟩ := z
  obtain ⟨oD, _, _, hoD, _, _⟩ := ns.count hw
  refine PySem.W.set_plain I.kIn (ox := { cls := .ref C, dict := some dx, data := .fields #[.ref t1, .none, .none, .none, .bool false, .none] }) (od := some oD) ⟨ho, rfl, rfl, hoD⟩ T.sa ?_
  refine TXE.next_field SF I.kIn ho ns hw (by rw [List.length_map]; omega) ov T.hd hno fun h2 tk2 keep ns2 => ?_
  have hd : ∃ o, h2.get? dx = some o := by
    obtain ⟨o, _, _, w, _⟩ := ns2
    exact ⟨o, w⟩
  exact h _ (I.write (t' := tk2) (x := dx) (e := dx) (o := exd dx ((f, y) :: fs)) (by rw [ed]; exact True.intro) (.inl rfl) keep hd (exd_ok ns2 (relO_put ry rel)))
end
/-- self.f = e -/
def tFld (K : PySem.W.Frag) (f : Str) (to te : TE) : TS := fun D σ H => te σ H fun y H1 => to σ H1 fun x H2 => ∃ a C : Addr, x = .ref a ∧ ErrC K C ∧ PySem.W.takerIn K C f = some none ∧
  ((H2 a = some (exo a C none) ∧ ∀ dx, H2 dx = none → dx ≠ a → D.nx σ (upd (upd H2 dx (exd dx [(f, y)])) a (exo a C (some dx)))) ∨
    (∃ (dx : Addr) (fs : List (Str × V)), H2 a = some (exo a C (some dx)) ∧ H2 dx = some (exd dx fs) ∧ fs.length ≤ 900 ∧ D.nx σ (upd H2 dx (exd dx ((f, y) :: fs)))))
theorem ps_fld {X : Cx} {o e : Expr} {to te : TE} {f : Str} {p pos : Pos} (ho : PE X o to) (he : PE X e te) (hs : swapsWith e (some (.Attribute o f p)) pos.line X.env = pure false := by rfl) : PS X (.Assign [.Attribute o f p] e pos) (tFld X.K f to te) := by
  constructor
  intro pins z σ H D I h
  refine plainObj_wpAny_Assign_Attribute (thn (he.run pins z σ H _ I h) ?_) hs
  rintro v z1 ⟨y, H1, I1, r1, q1⟩
  refine thn (ho.run pins z1 σ H1 _ I1 q1) ?_
  rintro u z2 ⟨x, H2, I2, r2, a, C, rfl, T, hno, q⟩
  obtain rfl : u = Value.ref a := r2
  rcases q with ⟨ea, q⟩ | ⟨dx, fs, ea, ed, hl, q⟩
  · exact put_first T I2 ea hno r1 fun dx z' n ne J => ⟨σ, _, J, q dx n ne⟩
  · exact put_next T I2 ea ed hl hno r1 fun z' J => ⟨σ, _, J, q⟩
end TL

set_option Elab.async false
set_option linter.all false
set_option maxRecDepth 100000
set_option maxHeartbeats 4000000
/-! TXc: an error of a class of one's own is made; raise; defs that raise, by data. -/
namespace TL
open PySem PySem.Spec PyProof.Rows L2

/-- an own __init__ that stores each parameter in the field of its name -/
def spInit (C : Addr) (fields : List Str) : Sp := fun vs H Q _ => ∃ (a : Addr) (xs : List V), vs = .ref a :: xs ∧ xs.length = fields.length ∧ H a = some (exo a C none) ∧
  ∀ (dx : Addr) (H' : Hp), H dx = none → dx ≠ a → H' a = some (exo a C (some dx)) → H' dx = some (exd dx (fields.zip xs).reverse) → (∀ b, b ≠ a → b ≠ dx → H' b = H b) → Q .non H'
theorem RoomG.make {k : Nat} {A : Around} (r : RoomG (k + 1) A) (C : Addr) (us : List Value) (kw : List (Str × Value)) : RoomG k (A.under (.builtin "type.__call__" ⟨.ref C :: us, kw⟩)) := ⟨r.room.make C us kw, r.gd⟩
/-- C(..), its __init__ as above -/
def tMkE (C : Addr) (fields : List Str) (ta : TA) : L2.St → Hp → XK → Prop := fun σ H Q => ta σ H fun vs H1 => vs.length = fields.length ∧ vs.length ≤ 1000 ∧ ∀ d, H1 d = none → Q (.ref C) (some d) (upd H1 d (.xd (fields.zip vs).reverse))
/-- the class x of errors, at C, with these fields -/
structure KnE (P : Program) (w : World) (K : PySem.W.Frag) (mg : Str → Option Value) (base : Heap) (x : Str) (C : Addr) (fields : List Str) : Prop where
  ec : ErrC K C
  at_ : mg x = some (.ref C)
  ini : ∃ (fI : Addr) (fd : FuncData) (ps : List Str) (CX : CXT), PySem.W.findIn K (.ref C) "__init__" = some (some (.ref fI)) ∧ PySem.W.typeIn K (.ref fI) = some (.type "function") ∧ FnOkG P w K mg base CX 1 fI fd ps (spInit C fields) ∧ Binds K fd ps [] ∧
    ∀ X : Cx, X.prog = P → X.w = w → Passes CX X (fun _ _ _ => False)
section
variable {X : Cx} {x : Str} {C : Addr} {fields : List Str} {e : Expr} {es : List Expr} {ta : TA} {p pos : Pos}
theorem pmk_err {k : Nat} (kn : KnE X.prog X.w X.K X.mg X.base x C fields) (hr : RoomG (k + 2) X.A) (hg : Gl X x) (ha : PA X (e :: es) ta)
    (hdb : (x == ("__debug__" : Str)) = false := by decide) (he : starEach (e :: es) X.env = (false, eval e X.env) :: starEach es X.env := by rfl) (hpl : (backTo pos (starEach es X.env)).any (·.1) = false := by rfl) :
    PMk X (.Call (.Name x p) (e :: es) [] pos) (tMkE C fields ta) := by
  intro pins σ0 σ H Q I h
  obtain ⟨fI, fd, ps, CX, iC, tI, F1, hb, hx⟩ := kn.ini
  have T := kn.ec
  obtain ⟨newId, B, bmB, FB, _, qi, _⟩ := T.base
  refine wpAny_Call_Name_kw (ld_glob I hg kn.at_ ?_ hdb)
  refine PySem.W.callWith_K (h₀ := X.base) I.ok.mod.kin T.kp (thn (ha.run pos pins σ0 σ H _ I h) fun us z1 ⟨vs, H1, I1, r1, len, hz, q1⟩ => ⟨I1.kIn, ?_⟩) he hpl
  obtain ⟨hp, gs, dr, tk, ops⟩ := z1
  obtain ⟨nm, N, qn, bs, bm, hdct, sn, sub, ab, col, dd, k0, k1, k2, k3, k5, hC, hT⟩ := PySem.W.excInit_of I1.kIn qi
  have one : hp.objs.size ≤ hp.objs.size + 1 := Nat.le_succ _
  generalize hE : hp.objs.size + 1 = a at one
  have hn : H1 a = none := I1.hok.fresh one
  have keep : ∀ b o, hp.get? b = some o → ((hp.push (PySem.W.kdv_tup us)).push (PySem.HandSPX.excO C hp.objs.size)).get? b = some o := fun b o w => Heap.get?_push_of_some _ (Heap.get?_push_of_some _ w)
  have at_a : ((hp.push (PySem.W.kdv_tup us)).push (PySem.HandSPX.excO C hp.objs.size)).get? a = some (PySem.HandSPX.excO C hp.objs.size) := by
    subst hE
    heap_get
  have I2 : Inv X pins σ (upd H1 a (exo a C none)) ⟨(hp.push (PySem.W.kdv_tup us)).push (PySem.HandSPX.excO C hp.objs.size), gs, dr, tk, ops⟩ := I1.laid (t' := tk) (a := a) (o := exo a C none) keep one (exo_ok at_a)
  have rel : Vals (V.ref a :: vs) (Value.ref a :: us) := .cons rfl r1
  have hlen := Paired.length r1
  have hus : us.length ≤ sizeLine := by
    rw [← hlen, sizeLine_eq]
    omega
  have sp : spInit C fields (V.ref a :: vs) (upd H1 a (exo a C none))
      (fun v H2 => v = .non ∧ ∃ dx : Addr, H2 a = some (exo a C (some dx)) ∧ H2 dx = some (exd dx (fields.zip vs).reverse) ∧ H1 dx = none ∧ dx ≠ a ∧ ∀ b, b ≠ a → b ≠ dx → H2 b = H1 b) (fun _ _ _ => False) := by
    refine ⟨a, vs, rfl, len, upd_same, fun dx H2 n1 n2 e1 e2 e3 => ⟨rfl, dx, e1, e2, ?_, n2, fun b b1 b2 => ?_⟩⟩
    · rw [upd_ne n2] at n1
      exact n1
    · rw [e3 b b1 b2, upd_ne b1]
  have lenP : (Value.ref a :: us ++ []).length = ps.length := by
    rw [List.append_nil, ← F1.len _ _ _ _ sp, List.length_cons, List.length_cons, hlen]
  have bnd := hb _ (Value.ref a :: us) I2.kIn lenP
  rw [List.append_nil] at bnd
  subst hE
  refine wpAny_call (TXE.kw_call (kw := []) FB hT hC (PySem.W.looks_findIn I1.kIn iC) (fun self => PySem.W.bind_fn I1.kIn self tI) hus
    (codeAny_mono (F1.run _ X.stack _ _ ⟨Value.ref (hp.objs.size + 1) :: us, []⟩ (Value.ref (hp.objs.size + 1) :: us) _ _ (fun _ _ _ => False) ((hr.make C us []).mono (by omega)) (I2.env0.make C us []) bnd rel sp) ?_))
  rintro (er | fl) z' hq
  · exact hx X rfl rfl pins σ _ _ er z' I2 hq
  · cases fl with
    | ret u =>
      obtain ⟨v, H2, os2, bare2, un2, hok2, rv, rfl, dx, ea, ed, hd1, ne, q2⟩ := hq
      obtain ⟨h2, g2, d2, t2, os'⟩ := z'
      refine ⟨rv, mk_end (raises_own T.ex T.ty) I1 one keep un2 hok2 os2 bare2 ea ed hd1 ?_⟩
      have eq : upd (del H2 (hp.objs.size + 1)) dx (.xd (fields.zip vs).reverse) = upd H1 dx (.xd (fields.zip vs).reverse) := by
        funext b
        by_cases b2 : b = dx
        · subst b2
          rw [upd_same, upd_same]
        · rw [upd_ne b2, upd_ne b2]
          by_cases b1 : b = hp.objs.size + 1
          · subst b1
            rw [del_same, hn]
          · rw [del_ne b1, q2 b b1 b2]
      rw [eq]
      exact q1 dx hd1
    | next => exact False.elim hq
    | brk => exact False.elim hq
    | cont => exact False.elim hq
end
end TL

set_option Elab.async false
set_option linter.all false
set_option maxRecDepth 100000
set_option maxHeartbeats 4000000
/-! TXd: own __init__s; raise; defs that raise, by data. -/
namespace TL
open PySem PySem.Spec PyProof.Rows L2

/-- the defs that a class's suite holds -/
def inCls (n : Nat) : Stmt → Stmt
  | .ClassDef _ _ _ b _ _ _ _ _ _ p => b.getD n (.Pass p)
  | st => st
section
variable {P : Program} {w : World} {K : PySem.W.Frag} {mg : Str → Option Value} {base : Heap} {x qual : Str} {st : Stmt} {f C : Addr} {fd : FuncData} {s n n' : Str}
theorem init1 (F : Fun K x qual st f fd) (sc : FnScope [s, n] [s, n] (defScope st)) (T : ErrC K C) (hf : PySem.W.takerIn K C n = some none)
    (hps : ∀ (cdv : Value) (A : Around) (outer : List Env) (z : Shared) (H : Hp) (E : XK), PSs (cxOf CX0 P w K mg base [s, n] qual (defScope st) f cdv A outer z H E) (defBody st) (tFld K n (tVar 0) (tVar 1))) : FnOkG P w K mg base CX0 1 f fd [s, n] (spInit C [n]) := by
  refine fun_okG F sc (fun vs H Q E h => ?_) (fun cdv A outer z H vs Q E hr h => ⟨_, hps cdv A outer z H E, ?_⟩)
  · obtain ⟨a, xs, rfl, len, _⟩ := h
    rw [List.length_cons, len]
    rfl
  · obtain ⟨a, xs, rfl, len, ha, q⟩ := h
    match xs, len with
    | [y], _ =>
      refine ⟨y, rfl, .ref a, rfl, a, C, rfl, T, hf, .inl ⟨ha, fun dx h1 h2 => q dx _ h1 h2 upd_same ?_ fun b b1 b2 => ?_⟩⟩
      · rw [upd_ne h2, upd_same]
        rfl
      · rw [upd_ne b1, upd_ne b2]
theorem init2 (F : Fun K x qual st f fd) (sc : FnScope [s, n, n'] [s, n, n'] (defScope st)) (T : ErrC K C) (hf : PySem.W.takerIn K C n = some none) (hf' : PySem.W.takerIn K C n' = some none)
    (hps : ∀ (cdv : Value) (A : Around) (outer : List Env) (z : Shared) (H : Hp) (E : XK), PSs (cxOf CX0 P w K mg base [s, n, n'] qual (defScope st) f cdv A outer z H E) (defBody st) (tSeq (tFld K n (tVar 0) (tVar 1)) (tFld K n' (tVar 0) (tVar 2)))) : FnOkG P w K mg base CX0 1 f fd [s, n, n'] (spInit C [n, n']) := by
  refine fun_okG F sc (fun vs H Q E h => ?_) (fun cdv A outer z H vs Q E hr h => ⟨_, hps cdv A outer z H E, ?_⟩)
  · obtain ⟨a, xs, rfl, len, _⟩ := h
    rw [List.length_cons, len]
    rfl
  · obtain ⟨a, xs, rfl, len, ha, q⟩ := h
    match xs, len with
    | [y, y'], _ =>
      refine ⟨y, rfl, .ref a, rfl, a, C, rfl, T, hf, .inl ⟨ha, fun dx h1 h2 => ⟨y', rfl, .ref a, rfl, a, C, rfl, T, hf', .inr ⟨dx, [(n, y)], upd_same, by rw [upd_ne h2, upd_same], by show 1 ≤ 900; omega, ?_⟩⟩⟩⟩
      refine q dx _ h1 h2 ?_ ?_ fun b b1 b2 => ?_
      · rw [upd_ne (Ne.symm h2), upd_same]
      · rw [upd_same]
        rfl
      · rw [upd_ne b2, upd_ne b1, upd_ne b2]
theorem pass_cx0 : ∀ X : Cx, X.prog = P → X.w = w → Passes CX0 X (fun _ _ _ => False) := fun X _ _ => pass0
end
theorem zip_rev {α β : Type} : ∀ {l : List α} {m : List β}, l.length = m.length → (l.zip m).reverse = l.reverse.zip m.reverse
  | [], [], _ => rfl
  | a :: l, b :: m, h => by
    have h : l.length = m.length := Nat.succ.inj h
    rw [List.zip_cons_cons, List.reverse_cons, List.reverse_cons, List.reverse_cons, zip_rev h, List.zip_append (by rw [List.length_reverse, List.length_reverse, h])]
    rfl
theorem RpAll.rev {K : PySem.W.Frag} {G : Hp} : ∀ {vs : List V} {ds : List PyData}, RpAll K G vs ds → RpAll K G vs.reverse ds.reverse
  | _, _, .nil => .nil
  | _, _, .cons h r => by
    rw [List.reverse_cons, List.reverse_cons]
    exact (RpAll.rev r).app (.one h)
section
variable [XW] {K : PySem.W.Frag}
theorem EnvOk.core {c : Cf} {G H : Hp} {σ : L2.St} {δ : List Sl} (E : EnvOk K c G H σ δ) : EnvC K { c with hid := [] } G H σ δ where
  g0 := E.g0
  ex := E.ex
  fr := E.fr
  fs := E.fs
  tg := E.tg
  len := E.len
  sl := fun i s h => by
    have z := E.sl i s h
    cases s with
    | no => trivial
    | dat d => exact z
    | scr d => exact z
    | own t d => exact z
  ap := E.ap
  hd := fun p o h => nomatch h
/-- raise C(..) -/
def dRaise (C : Addr) (fields : List Str) (ua : DTA) : DTS := fun _ δ => ua δ fun ds δ1 => ds.length = fields.length ∧ fields.length ≤ 1000 ∧ XW.xr (errD C fields.reverse ds.reverse) δ1
theorem rs_raise {C : Addr} {fields : List Str} {ta : TA} {ua : DTA} (ha : RA K ta ua) : RS K (fun _ σ H => tMkE C fields ta σ H fun cls d H' => XW.w cls d σ H') (dRaise C fields ua) := by
  intro c σ G H δ D E EV h k
  refine ha c σ G H δ _ _ EV h fun ds δ1 vs G1 H1 h1 E1 e1 r1 => ?_
  obtain ⟨len, big, hx⟩ := h1
  have len1 := r1.len
  refine ⟨by rw [len1, len], by omega, fun d hd => ?_⟩
  have E2 := E1.al (Al.new (o := .xd (fields.zip vs).reverse) E1.ex hd)
  refine E2.xw _ _ _ _ _ _ _ hx E2.core (.some upd_same (zip_rev (by rw [len1, len])) (r1.rev.up (Ex.new (E1.ex.none hd))) ?_)
  rw [List.length_reverse, List.length_reverse, len]
theorem ds_raise {X : Cx} {x : Str} {C : Addr} {fields : List Str} {e : Expr} {es : List Expr} {ta : TA} {ua : DTA} {p pos pos' : Pos} {j : Nat} (hc : X.calm = true) (tk : Takes X XW.w) (kn : KnE X.prog X.w X.K X.mg X.base x C fields) (hr : RoomG j X.A) (hk : 2 ≤ j) (ha : DA X (e :: es) ta ua) (hg : Gl X x := by rfl)
    (hdb : (x == ("__debug__" : Str)) = false := by decide) (he : starEach (e :: es) X.env = (false, eval e X.env) :: starEach es X.env := by rfl) (hpl : (backTo pos (starEach es X.env)).any (·.1) = false := by rfl) :
    DS X (.Raise (some (.Call (.Name x p) (e :: es) [] pos)) none pos') (fun _ σ H => tMkE C fields ta σ H fun cls d H' => XW.w cls d σ H') (dRaise C fields ua) :=
  ⟨ps_raise hc tk (pmk_err (k := 0) (hr.mono hk) (kn := kn) hg ha.pa hdb he hpl), rs_raise ha.ra⟩
end

/-! ### defs that raise -/
abbrev DSx := List Sl → (PyData → List (List PyData) → Prop) → (PyData → List (List PyData) → Prop) → Prop
def spX (K : PySem.W.Frag) (S : DSx) : Sp := fun vs H Q E => ∃ (c : Cf) (as : List Sl) (R Xr : PyData → List (List PyData) → Prop), c.hid = [] ∧ c.H0 = H ∧ EnvC K c c.G0 H (vs.map some) as ∧ S as R Xr ∧
  (∀ d outs v G' H', R d outs → Fin K c G' H' outs → Rp K G' v d → Q v H') ∧ ∀ err outs cls d G' H', Xr err outs → Fin K c G' H' outs → ErrRp K G' cls d err → E cls d H'
theorem EnvC.fin {K : PySem.W.Frag} {c : Cf} {G H : Hp} {σ : L2.St} {δ : List Sl} {outs : List (List PyData)} (E : EnvC K c G H σ δ) (ho : OutsIn δ outs) : Fin K c G H outs :=
  ⟨E.g0, E.ex, E.fr, E.fs, E.tg, fun j cs hj => by
    obtain ⟨i, hi⟩ := ho j cs hj
    obtain ⟨p, xs, _, _, hh, r, q⟩ := E.sl i _ hi
    exact ⟨xs, by rw [← q.2]; exact hh, r⟩⟩
section
variable {P : Program} {w : World} {K : PySem.W.Frag} {mg : Str → Option Value} {base : Heap}
theorem takes_cx {N : List Str} {qual : Str} {scope : Scope} {f : Addr} {cdv : Value} {A : Around} {outer : List Env} {z : Shared} {H : Hp} {E : XK} : Takes (cxOf (L2.CX P w) P w K mg base N qual scope f cdv A outer z H E) (fun cls d _ H => E cls d H) :=
  takes_of rfl rfl rfl rfl
theorem fnX {x qual : Str} {st : Stmt} {f : Addr} {fd : FuncData} {N ps : List Str} {k : Nat} {S : DSx} (F : Fun K x qual st f fd) (sc : FnScope N ps (defScope st)) (len : ∀ as R Xr, S as R Xr → as.length = ps.length)
    (hbody : ∀ (cdv : Value) (A : Around) (outer : List Env) (z : Shared) (H : Hp) (E : XK), RoomG k (A.deeper (envOfC qual (defScope st) z.heap.objs.size f cdv)) → ∀ (xw : XW), Takes (cxOf (L2.CX P w) P w K mg base N qual (defScope st) f cdv A outer z H E) xw.w →
      ∃ t u, DSs (cxOf (L2.CX P w) P w K mg base N qual (defScope st) f cdv A outer z H E) (defBody st) t u ∧ ∀ as R Xr, S as R Xr → (xw.xr = fun err δ => ∃ outs, Xr err outs ∧ OutsIn δ outs) → u (endsOf R) (as ++ List.replicate (N.length - ps.length) .no)) :
    FnOkG P w K mg base (L2.CX P w) (k + 1) f fd ps (spX K S) := by
  refine fun_okG F sc (fun vs H Q E h => ?_) (fun cdv A outer z H vs Q E hr h => ?_)
  · obtain ⟨c, as, R, Xr, _, _, EV, hS, _⟩ := h
    have := EV.len
    rw [List.length_map] at this
    rw [this]
    exact len as R Xr hS
  · obtain ⟨c, as, R, Xr, hh, h0, EV, hS, k, kx⟩ := h
    let xw : XW := ⟨fun cls d _ H => E cls d H, fun err δ => ∃ outs, Xr err outs ∧ OutsIn δ outs⟩
    obtain ⟨t, u, D, red⟩ := hbody cdv A outer z H E hr xw takes_cx
    refine ⟨t, D.ps, ?_⟩
    have l1 : vs.length = ps.length := by
      have := EV.len
      rw [List.length_map] at this
      rw [this]
      exact len as R Xr hS
    have core : ({ c with hid := [] } : Cf) = c := by
      obtain ⟨τ, n, G0, H0, hid⟩ := c
      dsimp only at hh
      subst hh
      rfl
    have EV' : EnvOk K c c.G0 H (L2.start N vs) (as ++ List.replicate (N.length - ps.length) .no) := by
      have y := EV.more (N.length - ps.length)
      have y' : EnvC K c c.G0 H (L2.start N vs) (as ++ List.replicate (N.length - ps.length) .no) := by
        unfold L2.start
        rw [l1]
        exact y
      refine ⟨y', fun cls d err G' H' σ' δ' hx EC er => ?_⟩
      obtain ⟨outs, hX, ho⟩ := hx
      rw [core] at EC
      exact kx err outs cls d G' H' hX (EC.fin ho) er
    refine D.rs c (L2.start N vs) c.G0 H _ _ (endsOf R) EV' (red as R Xr hS rfl) ⟨?_, ?_, ?_, ?_, ?_, hh⟩
    · rintro σ' G' H' δ' ⟨outs, hR, ho⟩ E' e
      exact k .none outs .non G' H' hR (E'.toEnvC.fin ho) .non
    · rintro d δ' v σ' G' H' ⟨outs, hR, ho⟩ E' e r
      exact k d outs v G' H' hR (E'.toEnvC.fin ho) r
    · exact fun σ' G' H' δ' a _ _ => False.elim a
    · exact fun σ' G' H' δ' a _ _ => False.elim a
    · exact fun ds δ' p xs σ' G' H' a _ _ _ _ => False.elim a
/-- a def that may raise, by its name -/
structure KnX (P : Program) (w : World) (K : PySem.W.Frag) (mg : Str → Option Value) (base : Heap) (k : Nat) (x : Str) (S : DSx) : Prop where
  ex : ∃ (f : Addr) (fd : FuncData) (ps : List Str), FnOkG P w K mg base (L2.CX P w) k f fd ps (spX K S) ∧ mg x = some (.ref f) ∧ PySem.W.keepIn K (.ref f) = true ∧ Binds K fd ps []
end
section
variable {X : Cx} {CX : CXT} {k : Nat} {f : Addr} {fd : FuncData} {ps : List Str} {sp : Sp} {E : L2.St → XK} {x : Str} {p pos : Pos} {e : Expr} {es : List Expr} {t : TA} {ds : List Value} {dvs : List V}
theorem run_fnGS {pins : List (Addr × Obj)} {σ : L2.St} {H : Hp} {z : Shared} {Q : VK} {us : List Value} {vs : List V} (F : FnOkG X.prog X.w X.K X.mg X.base CX k f fd ps sp) (hr : RoomG k X.A) (hb : Binds X.K fd ps ds) (hd : Vals dvs ds) (hx : PassesAt CX X σ (E σ))
    (I : Inv X pins σ H z) (r : Vals vs us) (h : sp (vs ++ dvs) H Q (E σ)) : wpAny (model X.prog X.w) X.A (call (.ref f) us) (EP X pins σ Q) X.xe z := by
  have rr := r.append hd
  have len := rr.length.symm.trans (F.len _ _ _ _ h)
  refine wpAny_call (codeAny_mono (F.run X.A X.stack z H _ _ _ Q (E σ) hr I.env0 (hb z us I.kIn len) rr h) ?_)
  rintro (er | fl) z' hq
  · exact hx pins H z er z' I hq
  · cases fl <;> first
      | exact I.after hq
      | exact False.elim hq
/-- .. with defaults dvs -/
def tCallSD (sp : Sp) (dvs : List V) (E : L2.St → XK) (t : TA) : TE := fun σ H Q => t σ H fun vs H1 => sp (vs ++ dvs) H1 Q (E σ)
theorem pe_callGS (F : FnOkG X.prog X.w X.K X.mg X.base CX k f fd ps sp) (hr : RoomG k X.A) (hg : Gl X x) (hm : X.mg x = some (.ref f)) (hk : PySem.W.keepIn X.K (.ref f) = true) (hb : Binds X.K fd ps ds) (hd : Vals dvs ds) (hx : ∀ σ, PassesAt CX X σ (E σ)) (ha : PA X (e :: es) t)
    (hdb : (x == ("__debug__" : Str)) = false := by decide) (he : starEach (e :: es) X.env = (false, eval e X.env) :: starEach es X.env := by rfl) (hpl : (backTo pos (starEach es X.env)).any (·.1) = false := by rfl) : PE X (.Call (.Name x p) (e :: es) [] pos) (tCallSD sp dvs E t) := by
  constructor
  intro pins z σ H Q I h
  refine wpAny_Call_Name_kw (ld_glob I hg hm ?_ hdb)
  exact PySem.W.callWith_K (h₀ := X.base) I.ok.mod.kin hk (thn (ha.run pos pins z σ H _ I h) fun us z1 ⟨vs, H1, I1, r, q⟩ => ⟨I1.kIn, run_fnGS F hr hb hd (hx σ) I1 r q⟩) he hpl
end
section
variable [XW] {K : PySem.W.Frag}
def dCallX (S : DSx) (ua : DCA) : DTE := fun δ R => ua δ fun cs δ1 => (muts δ1 cs).Nodup ∧ S (asOf δ1 cs 0) (fun d outs => outs.length = (muts δ1 cs).length ∧ R d (setOuts δ1 (muts δ1 cs) outs)) fun err outs => outs.length = (muts δ1 cs).length ∧ XW.xr err (setOuts δ1 (muts δ1 cs) outs)
theorem re_callX {S : DSx} {t : TA} {ua : DCA} (ha : RCA K t ua) : RE K (tCallSD (spX K S) [] (WE XW.w) t) (dCallX S ua) := by
  intro c σ G H δ Q R E h k
  refine ha c σ G H δ _ _ E h fun cs δ1 vs G1 H1 h1 E1 e1 r1 => ?_
  obtain ⟨hn, hS⟩ := h1
  show spX K S (vs ++ []) H1 Q _
  rw [List.append_nil]
  refine ⟨calleeC σ (muts δ1 cs) G1 H1, asOf δ1 cs 0, _, _, rfl, rfl, callee_env E1 r1 hn, hS, fun d outs v G' H' hR F rv => ?_, fun err outs cls d G' H' hX F er => ?_⟩
  · exact k d _ v G' H' hR.2 (caller_back E1 hn hR.1 F) (e1.trans F.g0) rv
  · have EB := caller_back E1 hn hX.1 F
    exact EB.xw _ _ _ _ _ _ _ hX.2 EB.core er
theorem de_callX {X : Cx} {x : Str} {S : DSx} {k j : Nat} {e : Expr} {es : List Expr} {tca : TA} {uca : DCA} {p pos : Pos} (tk : Takes X XW.w) (kn : KnX X.prog X.w X.K X.mg X.base k x S) (hr : RoomG j X.A) (hk : k ≤ j) (ha : DCa X (e :: es) tca uca) (hg : Gl X x := by rfl) (hdb : (x == ("__debug__" : Str)) = false := by decide)
    (he : starEach (e :: es) X.env = (false, eval e X.env) :: starEach es X.env := by rfl) (hpl : (backTo pos (starEach es X.env)).any (·.1) = false := by rfl) : DE X (.Call (.Name x p) (e :: es) [] pos) (tCallSD (spX X.K S) [] (WE XW.w) tca) (dCallX S uca) := by
  obtain ⟨f, fd, ps, F, hm, kp, b⟩ := kn.ex
  exact ⟨pe_callGS F (hr.mono hk) hg hm kp b .nil (fun σ => passAt tk σ) ha.pa hdb he hpl, re_callX ha.ra⟩
end
end TL

set_option Elab.async false
set_option linter.all false
set_option maxRecDepth 100000
set_option maxHeartbeats 4000000
/-! TXe: try, except x as n: the caught error is a thing of ours from there on. -/
namespace TL
open PySem PySem.Spec PyProof.Rows L2

theorem errO_ok {P : Program} {w : World} {H : Hp} {h : Heap} {e C : Addr} {od : Option Addr} {ox : Obj} {vs : Array Value} (he : h.get? e = some ox) (hc : ox.cls = .ref C) (hd : ox.dict = od) (hv : ox.data = .fields vs) : ObjOk P w H h e (errO e C od) :=
  ⟨⟨ox, vs, he, hc, hd, hv⟩, ⟨_, he⟩, fun h1 h2 z k => by
    obtain ⟨ox, vs, q, r⟩ := z
    exact ⟨ox, vs, k _ q, r⟩⟩
theorem errO_at {P : Program} {w : World} {H : Hp} {h : Heap} {e C : Addr} {od : Option Addr} (hok : HOk P w H h) (he : H e = some (errO e C od)) : ∃ (ox : Obj) (vs : Array Value), h.get? e = some ox ∧ ox.cls = .ref C ∧ ox.dict = od ∧ ox.data = .fields vs := by
  have y : ObjOk P w H h e (.ext fun h => ∃ (ox : Obj) (vs : Array Value), h.get? e = some ox ∧ ox.cls = .ref C ∧ ox.dict = od ∧ ox.data = .fields vs) := hok e _ he
  exact y.1
section
variable {X : Cx} {pins : List (Addr × Obj)} {σ : L2.St} {H : Hp} {sI z : Shared} {B : Heap} {a C : Addr} {d : Option Addr}
/-- on the ground, with the error's object -/
theorem landed_with (I : Inv X pins σ H sI) (nb : ∀ b o, sI.heap.get? b = some o → b ∉ frs X.stack → B.get? b = some o) (fl : HandSPX.FlyingZ B X.stack a (Zc (.ref C) d) z.heap) (up : sI.heap.UpToSlots z.heap) (na : H a = none) (os : z.os = sI.os) (ag : AllBare z.gens) :
    Inv X pins σ (upd H a (errO a C d)) z := by
  obtain ⟨st, Ba, _, tr⟩ := fl
  obtain ⟨oe, vs, T, oT, ts, he, hz, hd, _⟩ := tr
  have frame : ∀ b ∈ frs X.stack, ∀ o, sI.heap.get? b = some o → (∃ sl, z.heap.get? b = some { o with slots := sl }) ∧ ∀ vs, o.data ≠ .fields vs := fun b hb o e => by
    obtain ⟨_, o2, e2, nf⟩ := I.stack.mem hb
    rw [e] at e2
    cases e2
    exact ⟨up b o e nf, nf⟩
  have nea : ∀ {b : Addr} {o : Obj}, sI.heap.get? b = some o → b ≠ a := fun {b o} e w => by
    subst w
    by_cases hb : b ∈ frs X.stack
    · obtain ⟨⟨sl, q⟩, nf⟩ := frame b hb o e
      rw [he] at q
      have q := Option.some.inj q
      exact nf vs (by rw [q] at hd; exact hd)
    · rw [nb b o e hb] at Ba
      cases Ba
  have hok : HOk X.prog X.w (upd H a (errO a C d)) z.heap := fun b ob q => by
    by_cases hb : b = a
    · subst hb
      rw [upd_same] at q
      cases q
      exact errO_ok he hz.1 hz.2 hd
    · rw [upd_ne hb] at q
      exact ((I.inGround nb).kept st b ob q).stay (fun _ _ _ r => r) (fun c hc => by rw [upd_ne (ne_of_none hc na), hc]) fun c xs hc => by rw [upd_ne (ne_of_none hc na), hc]
  have J := I.call (ch := []) (h' := z.heap) (g' := z.gens) (t' := z.toks) (d' := z.drawn) (H' := upd H a (errO a C d))
    { keep := fun b o e _ hb _ => st b o (nb b o e hb)
      slot := fun b o e _ hb _ => (frame b hb o e).1
      free := fun b o e n _ => by rw [upd_ne (nea e), n]
      there := fun b o e _ => by
        by_cases hb : b ∈ frs X.stack
        · obtain ⟨⟨sl, q⟩, _⟩ := frame b hb o e
          exact ⟨_, q⟩
        · exact ⟨o, st b o (nb b o e hb)⟩
      tups := fun b xs q => by rw [upd_ne (ne_of_none q na), q]
      frzs := fun b o u q => by rw [upd_ne (ne_of_none q na), q]
      tbls := fun b ps q => ⟨#[], by rw [upd_ne (ne_of_none q na), q, Array.append_empty]⟩ } hok ag (fun _ y => nomatch y)
  obtain ⟨a1, a2, a3, a4, a5⟩ := z
  cases (show a5 = sI.os from os)
  exact J
theorem suite_of (I : Inv X pins σ H z) (a : Addr) : Inv (X.suite a (X.pn ++ pins)) [] σ H z :=
  ⟨I.ok.suite _ _, I.os, I.bare, I.base, I.loc, I.cell, I.free, I.freeC, fun p hp => I.pin p (by rw [List.append_nil] at hp; exact hp), I.hok, I.len⟩
theorem suite_off {a : Addr} {pn : List (Addr × Obj)} (I : Inv (X.suite a (X.pn ++ pins)) pn σ H z) (ok : X.Ok) : Inv X pins σ H z :=
  ⟨ok, I.os, I.bare, I.base, I.loc, I.cell, I.free, I.freeC, fun p hp => I.pin p (List.mem_append_left _ hp), I.hok, I.len⟩
end
/-- what the clauses hs do with an error that has landed -/
structure Cat (X : Cx) (hs : List ExceptHandler) (wh : Ends → WX) : Prop where
  run : ∀ (pins : List (Addr × Obj)) (σ : L2.St) (H : Hp) (sI z : Shared) (B : Heap) (a : Addr) (cls : Value) (d : Option Addr) (D : Ends), Inv X pins σ H sI → (∀ b o, sI.heap.get? b = some o → b ∉ frs X.stack → B.get? b = some o) →
    HandSPX.FlyingZ B X.stack a (Zc cls d) z.heap → sI.heap.UpToSlots z.heap → H a = none → z.os = sI.os → AllBare z.gens → wh D cls d σ H → wpAny (model X.prog X.w) X.A (handleBy (.ref a) X.env hs) (SP X pins D) X.xe z
/-- none of them: that must not be -/
theorem cat_nil {X : Cx} : Cat X [] (fun _ _ _ _ _ => False) := ⟨fun _ _ _ _ _ _ _ _ _ _ _ _ _ _ _ _ _ h => h.elim⟩
/-- the ends of a suite whose name goes -/
def forget (i : Nat) (D : Ends) : Ends := { nx := fun σ H => D.nx (σ.set i none) H, rt := D.rt, bk := fun σ H => D.bk (σ.set i none) H, ct := fun σ H => D.ct (σ.set i none) H }
def wCat (K : PySem.W.Frag) (c : Value) (i : Nat) (ts : TS) (wh : Ends → WX) : Ends → WX := fun D cls d σ H => ∃ b, PySem.W.exmOne K cls c = some b ∧
  (b = true → ∃ C : Addr, cls = .ref C ∧ ∀ a, H a = none → ts (forget i D) (σ.set i (some (.ref a))) (upd H a (errO a C d))) ∧ (b = false → wh D cls d σ H)
section
variable {X : Cx} {x n : Str} {c : Value} {i : Nat} {body suite : List Stmt} {b₀ : Stmt} {np pos pos' : Pos} {tb : WX → TS} {ts : TS} {wh : Ends → WX} {hs : List ExceptHandler} {h₀ : ExceptHandler}
theorem cat_cons (hst : X.stack = X.env :: X.outer) (hN : X.N.Nodup) (hi : X.N[i]? = some n) (hln : X.env.kindOf n = some .local) (hc : Names X x c) (hsu : ∀ (a : Addr) (pn : List (Addr × Obj)), PSs (X.suite a pn) (b₀ :: suite) ts) (hr : Cat X hs wh) :
    Cat X (.ExceptHandler (some (.Name x np)) (some n) (b₀ :: suite) pos' :: hs) (wCat X.K c i ts wh) := by
  constructor
  intro pins σ H sI z B a cls d D I nb fl up na os ag w
  obtain ⟨b, hb1, hyes, hno⟩ := w
  have ok := I.ok
  have J : Inv X pins σ H z := I.landed nb fl.1 up os ag
  refine wpAny_handleBy_cons (codeAny_handlers_test ?_) (by intro q; cases q)
  obtain ⟨oe, vs, he, hz, hd⟩ := fl.there
  have LT : PySem.W.Looks (model X.prog X.w) z.heap (typeOf (.ref a)) cls := fun A Q E s k q => wpAny_typeOf_ref (k _ _ he) (by rw [hz.1]; exact q)
  have LM := PySem.W.exm_one (M := model X.prog X.w) J.kIn LT hb1
  have test : ∀ {Q : Value → Shared → Prop} {E : Value → Shared → Prop}, Q c z → wpAny (model X.prog X.w) (X.A.mark (some (.ref a))) (eval (.Name x np) X.env) Q E z := fun {Q E} q => by
    obtain ⟨hg, hdbg, hm | ⟨hm, hv, hnn⟩⟩ := hc
    · exact ld_glob (X := X.suite a (X.pn ++ pins)) (suite_of J a) hg hm q hdbg
    · exact ld_blt (X := X.suite a (X.pn ++ pins)) (suite_of J a) hg hm hv q hnn hdbg
  refine test (LM.here ?_)
  cases b with
  | false => exact hr.run pins σ H sI z B a cls d D I nb fl up na os ag (hno rfl)
  | true =>
    obtain ⟨C, rfl, hq⟩ := hyes rfl
    refine codeAny_handlers_suite_as ?_
    refine HandSPX.lands_againZ fl fun h4 fl4 up4 => ?_
    have J4 : Inv X pins σ (upd H a (errO a C d)) { z with heap := h4 } := landed_with I nb fl4 (up.trans up4) na os ag
    refine store_ok (X := X.suite a (X.pn ++ pins)) (v := .ref a) (suite_of J4 a) hN hi (.inl hln) rfl (fun s5 S5 => ?_) (.inr hln)
    refine wpAny_mono ((hsu a (X.pn ++ pins)).run [] s5 _ _ (forget i D) S5 (hq a na)) (fun f s6 hsp => ?_) (fun _ _ y => False.elim y)
    have fin : ∀ {σ6 : L2.St} {H6 : Hp} {Q : Shared → Prop}, Inv (X.suite a (X.pn ++ pins)) [] σ6 H6 s6 → (∀ s7, Inv X pins (σ6.set i none) H6 s7 → Q s7) →
        wpAny (model X.prog X.w) X.A (do bindName X.env n .none; unbindBehindTheSuite X.env n pos') (fun _ s7 => Q s7) X.xe s6 := fun {σ6 H6 Q} S6 hq => gone_ok (suite_off S6 ok) hN hi hln hq
    cases f with
    | ret u =>
      obtain ⟨v6, σ6, H6, S6, r6, q6⟩ := hsp
      exact fin S6 fun s7 J7 => ⟨_, _, _, J7, r6, q6⟩
    | next =>
      obtain ⟨σ6, H6, S6, q6⟩ := hsp
      exact fin S6 fun s7 J7 => ⟨_, _, J7, q6⟩
    | brk =>
      obtain ⟨σ6, H6, S6, q6⟩ := hsp
      exact fin S6 fun s7 J7 => ⟨_, _, J7, q6⟩
    | cont =>
      obtain ⟨σ6, H6, S6, q6⟩ := hsp
      exact fin S6 fun s7 J7 => ⟨_, _, J7, q6⟩
theorem ps_tryC (hst : X.stack = X.env :: X.outer) (hf : X.env.frame = some X.env.locals)
    (hb : ∀ (W : WX) (pn : List (Addr × Obj)) (xe : Value → Shared → Prop), Takes (X.tr pn xe) W → PassesOwn (model X.prog X.w) X.A X.env xe → PSs (X.tr pn xe) body (tb W)) (hc : Cat X (h₀ :: hs) wh) :
    PS X (.Try body (h₀ :: hs) [] [] pos) (fun D σ H => tb (wh D) D σ H) := by
  constructor
  intro pins z σ H D I h
  have ok := I.ok
  refine wpAny_Try_except ?_
  refine wpAny_mono ((hb (wh D) (X.pn ++ pins) (fun e s₁ => wpAny (model X.prog X.w) X.A (noteFrame e X.env) (fun _ s₂ => wpAny (model X.prog X.w) X.A (setFlight e none) (fun _ s₃ =>
    wpAny (model X.prog X.w) X.A (handleBy e X.env (h₀ :: hs)) (SP X pins D) X.xe s₃) X.xe s₂) X.xe s₁) (fun u s' xx => ?_) PassesOwn.looking).run [] z σ H D (I.toTry _) h) (fun f s1 hsp => ?_) (fun e s1 he => he)
  · obtain ⟨a, B, sI, pins', σ', H', cls, d, rfl, J', nb, up, sky, na, os, ag, hw⟩ := xx
    have J : Inv X pins σ' H' sI := J'.ofTry ok
    show wpAny (model X.prog X.w) X.A (noteFrame (.ref a) X.env) _ _ _
    refine Sky.land Zc.steady (by rw [ok.frames, hst]) hf (by rw [← hst]; exact sky) fun h3 fl3 up3 => ?_
    exact hc.run pins σ' H' sI { s' with heap := h3 } B a cls d D J nb (by rw [hst]; exact fl3) (up.trans up3) na os ag hw
  · cases f with
    | next =>
      obtain ⟨σ', H', J', q⟩ := hsp
      exact wpAny_execs_nil ⟨σ', H', J'.ofTry ok, q⟩
    | ret u =>
      obtain ⟨v, σ', H', J', r, q⟩ := hsp
      exact ⟨v, σ', H', J'.ofTry ok, r, q⟩
    | brk =>
      obtain ⟨σ', H', J', q⟩ := hsp
      exact ⟨σ', H', J'.ofTry ok, q⟩
    | cont =>
      obtain ⟨σ', H', J', q⟩ := hsp
      exact ⟨σ', H', J'.ofTry ok, q⟩
end
end TL

set_option Elab.async false
set_option linter.all false
set_option maxRecDepth 100000
set_option maxHeartbeats 4000000
/-! TXf: try by data; errors as data: their fields, isinstance. -/
namespace TL
open PySem PySem.Spec PyProof.Rows L2

theorem strs_inj : ∀ {a b : List Str}, a.map PyData.str = b.map PyData.str → a = b
  | [], [], _ => rfl
  | x :: a, y :: b, h => by
    rw [List.map_cons, List.map_cons] at h
    injection h with h1 h2
    injection h1 with h1
    rw [h1, strs_inj h2]
theorem errD_inj {C C' : Addr} {ns ns' : List Str} {ds ds' : List PyData} (h : errD C ns ds = errD C' ns' ds') : C = C' ∧ ns = ns' ∧ ds = ds' := by
  unfold errD at h
  injection h with h
  injection h with h _
  injection h with h1 h2
  injection h1 with h1
  injection h2 with h2
  injection h2 with h2 h3
  injection h2 with h2
  exact ⟨Int.ofNat.inj h2, strs_inj h3, h1⟩
/-- what an error's fields are -/
def FldRp (K : PySem.W.Frag) (G : Hp) (d : Option Addr) (ns : List Str) (ds : List PyData) : Prop :=
  (d = none ∧ ns = [] ∧ ds = []) ∨ ∃ (dd : Addr) (fs : List (Str × V)) (vs : List V), d = some dd ∧ G dd = some (.xd fs) ∧ fs = ns.zip vs ∧ RpAll K G vs ds ∧ ns.length = ds.length
theorem ErrRp.split {K : PySem.W.Frag} {G : Hp} {cls : Value} {d : Option Addr} {C : Addr} {ns : List Str} {ds : List PyData} {err : PyData} (r : ErrRp K G cls d err) (e : err = errD C ns ds) : cls = .ref C ∧ FldRp K G d ns ds := by
  cases r with
  | none =>
    obtain ⟨rfl, rfl, rfl⟩ := errD_inj e
    exact ⟨rfl, .inl ⟨rfl, rfl, rfl⟩⟩
  | some h1 h2 h3 h4 =>
    obtain ⟨rfl, rfl, rfl⟩ := errD_inj e
    exact ⟨rfl, .inr ⟨_, _, _, rfl, h1, h2, h3, h4⟩⟩
theorem Rp.of_err {K : PySem.W.Frag} {G : Hp} {a C : Addr} {d : Option Addr} {ns : List Str} {ds : List PyData} (h : G a = some (errO a C d)) (r : FldRp K G d ns ds) : Rp K G (.ref a) (errD C ns ds) := by
  rcases r with ⟨rfl, rfl, rfl⟩ | ⟨dd, fs, vs, rfl, h1, h2, h3, h4⟩
  · exact .err0 h
  · exact .err h h1 h2 h3 h4
theorem Rp.err_of {K : PySem.W.Frag} {G : Hp} {v : V} {C : Addr} {ns : List Str} {ds : List PyData} {err : PyData} (r : Rp K G v err) (e : err = errD C ns ds) : ∃ (a : Addr) (d : Option Addr), v = .ref a ∧ G a = some (errO a C d) ∧ FldRp K G d ns ds := by
  cases r with
  | non => cases e
  | bl b => cases e
  | int i => cases e
  | str x => cases e
  | lst _ _ => cases e
  | tup _ _ => cases e
  | dic h1 h2 h3 =>
    have e : PyData.dict _ = PyData.dict _ := e
    injection e with e
    subst e
    cases (show true = false from h3)
  | err0 h =>
    obtain ⟨rfl, rfl, rfl⟩ := errD_inj e
    exact ⟨_, _, rfl, h, .inl ⟨rfl, rfl, rfl⟩⟩
  | err h1 h2 h3 h4 h5 =>
    obtain ⟨rfl, rfl, rfl⟩ := errD_inj e
    exact ⟨_, _, rfl, h1, .inr ⟨_, _, _, rfl, h2, h3, h4, h5⟩⟩
theorem look_put {α : Type} (f g : Str) (y : α) (fs : List (Str × α)) : ((f, y) :: fs).lookup g = if g = f then some y else fs.lookup g := by
  rw [List.lookup_cons]
  by_cases h : g = f
  · rw [if_pos h, show (g == f) = true by simpa using h]
  · rw [if_neg h, show (g == f) = false by simpa using h]
theorem RpAll.look {K : PySem.W.Frag} {G : Hp} {f : Str} {x : PyData} : ∀ {ns : List Str} {vs : List V} {ds : List PyData}, RpAll K G vs ds → (ns.zip ds).lookup f = some x → ∃ v, (ns.zip vs).lookup f = some v ∧ Rp K G v x
  | [], _, _, _, h => by cases h
  | n :: ns, [], [], _, h => by cases h
  | n :: ns, _, _, .cons (v := v) (d := d) r t, h => by
    rw [List.zip_cons_cons, look_put] at h
    rw [List.zip_cons_cons, look_put]
    by_cases e : f = n
    · rw [if_pos e] at h ⊢
      cases h
      exact ⟨v, rfl, r⟩
    · rw [if_neg e] at h ⊢
      exact RpAll.look t h
/-! ### try -/
section
variable {X : Cx} {x n : Str} {c : Value} {i : Nat} {body suite : List Stmt} {b₀ : Stmt} {np pos pos' : Pos} {ts : TS} {us : DTS} {wh : Ends → WX} {hs : List ExceptHandler} {h₀ : ExceptHandler}
/-- an air in which anything may fly -/
def airX (X : Cx) : Value → Shared → Prop := fun e s₁ => wpAny (model X.prog X.w) X.A (noteFrame e X.env) (fun _ s₂ => wpAny (model X.prog X.w) X.A (setFlight e none) (fun _ _ => True) (fun _ _ => True) s₂) (fun _ _ => True) s₁
theorem takes_air (hst : X.stack = X.env :: X.outer) (hf : X.env.frame = some X.env.locals) (pn : List (Addr × Obj)) (W : WX) : Takes (X.tr pn (airX X)) W := fun u s' h => by
  obtain ⟨a, B, sI, pins', σ', H', cls, d, rfl, J', nb, up, sky, na, os, ag, hw⟩ := h
  have fr : X.A.frames = some (X.env :: X.outer) := by
    rw [← hst]
    exact J'.ok.frames
  exact Sky.land Zc.steady fr hf (by rw [← hst]; exact sky) fun _ _ _ => trivial
structure DCat [XW] (X : Cx) (hs : List ExceptHandler) (wh : Ends → WX) (hx : DEnds → PyData → List Sl → Prop) : Prop where
  cat : Cat X hs wh
  rel : ∀ (c : Cf) (σ : L2.St) (G H : Hp) (δ : List Sl) (D : Ends) (E : DEnds) (cls : Value) (d : Option Addr) (err : PyData), hx E err δ → EnvOk X.K c G H σ δ → EndsOk X.K c G E D → ErrRp X.K G cls d err → wh D cls d σ H
theorem dcat_nil [XW] : DCat X [] (fun _ _ _ _ _ => False) (fun _ _ _ => False) := ⟨cat_nil, fun _ _ _ _ _ _ _ _ _ _ h _ _ _ => h.elim⟩
def forgetD (i : Nat) (E : DEnds) : DEnds := { nx := fun δ => E.nx (δ.set i .no), rt := E.rt, bk := fun δ => E.bk (δ.set i .no), ct := fun δ => E.ct (δ.set i .no), rn := E.rn }
theorem EndsOk.forget [XW] {K : PySem.W.Frag} {c : Cf} {G : Hp} {E : DEnds} {D : Ends} (h : EndsOk K c G E D) (i : Nat) : EndsOk K c G (forgetD i E) (forget i D) :=
  ⟨fun σ' G' H' δ' a b k => h.nx _ G' H' _ a b.drop k, h.rt, fun σ' G' H' δ' a b k => h.bk _ G' H' _ a b.drop k, fun σ' G' H' δ' a b k => h.ct _ G' H' _ a b.drop k, h.rn, h.h0⟩
/-- the clause of the class c: what the suite does, or what the further ones do -/
def hxCat (K : PySem.W.Frag) (c : Value) (i : Nat) (us : DTS) (hx : DEnds → PyData → List Sl → Prop) : DEnds → PyData → List Sl → Prop := fun E err δ => ∃ C ns ds b, err = errD C ns ds ∧ PySem.W.exmOne K (.ref C) c = some b ∧
  if b = true then us (forgetD i E) (δ.set i (.dat err)) else hx E err δ
theorem dcat_cons [XW] {hx : DEnds → PyData → List Sl → Prop} (hst : X.stack = X.env :: X.outer) (hN : X.N.Nodup) (hi : X.N[i]? = some n) (hln : X.env.kindOf n = some .local) (hc : Names X x c) (hsu : ∀ (a : Addr) (pn : List (Addr × Obj)), DSs (X.suite a pn) (b₀ :: suite) ts us) (hr : DCat X hs wh hx) :
    DCat X (.ExceptHandler (some (.Name x np)) (some n) (b₀ :: suite) pos' :: hs) (wCat X.K c i ts wh) (hxCat X.K c i us hx) where
  cat := cat_cons hst hN hi hln hc (fun a pn => (hsu a pn).ps) hr.cat
  rel := fun c' σ G H δ D E cls d err h EV k er => by
    obtain ⟨C, ns, ds, b, ee, hb, h⟩ := h
    obtain ⟨rfl, fr⟩ := er.split ee
    refine ⟨b, hb, fun eb => ⟨C, rfl, fun a na => ?_⟩, fun eb => ?_⟩
    · rw [if_pos eb] at h
      have eg : Ex G (upd G a (errO a C d)) := Ex.new (EV.ex.none na)
      have E1 := EV.al (Al.new (o := errO a C d) EV.ex na)
      have fr' : FldRp X.K (upd G a (errO a C d)) d ns ds := by
        rcases fr with q | ⟨dd, fs, vs, q1, q2, q3, q4, q5⟩
        · exact .inl q
        · exact .inr ⟨dd, fs, vs, q1, eg _ _ q2, q3, q4.up eg, q5⟩
      have r : Rp X.K (upd G a (errO a C d)) (.ref a) err := by
        rw [ee]
        exact Rp.of_err upd_same fr'
      exact (hsu 0 []).rs c' _ _ _ _ (forget i D) (forgetD i E) (E1.put r) h ((k.up eg).forget i)
    · rw [eb, if_neg Bool.false_ne_true] at h
      exact hr.rel c' σ G H δ D E _ d err h EV k er
theorem DSs.ps1 {X : Cx} {xw : XW} {st : List Stmt} {t : TS} {u : DTS} (h : @DSs xw X st t u) : PSs X st t := h.ps
theorem DSs.rs1 {X : Cx} {xw : XW} {st : List Stmt} {t : TS} {u : DTS} (h : @DSs xw X st t u) : @RS xw X.K t u := h.rs
theorem EnvOk.out {K : PySem.W.Frag} {xw : XW} {c : Cf} {G H : Hp} {σ : L2.St} {δ : List Sl} (h : @EnvOk xw K c G H σ δ) : EnvC K c G H σ δ := h.toEnvC
theorem ds_try [XW] {hx : DEnds → PyData → List Sl → Prop} {tb : XW → TS} {ub : XW → DTS} (hst : X.stack = X.env :: X.outer) (hf : X.env.frame = some X.env.locals)
    (hb : ∀ (xw : XW) (pn : List (Addr × Obj)) (xe : Value → Shared → Prop), Takes (X.tr pn xe) xw.w → PassesOwn (model X.prog X.w) X.A X.env xe → @DSs xw (X.tr pn xe) body (tb xw) (ub xw)) (hc : DCat X (h₀ :: hs) wh hx)
    (ht : ∀ w xr xr', tb ⟨w, xr⟩ = tb ⟨w, xr'⟩ := by intros; rfl) (hu : ∀ w w' xr, ub ⟨w, xr⟩ = ub ⟨w', xr⟩ := by intros; rfl) :
    DS X (.Try body (h₀ :: hs) [] [] pos) (fun D σ H => tb ⟨wh D, fun _ _ => False⟩ D σ H) (fun E δ => ub ⟨fun _ _ _ _ => False, hx E⟩ E δ) where
  ps := ps_tryC (tb := fun W => tb ⟨W, fun _ _ => False⟩) hst hf (fun W pn xe tk po => (hb ⟨W, fun _ _ => False⟩ pn xe tk po).ps1) hc.cat
  rs := fun c σ G H δ D E EV h k => by
    have core : ({ c with hid := [] } : Cf) = c := by
      have hh := k.h0
      obtain ⟨τ, n, G0, H0, hid⟩ := c
      dsimp only at hh
      subst hh
      rfl
    have RB := (hb ⟨wh D, hx E⟩ [] (airX X) (takes_air hst hf [] _) PassesOwn.looking).rs1
    let c1 : Cf := { c with G0 := G }
    -- back and forth
    have back : ∀ {c2 : Cf} {G' H' : Hp} {σ' : L2.St} {δ' : List Sl}, c2 = c1 → EnvC X.K c2 G' H' σ' δ' → EnvOk X.K c G' H' σ' δ' ∧ Ex G G' := fun {c2 G' H' σ' δ'} e Z => by
      subst e
      refine ⟨{ xw := EV.xw, g0 := EV.g0.trans Z.g0, ex := Z.ex, fr := Z.fr, fs := fun a h1 h2 => Z.fs a (EV.fs a h1 h2) h2, tg := Z.tg, len := Z.len, sl := fun i s h => ?_, ap := Z.ap, hd := Z.hd }, Z.g0⟩
      have z := Z.sl i s h
      cases s with
      | no => trivial
      | dat d => exact z
      | scr d => exact z
      | own t d => exact z
    have E1 : @EnvOk ⟨wh D, hx E⟩ X.K c1 G H σ δ := by
      refine @EnvOk.mk ⟨wh D, hx E⟩ _ _ _ _ _ _ { g0 := Ex.refl _, ex := EV.ex, fr := EV.fr, fs := fun a h1 _ => h1, tg := EV.tg, len := EV.len, sl := fun i s h => ?_, ap := EV.ap, hd := EV.hd } ?_
      · have z := EV.sl i s h
        cases s with
        | no => trivial
        | dat d => exact z
        | scr d => exact z
        | own t d => exact z
      · intro cls d err G' H' σ' δ' hxx Z er
        obtain ⟨EO, eg⟩ := back (by show ({ c1 with hid := [] } : Cf) = c1; exact congrArg (fun q : Cf => ({ q with G0 := G } : Cf)) core) Z
        exact hc.rel c σ' G' H' δ' D E cls d err hxx EO (k.up eg) er
    have h1 : ub ⟨wh D, hx E⟩ E δ := by
      rw [hu (wh D) (fun _ _ _ _ => False) (hx E)]
      exact h
    show tb ⟨wh D, fun _ _ => False⟩ D σ H
    rw [ht (wh D) (fun _ _ => False) (hx E)]
    refine RB c1 σ G H δ D E E1 h1 (@EndsOk.mk ⟨wh D, hx E⟩ X.K c1 G E D ?_ ?_ ?_ ?_ ?_ (show c1.hid = [] from k.h0))
    · intro σ' G' H' δ' a b _
      obtain ⟨EO, eg⟩ := back rfl b.out
      exact k.nx σ' G' H' δ' a EO eg
    · intro d δ' v σ' G' H' a b _ r
      obtain ⟨EO, eg⟩ := back rfl b.out
      exact k.rt d δ' v σ' G' H' a EO eg r
    · intro σ' G' H' δ' a b _
      obtain ⟨EO, eg⟩ := back rfl b.out
      exact k.bk σ' G' H' δ' a EO eg
    · intro σ' G' H' δ' a b _
      obtain ⟨EO, eg⟩ := back rfl b.out
      exact k.ct σ' G' H' δ' a EO eg
    · intro ds δ' p xs σ' G' H' a b hn _ r
      have Z := b.out
      have EO : EnvOk X.K { c with hid := (p, .lst xs) :: c.hid } G' H' σ' δ' := by
        refine { xw := EV.xw, g0 := EV.g0.trans Z.g0, ex := Z.ex, fr := Z.fr, fs := fun a h1 h2 => Z.fs a (EV.fs a h1 h2) h2, tg := Z.tg, len := Z.len, sl := fun i s h => ?_, ap := Z.ap, hd := Z.hd }
        have z := Z.sl i s h
        cases s with
        | no => trivial
        | dat d => exact z
        | scr d => exact z
        | own t d => exact z
      exact k.rn ds δ' p xs σ' G' H' a EO hn Z.g0 r
end
end TL

set_option Elab.async false
set_option linter.all false
set_option maxRecDepth 100000
set_option maxHeartbeats 4000000
/-! TXg: an error's fields are read; isinstance of an error. -/
namespace TL
open PySem PySem.Spec PyProof.Rows L2

/-- at a: an error of the class at C, its dict d there -/
def IsErr (H : Hp) (a C : Addr) (d : Option Addr) : Prop := H a = some (errO a C d) ∧ (d = none ∨ ∃ (dd : Addr) (fs : List (Str × V)), d = some dd ∧ H dd = some (.xd fs))
theorem inst_of {P : Program} {w : World} {H : Hp} {h : Heap} {a C : Addr} {d : Option Addr} (hok : HOk P w H h) (e : IsErr H a C d) : ∃ (ox : Obj) (od : Option Obj), PySem.W.InstAt h a ox C od := by
  obtain ⟨ea, ed⟩ := e
  obtain ⟨ox, vs, e1, e2, e3, e4⟩ := errO_at hok ea
  have nc : PySem.W.notCls ox = true := by
    unfold PySem.W.notCls
    rw [e4]
  rcases ed with rfl | ⟨dd, fs, rfl, e5⟩
  · exact ⟨ox, none, e1, e2, nc, by rw [e3]; trivial⟩
  · have hx : ObjOk P w H h dd (.xd fs) := hok dd _ e5
    obtain ⟨mA, ⟨o, es, ep, ho, _⟩, _⟩ := hx
    exact ⟨ox, some o, e1, e2, nc, by rw [e3]; exact ho⟩
theorem Rp.is_err {K : PySem.W.Frag} {G H : Hp} {v : V} {C : Addr} {ns : List Str} {ds : List PyData} (r : Rp K G v (errD C ns ds)) (e : Ex G H) : ∃ (a : Addr) (d : Option Addr), v = .ref a ∧ IsErr H a C d := by
  obtain ⟨a, d, rfl, h, f⟩ := r.err_of rfl
  refine ⟨a, d, rfl, e _ _ h, ?_⟩
  rcases f with ⟨h1, _⟩ | ⟨dd, fs, vs, h1, h2, _⟩
  · exact .inl h1
  · exact .inr ⟨dd, fs, h1, e _ _ h2⟩
/-! ### e.f -/
def tEf (K : PySem.W.Frag) (f : Str) (te : TE) : TE := fun σ H Q => te σ H fun x H1 => ∃ (a C dd : Addr) (fs : List (Str × V)) (v : V), x = .ref a ∧ H1 a = some (errO a C (some dd)) ∧ H1 dd = some (.xd fs) ∧ fs.lookup f = some v ∧ ErrC K C ∧ PySem.W.findIn K (.ref C) f = some none ∧ Q v H1
theorem pe_ef {X : Cx} {e : Expr} {te : TE} {pos : Pos} {f : Str} (he : PE X e te) (hb : attributeBase e f X.env (eval e X.env) = eval e X.env := by rfl) : PE X (.Attribute e f pos) (tEf X.K f te) := by
  constructor
  intro pins z σ H Q I h
  refine attr_of hb (thn (he.run pins z σ H _ I h) ?_)
  rintro u z1 ⟨x, H1, I1, rx, a, C, dd, fs, v, rfl, ea, ed, l, T, hno, q⟩
  obtain rfl : u = Value.ref a := rx
  obtain ⟨ox, vs, e1, e2, e3, e4⟩ := errO_at I1.hok ea
  have hx : ObjOk X.prog X.w H1 z1.heap dd (.xd fs) := I1.hok dd _ ed
  obtain ⟨mA, ns, hr⟩ := hx
  obtain ⟨od, ho, hl⟩ := lookIn_ns ns
  obtain ⟨u, hu, ru⟩ := RelO.some_of (v := v) (o := mA f) (by rw [← l]; exact hr f)
  have J : PySem.W.InstAt z1.heap a ox C (some od) := ⟨e1, e2, by unfold PySem.W.notCls; rw [e4], by rw [e3]; exact ho⟩
  exact HandSPX.exc_get I1.kIn J T.ga T.gg T.ex (PySem.W.findObj_own T.hd hno rfl (by rw [hl, hu])) (handed_of ru) ⟨v, H1, I1.tok _, ru, q⟩
/-! ### isinstance -/
def rIsEr (K : PySem.W.Frag) : List V → Hp → VK → Prop := fun xs H Q => ∃ (a C : Addr) (d : Option Addr) (c : V) (cv : Value) (b : Bool), xs = [.ref a, c] ∧ IsErr H a C d ∧ ErrC K C ∧ (∀ u, RelV c u → u = cv) ∧ PySem.W.kitOne K (.ref C) cv = some b ∧ Q (.bl b) H
theorem call_isEr {X : Cx} : CallR X (.builtin "isinstance") (rIsEr X.K) := by
  intro pins z σ H xs us Q I r h
  obtain ⟨a, C, d, c, cv, b, rfl, ie, T, hcv, hb, q⟩ := h
  cases r with
  | @cons _ u1 _ us1 rx rr =>
  cases rr with
  | @cons _ u2 _ us2 rt rn =>
    cases rn
    obtain rfl : u1 = Value.ref a := rx
    obtain rfl := hcv _ rt
    obtain ⟨ox, od, J⟩ := inst_of I.hok ie
    obtain ⟨cd, hc, _⟩ := TXE.dict_cls T.hd
    exact PySem.W.kia_one (PySem.W.kitx_exc (od := od) (by rw [hc]; rfl) T.ga T.gg T.ex T.kl T.kg T.kt T.mo) I.kIn J hb (fun y => nomatch y) fun tk => ⟨.bl b, H, I.kept (t' := tk) fun _ _ y => y, rfl, q⟩
section
variable [XW] {K : PySem.W.Frag} {te : TE} {ue : DTE}
def dEf (K : PySem.W.Frag) (f : Str) (ue : DTE) : DTE := fun δ R => ue δ fun d δ1 => ∃ (C : Addr) (ns : List Str) (ds : List PyData) (x : PyData), d = errD C ns ds ∧ ErrC K C ∧ PySem.W.findIn K (.ref C) f = some none ∧ (ns.zip ds).lookup f = some x ∧ R x δ1
theorem re_ef {f : Str} (he : RE K te ue) : RE K (tEf K f te) (dEf K f ue) := by
  intro c σ G H δ Q R E h k
  refine he c σ G H δ _ _ E h fun d δ1 v G1 H1 h1 E1 e1 r1 => ?_
  obtain ⟨C, ns, ds, x, rfl, T, hno, l, hR⟩ := h1
  obtain ⟨a, d, rfl, ea, fl⟩ := r1.err_of rfl
  rcases fl with ⟨_, rfl, _⟩ | ⟨dd, fs, vs, rfl, e2, rfl, ra, _⟩
  · cases l
  · obtain ⟨y, l2, ry⟩ := ra.look l
    exact ⟨a, C, dd, _, y, rfl, E1.ex _ _ ea, E1.ex _ _ e2, l2, T, hno, k x δ1 y G1 H1 hR E1 e1 ry⟩
def dIsE (K : PySem.W.Frag) (cv : Value) (ue : DTE) : DTE := fun δ R => ue δ fun d δ1 => ∃ (C : Addr) (ns : List Str) (ds : List PyData) (b : Bool), d = errD C ns ds ∧ ErrC K C ∧ PySem.W.kitOne K (.ref C) cv = some b ∧ R (.bool b) δ1
theorem re_isE {c : V} {cv : Value} (hcv : ∀ u, RelV c u → u = cv) (he : RE K te ue) : RE K (tCB (rIsEr K) (tCons te (tCons (tC c) tNil))) (dIsE K cv ue) := by
  intro c' σ G H δ Q R E h k
  refine he c' σ G H δ _ _ E h fun d δ1 v G1 H1 h1 E1 e1 r1 => ?_
  obtain ⟨C, ns, ds, b, rfl, T, hb, hR⟩ := h1
  obtain ⟨a, d, rfl, ie⟩ := r1.is_err E1.ex
  exact ⟨a, C, d, c, cv, b, rfl, ie, T, hcv, hb, k _ δ1 _ G1 H1 hR E1 e1 (.bl b)⟩
theorem de_ef {X : Cx} {e : Expr} {pos : Pos} {f : Str} (he : DE X e te ue) (hb : attributeBase e f X.env (eval e X.env) = eval e X.env := by rfl) : DE X (.Attribute e f pos) (tEf X.K f te) (dEf X.K f ue) := ⟨pe_ef he.pe hb, re_ef he.re⟩
theorem de_isE {X : Cx} {e : Expr} {Tn : Str} {c : V} {cv : Value} {p p2 pos : Pos} (hm : X.mg "isinstance" = none) (he : DE X e te ue) (hc : PE X (.Name Tn p2) (tC c)) (hcv : ∀ u, RelV c u → u = cv) (hg : Gl X "isinstance" := by rfl) (hb : bootBuiltins "isinstance" = some (.builtin "isinstance") := by decide +kernel)
    (hs : starEach [e, .Name Tn p2] X.env = (false, eval e X.env) :: starEach [.Name Tn p2] X.env := by rfl) (hs2 : starEach [.Name Tn p2] X.env = (false, eval (.Name Tn p2) X.env) :: starEach [] X.env := by rfl) (hpl : (backTo pos (starEach [.Name Tn p2] X.env)).any (·.1) = false := by rfl) :
    DE X (.Call (.Name "isinstance" p) [e, .Name Tn p2] [] pos) (tCB (rIsEr X.K) (tCons te (tCons (tC c) tNil))) (dIsE X.K cv ue) :=
  ⟨pe_callB call_isEr hg hm hb (pa_cons he.pe (pa_cons hc pa_nil hs2) hs) (by decide) (by decide) hs hpl, re_isE hcv he.re⟩
theorem ref_is {a : Addr} : ∀ u, RelV (.ref a) u → u = Value.ref a := fun u h => h
theorem ty_is {T : String} : ∀ u, RelV (.ty T) u → u = Value.type T := fun u h => h
end
end TL

set_option Elab.async false
set_option linter.all false
set_option maxRecDepth 100000
set_option maxHeartbeats 4000000
/-! TXh: defs with defaults; slices of lists with a step; or by truth; products put in place. -/
namespace TL
open PySem PySem.Spec PyProof.Rows L2

/-- a def behind the top, whatever its defaults -/
structure FunA (K : PySem.W.Frag) (x qual : Str) (st : Stmt) (f : Addr) (fd : FuncData) : Prop where
  ex : ∃ (oc : Value) (od : Option Addr) (dV kV doc pm : Value) (an : Option Addr) (cdv ct : Value) (osl : Array (Option Value)),
    fd = PySem.W.fnOf x qual (defArgs st) (defBody st) (defScope st) dV kV doc pm an cdv ct ∧ K.lookup f = some ⟨oc, od, .func fd, osl⟩ ∧ PySem.W.codeIn K cdv qual = true
theorem _root_.L2.FunD.any {K : PySem.W.Frag} {x qual : Str} {st : Stmt} {f : Addr} {fd : FuncData} {dvs : List V} {kws : List (Str × V)} (F : FunD K x qual (defArgs st) (defBody st) (defScope st) dvs kws f fd) : FunA K x qual st f fd := by
  obtain ⟨oc, od, dV, kV, doc, pm, an, cdv, ct, osl, h1, h2, h3, _⟩ := F.ex
  exact ⟨oc, od, dV, kV, doc, pm, an, cdv, ct, osl, h1, h2, h3⟩
/-- a tuple of defaults stands -/
theorem fund_mk {K : PySem.W.Frag} {x qual : Str} {st : Stmt} {f : Addr} {oc kV doc pm cdv ct : Value} {od an : Option Addr} {osl : Array (Option Value)} {T : Addr} {o : Obj} {its : List Value} {n : Nat} {dvs : List V} (hd : dvs ≠ [])
    (lk : K.lookup f = some ⟨oc, od, .func (PySem.W.fnOf x qual (defArgs st) (defBody st) (defScope st) (.ref T) kV doc pm an cdv ct), osl⟩) (hcd : PySem.W.codeIn K cdv qual = true) (hk : PySem.W.keepIn K (.ref f) = true)
    (lT : K.lookup T = some o) (oT : o.data = .seq its.toArray n) (r : Vals dvs its) : FunD K x qual (defArgs st) (defBody st) (defScope st) dvs [] f (PySem.W.fnOf x qual (defArgs st) (defBody st) (defScope st) (.ref T) kV doc pm an cdv ct) :=
  ⟨⟨oc, od, .ref T, kV, doc, pm, an, cdv, ct, osl, rfl, lk, hcd, .inr ⟨hd, T, o, its, n, rfl, lT, oT, r⟩, .inl rfl⟩, hk⟩
section
variable {P : Program} {w : World} {K : PySem.W.Frag} {mg : Str → Option Value} {base : Heap}
theorem fun_okA {CX : CXT} {x qual : Str} {st : Stmt} {f : Addr} {fd : FuncData} {N ps : List Str} {k : Nat} {sp : Sp} (F : FunA K x qual st f fd) (S : FnScope N ps (defScope st)) (len : ∀ vs H Q E, sp vs H Q E → vs.length = ps.length)
    (hbody : ∀ (cdv : Value) (B : Around) (out : List Env) (z : Shared) (H : Hp) (vs : List V) (Q : VK) (E : XK), RoomG k (B.deeper (envOfC qual (defScope st) z.heap.objs.size f cdv)) → sp vs H Q E →
      ∃ t, PSs (cxOf CX P w K mg base N qual (defScope st) f cdv B out z H E) (defBody st) t ∧ t { nx := fun _ H' => Q .non H', rt := Q } (start N vs) H) : FnOkG P w K mg base CX (k + 1) f fd ps sp := by
  obtain ⟨oc, od, dV, kV, doc, pm, an, cdv, ct, osl, e, lk, hcd⟩ := F.ex
  subst e
  exact fn_ofG lk hcd S len (hbody cdv)
/-- fnX, whatever the defaults -/
theorem fnXA {x qual : Str} {st : Stmt} {f : Addr} {fd : FuncData} {N ps : List Str} {k : Nat} {S : DSx} (F : FunA K x qual st f fd) (sc : FnScope N ps (defScope st)) (len : ∀ as R Xr, S as R Xr → as.length = ps.length)
    (hbody : ∀ (cdv : Value) (A : Around) (outer : List Env) (z : Shared) (H : Hp) (E : XK), RoomG k (A.deeper (envOfC qual (defScope st) z.heap.objs.size f cdv)) → ∀ (xw : XW), Takes (cxOf (L2.CX P w) P w K mg base N qual (defScope st) f cdv A outer z H E) xw.w →
      ∃ t u, DSs (cxOf (L2.CX P w) P w K mg base N qual (defScope st) f cdv A outer z H E) (defBody st) t u ∧ ∀ as R Xr, S as R Xr → (xw.xr = fun err δ => ∃ outs, Xr err outs ∧ OutsIn δ outs) → u (endsOf R) (as ++ List.replicate (N.length - ps.length) .no)) :
    FnOkG P w K mg base (L2.CX P w) (k + 1) f fd ps (spX K S) := by
  refine fun_okA F sc (fun vs H Q E h => ?_) (fun cdv A outer z H vs Q E hr h => ?_)
  · obtain ⟨c, as, R, Xr, _, _, EV, hS, _⟩ := h
    have := EV.len
    rw [List.length_map] at this
    rw [this]
    exact len as R Xr hS
  · obtain ⟨c, as, R, Xr, hh, h0, EV, hS, k, kx⟩ := h
    let xw : XW := ⟨fun cls d _ H => E cls d H, fun err δ => ∃ outs, Xr err outs ∧ OutsIn δ outs⟩
    obtain ⟨t, u, D, red⟩ := hbody cdv A outer z H E hr xw takes_cx
    refine ⟨t, D.ps, ?_⟩
    have l1 : vs.length = ps.length := by
      have := EV.len
      rw [List.length_map] at this
      rw [this]
      exact len as R Xr hS
    have core : ({ c with hid := [] } : Cf) = c := by
      obtain ⟨τ, n, G0, H0, hid⟩ := c
      dsimp only at hh
      subst hh
      rfl
    have EV' : EnvOk K c c.G0 H (L2.start N vs) (as ++ List.replicate (N.length - ps.length) .no) := by
      have y := EV.more (N.length - ps.length)
      have y' : EnvC K c c.G0 H (L2.start N vs) (as ++ List.replicate (N.length - ps.length) .no) := by
        unfold L2.start
        rw [l1]
        exact y
      refine ⟨y', fun cls d err G' H' σ' δ' hx EC er => ?_⟩
      obtain ⟨outs, hX, ho⟩ := hx
      rw [core] at EC
      exact kx err outs cls d G' H' hX (EC.fin ho) er
    refine D.rs c (L2.start N vs) c.G0 H _ _ (endsOf R) EV' (red as R Xr hS rfl) ⟨?_, ?_, ?_, ?_, ?_, hh⟩
    · rintro σ' G' H' δ' ⟨outs, hR, ho⟩ E' e
      exact k .none outs .non G' H' hR (E'.toEnvC.fin ho) .non
    · rintro d δ' v σ' G' H' ⟨outs, hR, ho⟩ E' e r
      exact k d outs v G' H' hR (E'.toEnvC.fin ho) r
    · exact fun σ' G' H' δ' a _ _ => False.elim a
    · exact fun σ' G' H' δ' a _ _ => False.elim a
    · exact fun ds δ' p xs σ' G' H' a _ _ _ _ => False.elim a
end
/-! ### xs[a:b:k] -/
def pickL {α : Type} (xs : List α) (lo hi st : Option Int) : List α := (sliceRange (sliceBounds lo hi st xs.length).1 (sliceBounds lo hi st xs.length).2.1 (sliceBounds lo hi st xs.length).2.2).filterMap (xs[·]?)
theorem vals_places : ∀ {vs : List V} {us : List Value}, Vals vs us → ∀ js : List Nat, Vals (js.filterMap (vs[·]?)) (js.filterMap (us[·]?))
  | _, _, _, [] => .nil
  | vs, us, r, j :: js => by
    have ih := vals_places r js
    rw [List.filterMap_cons, List.filterMap_cons]
    cases e : vs[j]? with
    | none =>
      have e2 : us[j]? = none := by
        rw [List.getElem?_eq_none_iff] at e ⊢
        rw [← r.length]
        exact e
      rw [e2]
      exact ih
    | some v =>
      obtain ⟨u, e2, ru⟩ := r.get e
      rw [e2]
      exact .cons ru ih
theorem rp_places {K : PySem.W.Frag} {G : Hp} : ∀ {vs : List V} {ds : List PyData}, RpAll K G vs ds → ∀ js : List Nat, RpAll K G (js.filterMap (vs[·]?)) (js.filterMap (ds[·]?))
  | _, _, _, [] => .nil
  | vs, ds, r, j :: js => by
    have ih := rp_places r js
    rw [List.filterMap_cons, List.filterMap_cons]
    cases e : vs[j]? with
    | none =>
      have e2 : ds[j]? = none := by
        rw [List.getElem?_eq_none_iff] at e ⊢
        rw [← r.len]
        exact e
      rw [e2]
      exact ih
    | some v =>
      obtain ⟨d, e2, rd⟩ := r.get' e
      rw [e2]
      exact .cons rd ih
def tSlK (K : PySem.W.Frag) (te : TE) (tl th tk : TO) : TE := fun σ H Q => te σ H fun x H1 => tl σ H1 fun lo H2 => th σ H2 fun hi H3 => tk σ H3 fun st H4 => ∃ a xs, x = .ref a ∧ SqL K H4 a xs ∧ st ≠ some 0 ∧ (pickL xs lo hi st).length ≤ sizeLine ∧ ∀ p, H4 p = none → Q (.ref p) (upd H4 p (.lst (pickL xs lo hi st)))
theorem pe_slK {X : Cx} {e : Expr} {lo hi : Option Expr} {k : Expr} {te : TE} {tl th tk : TO} {pos p2 : Pos} (he : PE X e te) (hl : PO X lo tl) (hh : PO X hi th) (hk : PO X (some k) tk) : PE X (.Subscript e (.Slice lo hi (some k) p2) pos) (tSlK X.K te tl th tk) := by
  constructor
  intro pins z σ H Q I h
  refine Subscript_ (thn (he.run pins z σ H _ I h) ?_)
  rintro v z1 ⟨x, H1, I1, r1, q1⟩
  refine wpAny_Slice (thn (hl.run pins z1 σ H1 _ I1 q1) ?_)
  rintro vl z2 ⟨l, H2, I2, pl, q2⟩
  refine thn (hh.run pins z2 σ H2 _ I2 q2) ?_
  rintro vu z3 ⟨u, H3, I3, pu, q3⟩
  refine thn (hk.run pins z3 σ H3 _ I3 q3) ?_
  rintro vs z4 ⟨st, H4, I4, ps, a, xs, rfl, hx, h0, hz, q⟩
  cases r1
  have I5 : Inv X pins σ H4 { z4 with heap := z4.heap.push { cls := .type "slice", data := .fields #[vl, vu, vs] } } := I4.kept (t' := z4.toks) fun b ob q => Heap.get?_push_of_some _ q
  obtain ⟨its, r, ht, hsz⟩ := I5.list hx
  have hlen := r.length
  refine tail_any (ops := [.ref a, .ref z4.heap.objs.size]) ht.isList.typeIs (PySem.slot_list_getitem.lookup) ?_ (by with_unfolding_all rfl)
  refine wpAny_getItem_list_slice ht.isList (Heap.IsSliceOf.new _ vl vu vs) pl pu ps h0 ?_ (by rw [List.size_toArray]; omega)
  have rr : Vals (pickL xs l u st) (slicePick its.toArray l u st).toList := by
    unfold pickL slicePick
    rw [List.size_toArray, ← hlen]
    simpa using vals_places r _
  refine ⟨.ref _, _, I5.laid (t' := z4.toks) (o := .lst (pickL xs l u st)) (fun b ob q => Heap.get?_push_of_some _ q) (Nat.le_refl _) ?_, rfl, q _ (I5.hok.fresh (Nat.le_refl _))⟩
  exact ⟨hz, _, 0, rr, by rw [Heap.get?_push_size _ rfl]⟩
section
variable [XW] {K : PySem.W.Frag}
def dSlK (ue : DTE) (ul uh uk : DTO) : DTE := fun δ R => ue δ fun d δ1 => ul δ1 fun lo δ2 => uh δ2 fun hi δ3 => uk δ3 fun st δ4 => match d with
  | .list ds => st ≠ some 0 ∧ (pickL ds lo hi st).length ≤ sizeLine ∧ R (.list (pickL ds lo hi st)) δ4
  | _ => False
theorem re_slK {te : TE} {ue : DTE} {tl th tk : TO} {ul uh uk : DTO} (he : RE K te ue) (hl : ROp K tl ul) (hh : ROp K th uh) (hk : ROp K tk uk) : RE K (tSlK K te tl th tk) (dSlK ue ul uh uk) := by
  intro c σ G H δ Q R E h k
  refine he c σ G H δ _ _ E h fun d δ1 v G1 H1 h1 E1 e1 r1 => ?_
  refine hl c σ G1 H1 δ1 _ _ E1 h1 fun lo δ2 G2 H2 h2 E2 e2 => ?_
  refine hh c σ G2 H2 δ2 _ _ E2 h2 fun hi δ3 G3 H3 h3 E3 e3 => ?_
  refine hk c σ G3 H3 δ3 _ _ E3 h3 fun st δ4 G4 H4 h4 E4 e4 => ?_
  cases d <;> first
    | exact False.elim h4
    | skip
  rename_i ds
  obtain ⟨h0, hz, h4⟩ := h4
  obtain ⟨a, xs, rfl, q1, q2⟩ := (r1.up ((e2.trans e3).trans e4)).lst_of
  have q3 : RpAll K G4 (pickL xs lo hi st) (pickL ds lo hi st) := by
    unfold pickL
    rw [q2.len]
    exact rp_places q2 _
  refine ⟨a, xs, rfl, .inl (.inl (E4.ex _ _ q1)), h0, by rw [q3.len]; exact hz, fun p hp => ?_⟩
  have A := Al.new (o := .lst (pickL xs lo hi st)) E4.ex hp
  exact k _ δ4 _ _ _ h4 (E4.al A) ((((e1.trans e2).trans e3).trans e4).trans A.g) (.lst upd_same (q3.up A.g))
theorem de_slK {X : Cx} {e : Expr} {lo hi : Option Expr} {k : Expr} {te : TE} {ue : DTE} {tl th tk : TO} {ul uh uk : DTO} {pos p2 : Pos} (he : DE X e te ue) (hl : DO X lo tl ul) (hh : DO X hi th uh) (hk : DO X (some k) tk uk) : DE X (.Subscript e (.Slice lo hi (some k) p2) pos) (tSlK X.K te tl th tk) (dSlK ue ul uh uk) :=
  ⟨pe_slK he.pe hl.po hh.po hk.po, re_slK he.re hl.ro hh.ro hk.ro⟩
/-! ### or, by truth -/
def truD : PyData → Option Bool
  | .bool b => some b
  | .none => some false
  | .list ds => some (!ds.isEmpty)
  | .tuple ds => some (!ds.isEmpty)
  | _ => none
def dOrT (ua ub : DTE) : DTE := fun δ R => ua δ fun d δ1 => match truD d with
  | some true => R d δ1
  | some false => ub δ1 R
  | none => False
theorem tru_rp {G H : Hp} {v : V} {d : PyData} {b : Bool} (r : Rp K G v d) (e : Ex G H) (h : truD d = some b) : TruV K v H b := by
  cases d <;> first
    | (cases h; done)
    | skip
  · cases h
    rw [r.non_of]
    exact rfl
  · cases h
    rw [r.bl_of]
    exact rfl
  · cases h
    obtain ⟨a, xs, rfl, q1, q2⟩ := r.lst_of
    exact .inl ⟨xs, .inl (.inl (e _ _ q1)), by rw [empty_rp q2]⟩
  · cases h
    obtain ⟨a, xs, rfl, q1, q2⟩ := r.tup_of
    exact .inr (.inl ⟨xs, .inl (.inl (e _ _ q1)), by rw [empty_rp q2]⟩)
theorem re_orT {ta tb : TE} {ua ub : DTE} (ha : RE K ta ua) (hb : RE K tb ub) : RE K (tOrT K ta tb) (dOrT ua ub) := by
  intro c σ G H δ Q R E h k
  refine ha c σ G H δ _ _ E h fun d δ1 v G1 H1 h1 E1 e1 r1 => ?_
  cases q : truD d with
  | none =>
    rw [q] at h1
    exact h1.elim
  | some b =>
    rw [q] at h1
    refine ⟨b, tru_rp r1 E1.ex q, ?_⟩
    cases b with
    | true =>
      rw [if_pos rfl]
      exact k d δ1 v G1 H1 h1 E1 e1 r1
    | false =>
      rw [if_neg Bool.false_ne_true]
      exact hb c σ G1 H1 δ1 Q R E1 h1 fun d2 δ2 v2 G2 H2 q2 E2 e2 r2 => k d2 δ2 v2 G2 H2 q2 E2 (e1.trans e2) r2
theorem de_orT {X : Cx} {a b : Expr} {rest : List Expr} {ta tb : TE} {ua ub : DTE} {pos : Pos} (ha : DE X a ta ua) (hb : DE X (.BoolOp .Or (b :: rest) pos) tb ub) : DE X (.BoolOp .Or (a :: b :: rest) pos) (tOrT X.K ta tb) (dOrT ua ub) := ⟨pe_orT ha.pe hb.pe, re_orT ha.re hb.re⟩
/-! ### name op= e, by any rule of values -/
def dAugR (rd : R2D) (i : Nat) (u : DTE) : DTS := fun E δ => match δ[i]? with
  | some (.dat a) => u δ fun d δ1 => rd a d fun x => E.nx (δ1.set i (.dat x))
  | _ => False
theorem rs_augR {r : R2} {rd : R2D} {i : Nat} {te : TE} {ue : DTE} (hr : RO K r rd) (ha : RE K te ue) : RS K (tAug i te r) (dAugR rd i ue) := by
  intro c σ G H δ D E EV h k
  unfold dAugR at h
  cases hs : δ[i]? with
  | none =>
    rw [hs] at h
    exact h.elim
  | some s =>
    rw [hs] at h
    cases s with
    | no => exact h.elim
    | own t ds => exact h.elim
    | scr ds => exact h.elim
    | dat d0 =>
      obtain ⟨x, e, rx⟩ := EV.sl i _ hs
      refine ⟨x, e, ?_⟩
      refine ha c σ G H δ _ _ EV h fun d δ1 v G1 H1 h1 E1 e1 r1 => ?_
      refine hr G1 H1 x v d0 d _ _ E1.ex (rx.up e1) r1 h1 fun y u G2 H2 hy A ry => ?_
      exact k.nx _ G2 H2 _ hy ((E1.al A).put ry) (e1.trans A.g)
theorem iop_mulX {X : Cx} : PIp X .Mult (rI CMulX fun i j => .int (i * j)) := opI fun _ _ _ _ _ _ _ hc q => imul_int q hc.ok
theorem ds_augR (i : Nat) {X : Cx} {x : Str} {op : Operator} {r : R2} {rd : R2D} {e : Expr} {te : TE} {ue : DTE} {p pos : Pos} (hN : X.N.Nodup) (ho : PIp X op r) (hr : RO X.K r rd) (he : DE X e te ue) (hi : X.N[i]? = some x := by rfl) (hx : Loc X.env.scope x := by first | exact Or.inl rfl | exact Or.inr rfl)
    (hf : X.fn x = true ∨ X.env.scope.names.lookup x = some .local := by first | exact .inl rfl | exact .inr rfl | assumption) : DS X (.AugAssign (.Name x p) op e pos) (tAug i te r) (dAugR rd i ue) := ⟨ps_aug hN hi hx he.pe ho hf, rs_augR hr he.re⟩
end
end TL

set_option Elab.async false
set_option linter.all false
set_option maxRecDepth 100000
set_option maxHeartbeats 4000000
/-! TXi: calls of defs that may raise, a default left out, an argument by its name. -/
namespace TL
open PySem PySem.Spec PyProof.Rows L2

section
variable {K : PySem.W.Frag} {x qual : Str} {params : Arguments} {body : List Stmt} {scope : Scope} {dvs : List V} {f : Addr} {fd : FuncData} {ps : List Str}
/-- every parameter without default is given by place, the others by their names -/
theorem kbn_of (F : FunD K x qual params body scope dvs [] f fd) (n : Nat) (ks : List Str) (hd : dvs ≠ [])
    (h : ∀ (T : Addr) (kV doc pm : Value) (an : Option Addr) (cdv ct : Value) (us its ws : List Value), us.length = n → its.length = dvs.length → ws.length = ks.length →
      ∃ k, bindArgs (PySem.W.fnOf x qual params body scope (.ref T) kV doc pm an cdv ct) ⟨us, ks.zip ws⟩ = seqItems? (.ref T) >>= k ∧ k (some its.toArray) = pure (ps.zip (us ++ ws))) : KBn K fd ps n ks (fun us ws => us ++ ws) (fun vs zs => vs ++ zs) := by
  obtain ⟨oc, od, dV, kV, doc, pm, an, cdv, ct, osl, rfl, lk, hcd, hD, _⟩ := F.ex
  rcases hD with ⟨e, _⟩ | ⟨_, T, o, its, m, rfl, lT, oT, rT⟩
  · exact absurd e hd
  · refine ⟨fun z us ws Y l1 l2 => ?_, fun r1 r2 => r1.append r2⟩
    obtain ⟨k, e1, e2⟩ := h T kV doc pm an cdv ct us its ws l1 rT.length.symm l2
    refine BindsTo.of_looks fun M => ?_
    rw [e1]
    exact looks_items Y lT oT (.of_pure e2)
end
section
variable {X : Cx} {CX : CXT} {k n : Nat} {f : Addr} {fd : FuncData} {ps ks : List Str} {sp : Sp} {E : L2.St → XK} {x : Str} {p pos : Pos} {e : Expr} {es : List Expr} {kws : List Keyword} {t tk : TA} {g : List Value → List Value → List Value} {gV : List V → List V → List V}
/-- f(e, .., k = v, ..) -/
def tCallNS (n m : Nat) (sp : Sp) (gV : List V → List V → List V) (E : L2.St → XK) (t tk : TA) : TE := fun σ H Q => t σ H fun vs H1 => tk σ H1 fun zs H2 => vs.length = n ∧ zs.length = m ∧ sp (gV vs zs) H2 Q (E σ)
theorem run_fnNS {pins : List (Addr × Obj)} {σ : L2.St} {H : Hp} {z : Shared} {Q : VK} {us ws : List Value} {vs zs : List V} (F : FnOkG X.prog X.w X.K X.mg X.base CX k f fd ps sp) (hr : RoomG k X.A) (hb : KBn X.K fd ps n ks g gV) (hx : PassesAt CX X σ (E σ))
    (I : Inv X pins σ H z) (r : Vals vs us) (rz : Vals zs ws) (l1 : vs.length = n) (l2 : zs.length = ks.length) (h : sp (gV vs zs) H Q (E σ)) : wpAny (model X.prog X.w) X.A (call (.ref f) us (ks.zip ws)) (EP X pins σ Q) X.xe z := by
  have b := hb.to z us ws I.kIn (r.length.symm.trans l1) (rz.length.symm.trans l2)
  refine wpAny_call (codeAny_mono (F.run X.A X.stack z H _ _ _ Q (E σ) hr I.env0 b (hb.rel r rz) h) ?_)
  rintro (er | fl) z' hq
  · exact hx pins H z er z' I hq
  · cases fl <;> first
      | exact I.after hq
      | exact False.elim hq
theorem pe_callNS (F : FnOkG X.prog X.w X.K X.mg X.base CX k f fd ps sp) (hr : RoomG k X.A) (hg : Gl X x) (hm : X.mg x = some (.ref f)) (hk : PySem.W.keepIn X.K (.ref f) = true) (hb : KBn X.K fd ps n ks g gV) (hx : ∀ σ, PassesAt CX X σ (E σ))
    (ha : PA X (e :: es) t) (hkw : PK X kws tk) (hall : (backToKw pos (keywordEach kws X.env)).all (·.1.isSome) = true := by rfl) (hks : (backToKw pos (keywordEach kws X.env)).filterMap (·.1) = ks := by rfl)
    (hdb : (x == ("__debug__" : Str)) = false := by decide) (he : starEach (e :: es) X.env = (false, eval e X.env) :: starEach es X.env := by rfl)
    (hpl : ((backTo pos (starEach (e :: es) X.env)).any (·.1) || (backToKw pos (keywordEach kws X.env)).any (·.1.isNone)) = false := by rfl) :
    PE X (.Call (.Name x p) (e :: es) kws pos) (tCallNS n ks.length sp gV E t tk) := by
  constructor
  intro pins z σ H Q I h
  refine wpAny_Call_Name_kw (ld_glob I hg hm ?_ hdb)
  refine PySem.W.callWith_KW (h₀ := X.base) I.ok.mod.kin hk hall (thn (ha.run pos pins z σ H _ I h) ?_) hpl he
  rintro us z1 ⟨vs, H1, I1, r, q⟩
  refine thn (hkw.run pos pins z1 σ H1 _ I1 q) ?_
  rintro ws z2 ⟨zs, H2, I2, rz, l1, l2, q2⟩
  refine ⟨I2.kIn, ?_⟩
  rw [hks]
  exact run_fnNS F hr hb (hx σ) I2 r rz l1 l2 q2
end
theorem _root_.L2.Fun.any {K : PySem.W.Frag} {x qual : Str} {st : Stmt} {f : Addr} {fd : FuncData} (F : Fun K x qual st f fd) : FunA K x qual st f fd := by
  obtain ⟨oc, od, kV, doc, pm, an, cdv, ct, osl, h1, h2, h3⟩ := F.ex
  exact ⟨oc, od, .none, kV, doc, pm, an, cdv, ct, osl, h1, h2, h3⟩
/-- where nothing is let out -/
theorem takes_no {X : Cx} : Takes X XW0.w := fun _ _ h => by
  obtain ⟨_, _, _, _, _, _, _, _, _, _, _, _, _, _, _, _, y⟩ := h
  exact y.elim
theorem CAs.app {K : PySem.W.Frag} {G : Hp} {σ : L2.St} : ∀ {vs ws : List V} {cs es : List CA}, CAs K G σ vs cs → CAs K G σ ws es → CAs K G σ (vs ++ ws) (cs ++ es)
  | _, _, _, _, .nil, q => q
  | _, _, _, _, .d r t, q => .d r (CAs.app t q)
  | _, _, _, _, .s r t, q => .s r (CAs.app t q)
/-- a def that may raise, called without its last parameter, whose default is i -/
structure KnXd (P : Program) (w : World) (K : PySem.W.Frag) (mg : Str → Option Value) (base : Heap) (k : Nat) (x : Str) (i : Int) (S : DSx) : Prop where
  ex : ∃ (f : Addr) (fd : FuncData) (ps : List Str) (ds : List Value), FnOkG P w K mg base (L2.CX P w) k f fd ps (spX K S) ∧ mg x = some (.ref f) ∧ PySem.W.keepIn K (.ref f) = true ∧ Vals [V.int i] ds ∧ Binds K fd ps ds
/-- .. called with n by place and then one by the name y -/
structure KnXk (P : Program) (w : World) (K : PySem.W.Frag) (mg : Str → Option Value) (base : Heap) (k : Nat) (x : Str) (n : Nat) (y : Str) (S : DSx) : Prop where
  ex : ∃ (f : Addr) (fd : FuncData) (ps : List Str), FnOkG P w K mg base (L2.CX P w) k f fd ps (spX K S) ∧ mg x = some (.ref f) ∧ PySem.W.keepIn K (.ref f) = true ∧ KBn K fd ps n [y] (fun us ws => us ++ ws) (fun vs zs => vs ++ zs)
section
variable [XW] {K : PySem.W.Frag}
/-- the reading of a call with these arguments -/
def callX (S : DSx) (R : DQ) (cs : List CA) (δ1 : List Sl) : Prop := (muts δ1 cs).Nodup ∧ S (asOf δ1 cs 0) (fun d outs => outs.length = (muts δ1 cs).length ∧ R d (setOuts δ1 (muts δ1 cs) outs)) fun err outs => outs.length = (muts δ1 cs).length ∧ XW.xr err (setOuts δ1 (muts δ1 cs) outs)
theorem callX_ok {S : DSx} {c : Cf} {σ : L2.St} {G G1 H1 : Hp} {δ1 : List Sl} {cs : List CA} {vs : List V} {R : DQ} {Q : VK} (E1 : EnvOk K c G1 H1 σ δ1) (e1 : Ex G G1) (r1 : CAs K G1 σ vs cs) (h : callX S R cs δ1)
    (k : ∀ d δ' v G' H', R d δ' → EnvOk K c G' H' σ δ' → Ex G G' → Rp K G' v d → Q v H') : spX K S vs H1 Q (WE XW.w σ) := by
  obtain ⟨hn, hS⟩ := h
  refine ⟨calleeC σ (muts δ1 cs) G1 H1, asOf δ1 cs 0, _, _, rfl, rfl, callee_env E1 r1 hn, hS, fun d outs v G' H' hR F rv => ?_, fun err outs cls d G' H' hX F er => ?_⟩
  · exact k d _ v G' H' hR.2 (caller_back E1 hn hR.1 F) (e1.trans F.g0) rv
  · have EB := caller_back E1 hn hX.1 F
    exact EB.xw _ _ _ _ _ _ _ hX.2 EB.core er
def dCallXd (S : DSx) (i : Int) (ua : DCA) : DTE := fun δ R => ua δ fun cs δ1 => callX S R (cs ++ [.d (.int i)]) δ1
theorem re_callXd {S : DSx} {i : Int} {t : TA} {ua : DCA} (ha : RCA K t ua) : RE K (tCallSD (spX K S) [V.int i] (WE XW.w) t) (dCallXd S i ua) := by
  intro c σ G H δ Q R E h k
  refine ha c σ G H δ _ _ E h fun cs δ1 vs G1 H1 h1 E1 e1 r1 => ?_
  exact callX_ok E1 e1 (r1.app (.d (.int i) .nil)) h1 k
def dCallXk (S : DSx) (n : Nat) (ua : DCA) (uk : DTE) : DTE := fun δ R => ua δ fun cs δ1 => uk δ1 fun d δ2 => cs.length = n ∧ callX S R (cs ++ [.d d]) δ2
theorem re_callXk {S : DSx} {n : Nat} {t : TA} {ua : DCA} {tv : TE} {uv : DTE} (ha : RCA K t ua) (hv : RE K tv uv) : RE K (tCallNS n 1 (spX K S) (fun vs zs => vs ++ zs) (WE XW.w) t (tCons tv tNil)) (dCallXk S n ua uv) := by
  intro c σ G H δ Q R E h k
  refine ha c σ G H δ _ _ E h fun cs δ1 vs G1 H1 h1 E1 e1 r1 => ?_
  refine hv c σ G1 H1 δ1 _ _ E1 h1 fun d δ2 v G2 H2 h2 E2 e2 r2 => ?_
  obtain ⟨len, h2⟩ := h2
  refine ⟨by rw [r1.len, len], rfl, ?_⟩
  exact callX_ok E2 (e1.trans e2) ((r1.up e2).app (.d r2 .nil)) h2 k
theorem de_callXd {X : Cx} {x : Str} {i : Int} {S : DSx} {k j : Nat} {e : Expr} {es : List Expr} {tca : TA} {uca : DCA} {p pos : Pos} (tk : Takes X XW.w) (kn : KnXd X.prog X.w X.K X.mg X.base k x i S) (hr : RoomG j X.A) (hk : k ≤ j) (ha : DCa X (e :: es) tca uca) (hg : Gl X x := by rfl) (hdb : (x == ("__debug__" : Str)) = false := by decide)
    (he : starEach (e :: es) X.env = (false, eval e X.env) :: starEach es X.env := by rfl) (hpl : (backTo pos (starEach es X.env)).any (·.1) = false := by rfl) : DE X (.Call (.Name x p) (e :: es) [] pos) (tCallSD (spX X.K S) [V.int i] (WE XW.w) tca) (dCallXd S i uca) := by
  obtain ⟨f, fd, ps, ds, F, hm, kp, hv, b⟩ := kn.ex
  exact ⟨pe_callGS F (hr.mono hk) hg hm kp b hv (fun σ => passAt tk σ) ha.pa hdb he hpl, re_callXd ha.ra⟩
theorem de_callXk {X : Cx} {x y : Str} {n : Nat} {S : DSx} {k j : Nat} {e : Expr} {es : List Expr} {tca : TA} {uca : DCA} {p pos pk : Pos} {v : Expr} {tv : TE} {uv : DTE} {nm : Option Str} (tk : Takes X XW.w) (kn : KnXk X.prog X.w X.K X.mg X.base k x n y S) (hr : RoomG j X.A) (hk : k ≤ j) (ha : DCa X (e :: es) tca uca) (hv : DE X v tv uv) (hg : Gl X x := by rfl)
    (hall : (backToKw pos (keywordEach [⟨nm, v, pk⟩] X.env)).all (·.1.isSome) = true := by rfl) (hks : (backToKw pos (keywordEach [⟨nm, v, pk⟩] X.env)).filterMap (·.1) = [y] := by rfl) (hdb : (x == ("__debug__" : Str)) = false := by decide)
    (he : starEach (e :: es) X.env = (false, eval e X.env) :: starEach es X.env := by rfl) (hpl : ((backTo pos (starEach (e :: es) X.env)).any (·.1) || (backToKw pos (keywordEach [⟨nm, v, pk⟩] X.env)).any (·.1.isNone)) = false := by rfl) :
    DE X (.Call (.Name x p) (e :: es) [⟨nm, v, pk⟩] pos) (tCallNS n 1 (spX X.K S) (fun vs zs => vs ++ zs) (WE XW.w) tca (tCons tv tNil)) (dCallXk S n uca uv) := by
  obtain ⟨f, fd, ps, F, hm, kp, b⟩ := kn.ex
  exact ⟨pe_callNS F (hr.mono hk) hg hm kp b (fun σ => passAt tk σ) ha.pa (pk_cons hv.pe pk_nil) hall hks hdb he hpl, re_callXk ha.ra hv.re⟩
end
end TL

set_option Elab.async false
set_option linter.all false
set_option maxRecDepth 100000
set_option maxHeartbeats 4000000
/-! TXj: small things: targets and == within comprehensions; statements one by one; texts without end. -/
namespace TL
open PySem PySem.Spec L2
section
variable [XW]
theorem dg_tupI {X : Cx} {K : PySem.W.Frag} {es : List Expr} {pos : Pos} {gs : TGs} {ugs : DTGs} {js : List Nat} {k n : Nat} (hc : X.calm = true) (h : DGs X es gs ugs js) (hK : X.K = K := by rfl) (hn : (assignEach es X.env).length = n := by rfl) (hst : (assignEach es X.env).findIdx? (·.1) = none := by rfl) : DG X (.Tuple es k pos) (gTup K n gs) (dgTup n ugs) js := by
  subst hK
  exact dg_tup hc h hn hst
theorem dt_eqI {X : Cx} {K : PySem.W.Frag} {a b : Expr} {ta tb : TE} {ua ub : DTE} {pos : Pos} (hu : X.A.units + 64 < cLine) (ha : DE X a ta ua) (hb : DE X b tb ub) (hK : X.K = K := by rfl) (hm : lastMarks [CmpOp.Eq] [b] = false := by first | rfl | exact nomark _) :
    DT X (.Compare a [.Eq] [b] pos) (tTest (tOp (rEqD K) ta tb)) (dTest (dOp dEq ua ub)) := by
  subst hK
  exact dt_cmp (op_eqD hu) ro_eq hm ha hb
end
/-! ### where the context is bound: K told apart -/
theorem de_efI [XW] {X : Cx} {K : PySem.W.Frag} {e : Expr} {pos : Pos} {f : Str} {te : TE} {ue : DTE} (he : DE X e te ue) (hK : X.K = K := by rfl) (hb : attributeBase e f X.env (eval e X.env) = eval e X.env := by rfl) : DE X (.Attribute e f pos) (tEf K f te) (dEf K f ue) := by
  subst hK
  exact de_ef he hb
theorem de_isEI [XW] {X : Cx} {K : PySem.W.Frag} {e : Expr} {Tn : Str} {c : V} {cv : Value} {p p2 pos : Pos} {te : TE} {ue : DTE} (hm : X.mg "isinstance" = none) (he : DE X e te ue) (hc : PE X (.Name Tn p2) (tC c)) (hcv : ∀ u, RelV c u → u = cv) (hK : X.K = K := by rfl) (hg : Gl X "isinstance" := by rfl) (hb : bootBuiltins "isinstance" = some (.builtin "isinstance") := by decide +kernel)
    (hs : starEach [e, .Name Tn p2] X.env = (false, eval e X.env) :: starEach [.Name Tn p2] X.env := by rfl) (hs2 : starEach [.Name Tn p2] X.env = (false, eval (.Name Tn p2) X.env) :: starEach [] X.env := by rfl) (hpl : (backTo pos (starEach [.Name Tn p2] X.env)).any (·.1) = false := by rfl) :
    DE X (.Call (.Name "isinstance" p) [e, .Name Tn p2] [] pos) (tCB (rIsEr K) (tCons te (tCons (tC c) tNil))) (dIsE K cv ue) := by
  subst hK
  exact de_isE hm he hc hcv hg hb hs hs2 hpl
theorem de_callXI [XW] {X : Cx} {K : PySem.W.Frag} {x : Str} {S : DSx} {k j : Nat} {e : Expr} {es : List Expr} {tca : TA} {uca : DCA} {p pos : Pos} (tk : Takes X XW.w) (kn : KnX X.prog X.w X.K X.mg X.base k x S) (hr : RoomG j X.A) (hk : k ≤ j) (ha : DCa X (e :: es) tca uca) (hK : X.K = K := by rfl) (hg : Gl X x := by rfl) (hdb : (x == ("__debug__" : Str)) = false := by decide)
    (he : starEach (e :: es) X.env = (false, eval e X.env) :: starEach es X.env := by rfl) (hpl : (backTo pos (starEach es X.env)).any (·.1) = false := by rfl) : DE X (.Call (.Name x p) (e :: es) [] pos) (tCallSD (spX K S) [] (WE XW.w) tca) (dCallX S uca) := by
  subst hK
  exact de_callX tk kn hr hk ha hg hdb he hpl
theorem dcat_c [XW] {X : Cx} {x n : Str} {c : Value} {suite : List Stmt} {b₀ : Stmt} {np pos' : Pos} {ts : TS} {us : DTS} {wh : Ends → WX} {hs : List ExceptHandler} {hx : DEnds → PyData → List Sl → Prop} (i : Nat) (hN : X.N.Nodup) (hc : Names X x c) (hsu : ∀ (a : Addr) (pn : List (Addr × Obj)), DSs (X.suite a pn) (b₀ :: suite) ts us) (hr : DCat X hs wh hx)
    (hst : X.stack = X.env :: X.outer := by rfl) (hi : X.N[i]? = some n := by rfl) (hln : X.env.kindOf n = some .local := by rfl) : DCat X (.ExceptHandler (some (.Name x np)) (some n) (b₀ :: suite) pos' :: hs) (wCat X.K c i ts wh) (hxCat X.K c i us hx) := dcat_cons hst hN hi hln hc hsu hr
theorem sq_if {c : DTT} {a rest : DTS} {E : DEnds} {δ : List Sl} (h : c δ fun b δ1 => if b = true then a { E with nx := rest E } δ1 else rest E δ1) : dSeq (dIfS c a dNext) rest E δ := h
theorem sq_asg {u : DTE} {g : DTG} {rest : DTS} {E : DEnds} {δ : List Sl} (h : u δ fun d δ1 => g d δ1 (rest E)) : dSeq (dAsg u g) rest E δ := h
theorem sq_drop {u : DTE} {rest : DTS} {E : DEnds} {δ : List Sl} (h : u δ fun _ δ1 => rest E δ1) : dSeq (dDrop u) rest E δ := h
end TL

set_option Elab.async false
set_option linter.all false
set_option maxRecDepth 100000
set_option maxHeartbeats 4000000
/-! TXn: an error of a class of one's own is made as a value (it is given to a name, not raised). -/
namespace TL
open PySem PySem.Spec PyProof.Rows L2

/-- C(..), a value -/
def tMkV (C : Addr) (fields : List Str) (ta : TA) : TE := fun σ H Q => ta σ H fun vs H1 => vs.length = fields.length ∧ vs.length ≤ 1000 ∧
  ∀ a d, H1 a = none → H1 d = none → d ≠ a → Q (.ref a) (upd (upd H1 d (.xd (fields.zip vs).reverse)) a (errO a C (some d)))
section
variable {X : Cx} {pins : List (Addr × Obj)} {σ : L2.St} {H H1 : Hp} {z : Shared} {a C dx : Addr} {fs : List (Str × V)}
/-- what was laid step by step is from here on an error of ours -/
theorem err_of (I : Inv X pins σ H z) (ea : H a = some (exo a C (some dx))) (ed : H dx = some (exd dx fs)) (ne : dx ≠ a) (q : ∀ b, b ≠ a → b ≠ dx → H b = H1 b) :
    Inv X pins σ (upd (upd H1 dx (.xd fs)) a (errO a C (some dx))) z := by
  obtain ⟨t1, ho⟩ := exo_at I.hok ea
  have hx : ObjOk X.prog X.w H z.heap dx (exd dx fs) := I.hok dx _ ed
  obtain ⟨mA, ns, hr⟩ := exd_at I.hok ed
  have hd : ∃ o, z.heap.get? dx = some o := by
    obtain ⟨o, _, _, w, _⟩ := ns
    exact ⟨o, w⟩
  obtain ⟨hp, gs, dr, tk, ops⟩ := z
  have I1 := I.write (t' := tk) (x := dx) (e := dx) (o := .xd fs) (h' := hp) (by rw [ed]; exact True.intro) (.inl rfl) (fun b u _ w => w) hd ⟨mA, ns, hr⟩
  have e1 : upd H dx (.xd fs) a = some (exo a C (some dx)) := by rw [upd_ne ne.symm, ea]
  have I2 := I1.write (t' := tk) (x := a) (e := a) (o := errO a C (some dx)) (h' := hp) (by rw [e1]; exact True.intro) (.inl rfl) (fun b u _ w => w) ⟨_, ho⟩ (errO_ok ho rfl rfl rfl)
  have eq : upd (upd H dx (.xd fs)) a (errO a C (some dx)) = upd (upd H1 dx (.xd fs)) a (errO a C (some dx)) := by
    funext b
    by_cases ba : b = a
    · rw [ba, upd_same, upd_same]
    · rw [upd_ne ba, upd_ne ba]
      by_cases bd : b = dx
      · rw [bd, upd_same, upd_same]
      · rw [upd_ne bd, upd_ne bd, q b ba bd]
  rw [eq] at I2
  exact I2
end
section
variable {X : Cx} {x : Str} {C : Addr} {fields : List Str} {e : Expr} {es : List Expr} {ta : TA} {p pos : Pos}
theorem pe_mkV {k : Nat} (kn : KnE X.prog X.w X.K X.mg X.base x C fields) (hr : RoomG (k + 2) X.A) (hg : Gl X x) (ha : PA X (e :: es) ta)
    (hdb : (x == ("__debug__" : Str)) = false := by decide) (he : starEach (e :: es) X.env = (false, eval e X.env) :: starEach es X.env := by rfl) (hpl : (backTo pos (starEach es X.env)).any (·.1) = false := by rfl) :
    PE X (.Call (.Name x p) (e :: es) [] pos) (tMkV C fields ta) := by
  constructor
  intro pins σ0 σ H Q I h
  obtain ⟨fI, fd, ps, CX, iC, tI, F1, hb, hx⟩ := kn.ini
  have T := kn.ec
  obtain ⟨newId, B, bmB, FB, _, qi, _⟩ := T.base
  refine wpAny_Call_Name_kw (ld_glob I hg kn.at_ ?_ hdb)
  refine PySem.W.callWith_K (h₀ := X.base) I.ok.mod.kin T.kp (thn (ha.run pos pins σ0 σ H _ I h) fun us z1 ⟨vs, H1, I1, r1, len, hz, q1⟩ => ⟨I1.kIn, ?_⟩) he hpl
  obtain ⟨hp, gs, dr, tk, ops⟩ := z1
  obtain ⟨nm, N, qn, bs, bm, hdct, sn, sub, ab, col, dd, k0, k1, k2, k3, k5, hC, hT⟩ := PySem.W.excInit_of I1.kIn qi
  have one : hp.objs.size ≤ hp.objs.size + 1 := Nat.le_succ _
  generalize hE : hp.objs.size + 1 = a at one
  have hn : H1 a = none := I1.hok.fresh one
  have keep : ∀ b o, hp.get? b = some o → ((hp.push (PySem.W.kdv_tup us)).push (PySem.HandSPX.excO C hp.objs.size)).get? b = some o := fun b o w => Heap.get?_push_of_some _ (Heap.get?_push_of_some _ w)
  have at_a : ((hp.push (PySem.W.kdv_tup us)).push (PySem.HandSPX.excO C hp.objs.size)).get? a = some (PySem.HandSPX.excO C hp.objs.size) := by
    subst hE
    heap_get
  have I2 : Inv X pins σ (upd H1 a (exo a C none)) ⟨(hp.push (PySem.W.kdv_tup us)).push (PySem.HandSPX.excO C hp.objs.size), gs, dr, tk, ops⟩ := I1.laid (t' := tk) (a := a) (o := exo a C none) keep one (exo_ok at_a)
  have rel : Vals (V.ref a :: vs) (Value.ref a :: us) := .cons rfl r1
  have hlen := Paired.length r1
  have hus : us.length ≤ sizeLine := by
    rw [← hlen, sizeLine_eq]
    omega
  have sp : spInit C fields (V.ref a :: vs) (upd H1 a (exo a C none))
      (fun v H2 => v = .non ∧ ∃ dx : Addr, H2 a = some (exo a C (some dx)) ∧ H2 dx = some (exd dx (fields.zip vs).reverse) ∧ H1 dx = none ∧ dx ≠ a ∧ ∀ b, b ≠ a → b ≠ dx → H2 b = H1 b) (fun _ _ _ => False) := by
    refine ⟨a, vs, rfl, len, upd_same, fun dx H2 n1 n2 e1 e2 e3 => ⟨rfl, dx, e1, e2, ?_, n2, fun b b1 b2 => ?_⟩⟩
    · rw [upd_ne n2] at n1
      exact n1
    · rw [e3 b b1 b2, upd_ne b1]
  have lenP : (Value.ref a :: us ++ []).length = ps.length := by
    rw [List.append_nil, ← F1.len _ _ _ _ sp, List.length_cons, List.length_cons, hlen]
  have bnd := hb _ (Value.ref a :: us) I2.kIn lenP
  rw [List.append_nil] at bnd
  subst hE
  refine wpAny_call (TXE.kw_call (kw := []) FB hT hC (PySem.W.looks_findIn I1.kIn iC) (fun self => PySem.W.bind_fn I1.kIn self tI) hus
    (codeAny_mono (F1.run _ X.stack _ _ ⟨Value.ref (hp.objs.size + 1) :: us, []⟩ (Value.ref (hp.objs.size + 1) :: us) _ _ (fun _ _ _ => False) ((hr.make C us []).mono (by omega)) (I2.env0.make C us []) bnd rel sp) ?_))
  rintro (er | fl) z' hq
  · exact hx X rfl rfl pins σ _ _ er z' I2 hq
  · cases fl with
    | ret u =>
      obtain ⟨v, H3, I3, rv, rfl, dx, ea, ed, hd1, ne, q2⟩ := I2.after hq
      refine ⟨rv, ?_⟩
      exact ⟨.ref (hp.objs.size + 1), _, err_of I3 ea ed ne q2, rfl, q1 (hp.objs.size + 1) dx hn hd1 ne⟩
    | next => exact False.elim hq
    | brk => exact False.elim hq
    | cont => exact False.elim hq
end
section
variable [XW] {K : PySem.W.Frag}
/-- C(..), a datum -/
def dMkV (C : Addr) (fields : List Str) (ua : DTA) : DTE := fun δ R => ua δ fun ds δ1 => ds.length = fields.length ∧ fields.length ≤ 1000 ∧ R (errD C fields.reverse ds.reverse) δ1
theorem re_mkV {C : Addr} {fields : List Str} {ta : TA} {ua : DTA} (ha : RA K ta ua) : RE K (tMkV C fields ta) (dMkV C fields ua) := by
  intro c σ G H δ Q R EV h k
  refine ha c σ G H δ _ _ EV h fun ds δ1 vs G1 H1 h1 E1 e1 r1 => ?_
  obtain ⟨len, big, hR⟩ := h1
  have len1 := r1.len
  refine ⟨by rw [len1, len], by omega, fun a d na nd ne => ?_⟩
  have A1 := Al.new (o := .xd (fields.zip vs).reverse) E1.ex nd
  have E2 := E1.al A1
  have na2 : upd H1 d (.xd (fields.zip vs).reverse) a = none := by rw [upd_ne ne.symm, na]
  have A2 := Al.new (o := errO a C (some d)) E2.ex na2
  have E3 := E2.al A2
  refine k _ δ1 _ _ _ hR E3 ((e1.trans A1.g).trans A2.g) (.err upd_same (?_ : _ = some (HO.xd (fields.zip vs).reverse)) (zip_rev (by rw [len1, len])) ((r1.rev.up A1.g).up A2.g) ?_)
  · rw [upd_ne ne, upd_same]
  · rw [List.length_reverse, List.length_reverse, len]
theorem de_mkV {X : Cx} {x : Str} {C : Addr} {fields : List Str} {e : Expr} {es : List Expr} {ta : TA} {ua : DTA} {p pos : Pos} {j : Nat} (kn : KnE X.prog X.w X.K X.mg X.base x C fields) (hr : RoomG j X.A) (hk : 2 ≤ j) (ha : DA X (e :: es) ta ua) (hg : Gl X x := by rfl)
    (hdb : (x == ("__debug__" : Str)) = false := by decide) (he : starEach (e :: es) X.env = (false, eval e X.env) :: starEach es X.env := by rfl) (hpl : (backTo pos (starEach es X.env)).any (·.1) = false := by rfl) :
    DE X (.Call (.Name x p) (e :: es) [] pos) (tMkV C fields ta) (dMkV C fields ua) :=
  ⟨pe_mkV (k := 0) kn (hr.mono hk) hg ha.pa hdb he hpl, re_mkV ha.ra⟩
end
end TL

set_option Elab.async false
set_option linter.all false
set_option maxRecDepth 100000
set_option maxHeartbeats 4000000
/-! TXo: what the built-in KeyError is, as a base of own errors. -/
namespace TL
open PySem PySem.Spec PyProof.Rows

theorem key_store : StoreFacts "KeyError" [.type "KeyError", .type "LookupError", .type "Exception", .type "BaseException", .type "object"] "object.__setattr__" "object" where
  kind := by decide +kernel
  split := by decide +kernel
  hasOwner := by decide +kernel
  entry := PySem.F.entry_object_sa
  mro := by kernel_rfl
  slot := .of (owner := "object") (n := "__setattr__") (by rw [typeLookup_type, builtinLookup_eq_fast]; kernel_rfl) (by decide +kernel) (by decide +kernel) (by decide +kernel)
    (by first | exact .inl (by decide +kernel) | exact .inr (by decide +kernel)) (by rw [isSubtype_type]; kernel_rfl)
  args := fun _ _ _ => by unfold argsOk; kernel_rfl
  passes := fun _ => by kernel_rfl
theorem key_new : TXE.NewOver "LookupError.__new__" [.type "KeyError", .type "LookupError", .type "Exception", .type "BaseException", .type "object"] :=
  ⟨"LookupError", _, _, PySem.F.excBase_LookupError, by decide +kernel, by decide +kernel, by decide +kernel⟩
end TL

set_option Elab.async false
set_option linter.all false
set_option maxRecDepth 100000
set_option maxHeartbeats 4000000
/-! TXq: errors made as values by the names of their fields; errors of classes without __init__. -/
namespace TL
open PySem PySem.Spec PyProof.Rows L2

/-- names given last field first: what the keywords bring, in the fields' order -/
def tRev (t : TA) : TA := fun σ H Q => t σ H fun vs H1 => Q vs.reverse H1
/-- the class x, called by the names of its fields, the last field first -/
structure KnEk (P : Program) (w : World) (K : PySem.W.Frag) (mg : Str → Option Value) (base : Heap) (x : Str) (C : Addr) (fields : List Str) : Prop where
  ec : ErrC K C
  at_ : mg x = some (.ref C)
  ini : ∃ (fI : Addr) (fd : FuncData) (ps : List Str) (CX : CXT), PySem.W.findIn K (.ref C) "__init__" = some (some (.ref fI)) ∧ PySem.W.typeIn K (.ref fI) = some (.type "function") ∧ FnOkG P w K mg base CX 1 fI fd ps (spInit C fields) ∧
    KBn K fd ps 1 fields.reverse (fun us ws => us ++ ws.reverse) (fun vs zs => vs ++ zs.reverse) ∧ ∀ X : Cx, X.prog = P → X.w = w → Passes CX X (fun _ _ _ => False)
/-- parameters without defaults, given by their names from the last -/
theorem kbn_rev {K : PySem.W.Frag} {x qual : Str} {st : Stmt} {f : Addr} {fd : FuncData} {ps : List Str} (F : Fun K x qual st f fd) (ks : List Str)
    (h : ∀ (kV doc pm : Value) (an : Option Addr) (cdv ct : Value) (us ws : List Value), us.length = 1 → ws.length = ks.length →
      bindArgs (PySem.W.fnOf x qual (defArgs st) (defBody st) (defScope st) .none kV doc pm an cdv ct) ⟨us, ks.zip ws⟩ = pure (ps.zip (us ++ ws.reverse))) : KBn K fd ps 1 ks (fun us ws => us ++ ws.reverse) (fun vs zs => vs ++ zs.reverse) := by
  obtain ⟨oc, od, kV, doc, pm, an, cdv, ct, osl, rfl, lk, hcd⟩ := F.ex
  refine ⟨fun s us ws _ l1 l2 => .of_eq (h kV doc pm an cdv ct us ws l1 l2), fun r1 r2 => r1.append ?_⟩
  induction r2 with
  | nil => exact .nil
  | cons q _ ih =>
    rw [List.reverse_cons, List.reverse_cons]
    exact ih.append (.cons q .nil)
section
variable {X : Cx} {x : Str} {C : Addr} {fields : List Str} {kws : List Keyword} {tk : TA} {p pos : Pos}
theorem pe_mkK {k : Nat} (kn : KnEk X.prog X.w X.K X.mg X.base x C fields) (hr : RoomG (k + 2) X.A) (hg : Gl X x) (hk : PK X kws tk)
    (hall : (backToKw pos (keywordEach kws X.env)).all (·.1.isSome) = true := by rfl) (hks : (backToKw pos (keywordEach kws X.env)).filterMap (·.1) = fields.reverse := by rfl)
    (hdb : (x == ("__debug__" : Str)) = false := by decide) (hpl : ((backTo pos (starEach [] X.env)).any (·.1) || (backToKw pos (keywordEach kws X.env)).any (·.1.isNone)) = false := by rfl) :
    PE X (.Call (.Name x p) [] kws pos) (tMkV C fields (tRev tk)) := by
  constructor
  intro pins σ0 σ H Q I h
  obtain ⟨fI, fd, ps, CX, iC, tI, F1, hb, hx⟩ := kn.ini
  have T := kn.ec
  obtain ⟨newId, B, bmB, FB, _, qi, _⟩ := T.base
  refine wpAny_Call_Name_kw (ld_glob I hg kn.at_ ?_ hdb)
  refine PySem.W.callWith_KW0 (h₀ := X.base) I.ok.mod.kin T.kp hall (thn (hk.run pos pins σ0 σ H _ I h) fun ws z1 ⟨zs, H1, I1, r1, len, hz, q1⟩ => ⟨I1.kIn, ?_⟩) hpl
  rw [hks]
  show wpAny _ _ (call (.ref C) [] (fields.reverse.zip ws)) _ _ _
  obtain ⟨hp, gs, dr, tk', ops⟩ := z1
  obtain ⟨nm, N, qn, bs, bm, hdct, sn, sub, ab, col, dd, k0, k1, k2, k3, k5, hC, hT⟩ := PySem.W.excInit_of I1.kIn qi
  have one : hp.objs.size ≤ hp.objs.size + 1 := Nat.le_succ _
  generalize hE : hp.objs.size + 1 = a at one
  have hn : H1 a = none := I1.hok.fresh one
  have keep : ∀ b o, hp.get? b = some o → ((hp.push (PySem.W.kdv_tup [])).push (PySem.HandSPX.excO C hp.objs.size)).get? b = some o := fun b o w => Heap.get?_push_of_some _ (Heap.get?_push_of_some _ w)
  have at_a : ((hp.push (PySem.W.kdv_tup [])).push (PySem.HandSPX.excO C hp.objs.size)).get? a = some (PySem.HandSPX.excO C hp.objs.size) := by
    subst hE
    heap_get
  have I2 : Inv X pins σ (upd H1 a (exo a C none)) ⟨(hp.push (PySem.W.kdv_tup [])).push (PySem.HandSPX.excO C hp.objs.size), gs, dr, tk', ops⟩ := I1.laid (t' := tk') (a := a) (o := exo a C none) keep one (exo_ok at_a)
  have rel : Vals (V.ref a :: zs.reverse) (Value.ref a :: ws.reverse) := hb.rel (vs := [V.ref a]) (us := [Value.ref a]) (.cons rfl .nil) r1
  have lzw : zs.length = ws.length := Paired.length r1
  have lf : ws.length = fields.reverse.length := by rw [← lzw, List.length_reverse, ← len, List.length_reverse]
  have sp : spInit C fields (V.ref a :: zs.reverse) (upd H1 a (exo a C none))
      (fun v H2 => v = .non ∧ ∃ dx : Addr, H2 a = some (exo a C (some dx)) ∧ H2 dx = some (exd dx (fields.zip zs.reverse).reverse) ∧ H1 dx = none ∧ dx ≠ a ∧ ∀ b, b ≠ a → b ≠ dx → H2 b = H1 b) (fun _ _ _ => False) := by
    refine ⟨a, zs.reverse, rfl, len, upd_same, fun dx H2 n1 n2 e1 e2 e3 => ⟨rfl, dx, e1, e2, ?_, n2, fun b b1 b2 => ?_⟩⟩
    · rw [upd_ne n2] at n1
      exact n1
    · rw [e3 b b1 b2, upd_ne b1]
  have bnd := hb.to _ [Value.ref a] ws I2.kIn rfl lf
  subst hE
  refine wpAny_call (TXE.kw_call (kw := fields.reverse.zip ws) FB hT hC (PySem.W.looks_findIn I1.kIn iC) (fun self => PySem.W.bind_fn I1.kIn self tI) (by show 0 ≤ sizeLine; omega)
    (codeAny_mono (F1.run _ X.stack _ _ ⟨[Value.ref (hp.objs.size + 1)], fields.reverse.zip ws⟩ (Value.ref (hp.objs.size + 1) :: ws.reverse) _ _ (fun _ _ _ => False) ((hr.make C [] (fields.reverse.zip ws)).mono (by omega)) (I2.env0.make C [] (fields.reverse.zip ws)) bnd rel sp) ?_))
  rintro (er | fl) z' hq
  · exact hx X rfl rfl pins σ _ _ er z' I2 hq
  · cases fl with
    | ret u =>
      obtain ⟨v, H3, I3, rv, rfl, dx, ea, ed, hd1, ne, q2⟩ := I2.after hq
      exact ⟨rv, .ref (hp.objs.size + 1), _, err_of I3 ea ed ne q2, rfl, q1 (hp.objs.size + 1) dx hn hd1 ne⟩
    | next => exact False.elim hq
    | brk => exact False.elim hq
    | cont => exact False.elim hq
end
/-- the class x without an __init__ of its own -/
structure KnE0 (K : PySem.W.Frag) (mg : Str → Option Value) (x : Str) (C : Addr) : Prop where
  ec : ErrC K C
  at_ : mg x = some (.ref C)
  ini : ∃ (B newId initId : String) (bmB : List Value), ExcBaseFacts B newId initId bmB ∧ PySem.W.excIn K C bmB newId = true
def tMk0 (C : Addr) : TE := fun _ H Q => ∀ a, H a = none → Q (.ref a) (upd H a (errO a C none))
theorem pe_mk0 {X : Cx} {x : Str} {C : Addr} {p pos : Pos} (kn : KnE0 X.K X.mg x C) (hg : Gl X x) (hdb : (x == ("__debug__" : Str)) = false := by decide) : PE X (.Call (.Name x p) [] [] pos) (tMk0 C) := by
  constructor
  intro pins σ0 σ H Q I h
  obtain ⟨B, newId, initId, bmB, F, q⟩ := kn.ini
  refine wpAny_Call_Name_kw (ld_glob I hg kn.at_ ?_ hdb)
  refine PySem.W.callWith_K0 I.kIn kn.ec.kp ?_
  show wpAny _ _ (call (.ref C) []) _ _ _
  obtain ⟨bm, N, nm, qn, bs, hdct, sn, sub, ab, col, dd, k0, k1, k2, k3, k5, mN, hC, hN, hni, T⟩ := exc_obj I.kIn q
  refine wpAny_call_exc_subT F T hC hN hni (fun h' e hm => ?_) (by show 0 ≤ sizeLine; omega)
  obtain ⟨t, he, _, _⟩ := hm.there
  have he' := I.hok.gone hm.new
  exact ⟨.ref e, _, I.laidN (h' := h') hm.keeps hm.new he' (errO_ok he rfl rfl rfl), rfl, h e he'⟩
section
variable [XW] {K : PySem.W.Frag}
def dRev (u : DTA) : DTA := fun δ R => u δ fun ds δ1 => R ds.reverse δ1
theorem ra_rev {t : TA} {u : DTA} (h : RA K t u) : RA K (tRev t) (dRev u) := by
  intro c σ G H δ Q R E hu k
  exact h c σ G H δ _ _ E hu fun ds δ' vs G' H' hR E' e' r' => k _ δ' _ G' H' hR E' e' r'.rev
/-- keywords' values, by data -/
structure DK (X : Cx) (kws : List Keyword) (t : TA) (u : DTA) : Prop where
  pk : PK X kws t
  ra : RA X.K t u
theorem dk_nil {X : Cx} : DK X [] tNil dNil := ⟨pk_nil, ra_nil⟩
theorem dk_cons {X : Cx} {nm : Option Str} {e : Expr} {kpos : Pos} {kws : List Keyword} {te : TE} {ue : DTE} {t : TA} {u : DTA} (h : DE X e te ue) (r : DK X kws t u) : DK X (⟨nm, e, kpos⟩ :: kws) (tCons te t) (dCons ue u) := ⟨pk_cons h.pe r.pk, ra_cons h.re r.ra⟩
theorem de_mkK {X : Cx} {x : Str} {C : Addr} {fields : List Str} {kws : List Keyword} {t : TA} {u : DTA} {p pos : Pos} {j : Nat} (kn : KnEk X.prog X.w X.K X.mg X.base x C fields) (hr : RoomG j X.A) (hj : 2 ≤ j) (hk : DK X kws t u) (hg : Gl X x := by rfl)
    (hall : (backToKw pos (keywordEach kws X.env)).all (·.1.isSome) = true := by rfl) (hks : (backToKw pos (keywordEach kws X.env)).filterMap (·.1) = fields.reverse := by rfl)
    (hdb : (x == ("__debug__" : Str)) = false := by decide) (hpl : ((backTo pos (starEach [] X.env)).any (·.1) || (backToKw pos (keywordEach kws X.env)).any (·.1.isNone)) = false := by rfl) :
    DE X (.Call (.Name x p) [] kws pos) (tMkV C fields (tRev t)) (dMkV C fields (dRev u)) :=
  ⟨pe_mkK (k := 0) kn (hr.mono hj) hg hk.pk hall hks hdb hpl, re_mkV (ra_rev hk.ra)⟩
def dMk0 (C : Addr) : DTE := fun δ R => R (errD C [] []) δ
theorem re_mk0 {C : Addr} : RE K (tMk0 C) (dMk0 C) := by
  intro c σ G H δ Q R E h k a na
  have A1 := Al.new (o := errO a C none) E.ex na
  exact k _ δ _ _ _ h (E.al A1) A1.g (.err0 upd_same)
theorem de_mk0 {X : Cx} {x : Str} {C : Addr} {p pos : Pos} (kn : KnE0 X.K X.mg x C) (hg : Gl X x := by rfl) (hdb : (x == ("__debug__" : Str)) = false := by decide) : DE X (.Call (.Name x p) [] [] pos) (tMk0 C) (dMk0 C) := ⟨pe_mk0 kn hg hdb, re_mk0⟩
end
end TL

set_option Elab.async false
set_option linter.all false
set_option maxRecDepth 100000
set_option maxHeartbeats 4000000
/-! TXs: data held against data where only the lesser depth is bounded. -/
namespace TL
open PySem PySem.Spec L2
variable [XW]
/-- ==, != where one of both may be as deep as it likes -/
def rEqW (K : PySem.W.Frag) (neg : Bool) : R2 := fun a b Hp1 Q1 => ∃ da db, (Dp K Hp1 a da ∧ Dp K Hp1 b db) ∧ (da.canLay0 = true ∧ db.canLay0 = true ∧ min da.depth db.depth ≤ 64) ∧ Q1 (.bl (if neg = true then !(PyData.eqv da db) else PyData.eqv da db)) Hp1
theorem op_eqW {X : Cx} (neg : Bool) (roomy : X.A.units + 64 < cLine) : OpR X (compareOp (if neg = true then .NotEq else .Eq)) (rEqW X.K neg) := by
  rintro pins z σ G1 a b va vb Q1 J ra rb ⟨da, db, ⟨ha, hb⟩, ⟨ca, cb, dep⟩, fin⟩
  obtain ⟨_, one⟩ := Dp.reads J da a va ha ra
  obtain ⟨_, two⟩ := Dp.reads J db b vb hb rb
  cases neg with
  | true => exact SeqAt.compareNe_reads one two ca cb (by omega) ⟨.bl _, G1, J, rfl, fin⟩
  | false => exact SeqAt.compareEq_reads one two ca cb (by omega) ⟨.bl _, G1, J, rfl, fin⟩
def dEqW (neg : Bool) : R2D := fun d1 d2 R => (d1.canLay0 = true ∧ d2.canLay0 = true ∧ min d1.depth d2.depth ≤ 64) ∧ R (.bool (if neg = true then !(PyData.eqv d1 d2) else PyData.eqv d1 d2))
theorem ro_eqW {K : PySem.W.Frag} (neg : Bool) : RO K (rEqW K neg) (dEqW neg) := by
  intro G H x y d1 d2 Q R e r1 r2 h k
  obtain ⟨⟨h1, h2, h3⟩, h4⟩ := h
  exact ⟨d1, d2, ⟨Rp.dp d1 x (r1.up e) h1, Rp.dp d2 y (r2.up e) h2⟩, ⟨h1, h2, h3⟩, k _ _ G H h4 (Al.refl e) (.bl _)⟩
/-- x in a tuple, the like -/
def rInW (K : PySem.W.Frag) : R2 := fun a b Hp1 Q1 => ∃ da ds, (Dp K Hp1 a da ∧ Dp K Hp1 b (.tuple ds)) ∧ (da.canLay0 = true ∧ PyData.canLayAll0 ds = true ∧ min (PyData.depthAll ds) da.depth ≤ 64) ∧ Q1 (.bl (ds.any fun y => PyData.eqv y da)) Hp1
theorem op_inW {X : Cx} (roomy : X.A.units + 65 < cLine) : OpR X (compareOp .In) (rInW X.K) := by
  rintro pins z σ G1 a b va vb Q1 J ra rb ⟨da, ds, ⟨ha, hb⟩, ⟨ca, cb, dep⟩, fin⟩
  obtain ⟨_, one⟩ := Dp.reads J da a va ha ra
  obtain ⟨_, two⟩ := Dp.reads J (.tuple ds) b vb hb rb
  exact SeqAt.in_tuple_reads two one cb ca (by omega) ⟨.bl _, G1, J, rfl, fin⟩
def dInW : R2D := fun d1 d2 R => match d2 with
  | .tuple ds => (d1.canLay0 = true ∧ PyData.canLayAll0 ds = true ∧ min (PyData.depthAll ds) d1.depth ≤ 64) ∧ R (.bool (ds.any fun y => PyData.eqv y d1))
  | _ => False
theorem ro_inW {K : PySem.W.Frag} : RO K (rInW K) dInW := by
  intro G H x y d1 d2 Q R e r1 r2 h k
  cases d2 <;> first
    | exact False.elim h
    | skip
  rename_i ds
  obtain ⟨⟨h1, h2, h3⟩, h4⟩ := h
  exact ⟨d1, ds, ⟨Rp.dp d1 x (r1.up e) h1, Rp.dp (.tuple ds) y (r2.up e) (by simpa [PyData.canLay0] using h2)⟩, ⟨h1, h2, h3⟩, k _ _ G H h4 (Al.refl e) (.bl _)⟩
end TL

set_option Elab.async false
set_option linter.all false
set_option maxRecDepth 100000
set_option maxHeartbeats 4000000
namespace K05
open PySem PySem.Spec L2 TL
def top (i : Nat) : Stmt := PySem.Challenge.pw_triesgrow_k05_texts_of_no_pattern.main.body.getD i (.Pass ⟨0, 0, 0, 0⟩)

/-! ### patterns -/
inductive Pt where
  | non
  | sgn (x : Str)
  | again (p : Pt)
  | two (o : Bool) (p q : Pt)
namespace Pt
def tag : Pt → Str
  | non => Str.ofString "none"
  | sgn _ => Str.ofString "sign"
  | again _ => Str.ofString "again"
  | two false _ _ => Str.ofString "then"
  | two true _ _ => Str.ofString "or"
def d : Pt → PyData
  | non => .tuple [.str (Str.ofString "none")]
  | sgn x => .tuple [.str (Str.ofString "sign"), .str x]
  | again p => .tuple [.str (Str.ofString "again"), p.d]
  | two false p q => .tuple [.str (Str.ofString "then"), p.d, q.d]
  | two true p q => .tuple [.str (Str.ofString "or"), p.d, q.d]
def kids : Pt → List Pt
  | again p => [p]
  | two _ p q => [p, q]
  | _ => []
def isS : Pt → Bool
  | sgn _ => true
  | _ => false
def leaves : Pt → Nat
  | non => 0
  | sgn _ => 1
  | again p => p.leaves
  | two _ p q => p.leaves + q.leaves
def parts : Pt → Nat
  | non => 1
  | sgn _ => 1
  | again p => p.parts + 1
  | two _ p q => p.parts + q.parts + 1
def deep : Pt → Nat
  | non => 1
  | sgn _ => 1
  | again p => p.deep + 1
  | two _ p q => max p.deep q.deep + 1
theorem deep_pos : ∀ p : Pt, 0 < p.deep
  | non => Nat.one_pos
  | sgn _ => Nat.one_pos
  | again p => Nat.succ_pos _
  | two _ p q => Nat.succ_pos _
theorem kid_deep : ∀ {p k : Pt} {n : Nat}, k ∈ p.kids → p.deep ≤ n + 1 → k.deep ≤ n
  | non, _, _, h, _ => by cases h
  | sgn _, _, _, h, _ => by cases h
  | again p, k, n, h, hn => by
    have e := List.mem_singleton.mp h
    subst e
    exact Nat.le_of_succ_le_succ hn
  | two o p q, k, n, h, hn => by
    have hn : max p.deep q.deep + 1 ≤ n + 1 := hn
    rcases List.mem_cons.mp h with e | h
    · subst e
      omega
    · have e := List.mem_singleton.mp h
      subst e
      omega
/-- what stands behind the name -/
def rest : Pt → List PyData
  | sgn x => [.str x]
  | p => p.kids.map Pt.d
theorem d_eq : ∀ p : Pt, p.d = .tuple (.str p.tag :: p.rest)
  | non => rfl
  | sgn _ => rfl
  | again _ => rfl
  | two false _ _ => rfl
  | two true _ _ => rfl
theorem rest_of : ∀ {p : Pt}, p.isS = false → p.rest = p.kids.map Pt.d
  | non, _ => rfl
  | again _, _ => rfl
  | two _ _ _, _ => rfl
theorem rest_len : ∀ p : Pt, p.rest.length ≤ 2
  | non => by decide
  | sgn _ => by show 1 ≤ 2; decide
  | again _ => by show 1 ≤ 2; decide
  | two _ _ _ => by show 2 ≤ 2; decide
theorem kids_len : ∀ p : Pt, p.kids.length ≤ 2
  | non => by decide
  | sgn _ => by show 0 ≤ 2; decide
  | again _ => by show 1 ≤ 2; decide
  | two _ _ _ => by show 2 ≤ 2; decide
theorem tag_isS : ∀ p : Pt, (p.tag == Str.ofString "sign") = p.isS
  | non => by decide +kernel
  | sgn _ => by show (Str.ofString "sign" == Str.ofString "sign") = true; decide +kernel
  | again _ => by show (Str.ofString "again" == Str.ofString "sign") = false; decide +kernel
  | two false _ _ => by show (Str.ofString "then" == Str.ofString "sign") = false; decide +kernel
  | two true _ _ => by show (Str.ofString "or" == Str.ofString "sign") = false; decide +kernel
theorem tag_ok : ∀ p : Pt, SeqAt.shaped (.str p.tag) = true
  | non => by decide +kernel
  | sgn _ => by show SeqAt.shaped (.str (Str.ofString "sign")) = true; decide +kernel
  | again _ => by show SeqAt.shaped (.str (Str.ofString "again")) = true; decide +kernel
  | two false _ _ => by show SeqAt.shaped (.str (Str.ofString "then")) = true; decide +kernel
  | two true _ _ => by show SeqAt.shaped (.str (Str.ofString "or")) = true; decide +kernel
end Pt
theorem sh_sign : SeqAt.shaped (.str (Str.ofString "sign")) = true := by decide +kernel
theorem cut1 : ∀ (a : PyData) (l : List PyData), l.length ≤ 2 → cutP (a :: l) (some 1) none = l
  | a, [], _ => rfl
  | a, [b], _ => rfl
  | a, [b, c], _ => rfl
  | a, b :: c :: e :: r, h => by simp at h
/-- the numbers that a def tells of the parts within -/
theorem ints_kids (g : Pt → Nat) (ks : List Pt) : ((ks.map fun k => (k.d, PyData.int (g k : Nat))).map (·.2)) = (ks.map fun k => ((g k : Nat) : Int)).map PyData.int := by
  rw [List.map_map, List.map_map]
  rfl
theorem fst_kids (g : Pt → Nat) (ks : List Pt) : ((ks.map fun k => (k.d, PyData.int (g k : Nat))).map (·.1)) = ks.map Pt.d := by
  rw [List.map_map]
  rfl
theorem sum_leaves : ∀ {p : Pt}, p.isS = false → (p.kids.map fun k => ((k.leaves : Nat) : Int)).sum = (p.leaves : Nat)
  | .non, _ => rfl
  | .again p, _ => by
    show ((p.leaves : Nat) : Int) + 0 = (p.leaves : Nat)
    omega
  | .two _ p q, _ => by
    show ((p.leaves : Nat) : Int) + (((q.leaves : Nat) : Int) + 0) = ((p.leaves + q.leaves : Nat) : Int)
    omega
theorem sum_parts : ∀ p : Pt, 1 + (p.kids.map fun k => ((k.parts : Nat) : Int)).sum = (p.parts : Nat)
  | .non => rfl
  | .sgn _ => rfl
  | .again p => by
    show 1 + (((p.parts : Nat) : Int) + 0) = ((p.parts + 1 : Nat) : Int)
    omega
  | .two _ p q => by
    show 1 + (((p.parts : Nat) : Int) + (((q.parts : Nat) : Int) + 0)) = ((p.parts + q.parts + 1 : Nat) : Int)
    omega
theorem max_deep0 : ∀ {p : Pt}, (p.kids.map fun k => ((k.deep : Nat) : Int)) = [] → p.deep = 1
  | .non, _ => rfl
  | .sgn _, _ => rfl
  | .again _, h => by cases h
  | .two _ _ _, h => by cases h
theorem max_deep : ∀ {p : Pt} {m : Int}, m ∈ (p.kids.map fun k => ((k.deep : Nat) : Int)) → (∀ y, y ∈ (p.kids.map fun k => ((k.deep : Nat) : Int)) → y ≤ m) → 1 + m = (p.deep : Nat)
  | .non, _, h, _ => by cases h
  | .sgn _, _, h, _ => by cases h
  | .again p, m, h, _ => by
    have e := List.mem_singleton.mp h
    subst e
    show 1 + ((p.deep : Nat) : Int) = ((p.deep + 1 : Nat) : Int)
    omega
  | .two _ p q, m, h, hy => by
    have h1 := hy ((p.deep : Nat) : Int) List.mem_cons_self
    have h2 := hy ((q.deep : Nat) : Int) (List.mem_cons_of_mem _ List.mem_cons_self)
    show 1 + m = ((max p.deep q.deep + 1 : Nat) : Int)
    rcases List.mem_cons.mp h with e | h
    · have e : m = ((p.deep : Nat) : Int) := e
      omega
    · have e : m = ((q.deep : Nat) : Int) := List.mem_singleton.mp h
      omega
abbrev s_law_hand : Stmt := top 34
theorem sc_law_hand : FnScope ["_law_script", "_law_k", "_law_cell", "_law_seed"] ["_law_script", "_law_k"] (defScope s_law_hand) := ⟨rfl, rfl, rfl, by decide +kernel, rfl, by decide +kernel, by decide +kernel⟩
abbrev s_law_draw : Stmt := top 35
theorem sc_law_draw : FnScope ["_law_hand_here", "_law_many", "_law_found"] ["_law_hand_here", "_law_many"] (defScope s_law_draw) := ⟨rfl, rfl, rfl, by decide +kernel, rfl, by decide +kernel, by decide +kernel⟩
abbrev s_law_letters : Stmt := top 36
theorem sc_law_letters : FnScope ["_law_hand_here", "_law_many", "_law_step_here", "_law_start"] ["_law_hand_here"] (defScope s_law_letters) := ⟨rfl, rfl, rfl, by decide +kernel, rfl, by decide +kernel, by decide +kernel⟩
abbrev s_law_are_letters : Stmt := top 39
theorem sc_law_are_letters : FnScope ["_law_thing", "_law_places", "_law_sign"] ["_law_thing"] (defScope s_law_are_letters) := ⟨rfl, rfl, rfl, by decide +kernel, rfl, by decide +kernel, by decide +kernel⟩
/-! ### letters -/
abbrev abc : Str := Str.ofString "abcdefghijklmnopqrstuvwxyz"
def small (c : Nat) : Bool := decide (97 ≤ c) && decide (c ≤ 122)
def rising : List Nat → Bool
  | a :: b :: r => decide (a < b) && rising (b :: r)
  | _ => true
def goodL (z : Str) : Bool := decide (1 ≤ z.length) && decide (z.length ≤ 8) && z.cps.toList.all small && rising z.cps.toList
theorem good_slice : ∀ m ∈ [1, 2, 3, 8], ∀ k ∈ [1, 2, 3], ∀ s ∈ List.range 26, s + k * (m - 1) < 26 → goodL (sliceS abc (s : Nat) ((s : Nat) + (k : Nat) * (m : Nat) : Int) (k : Nat)) = true := by decide +kernel
theorem good_slice' {m k s : Int} (hm : m = 1 ∨ m = 2 ∨ m = 3 ∨ m = 8) (hk : 1 ≤ k ∧ k ≤ 3) (hs : 0 ≤ s) (h : s < 26 - k * (m - 1)) : goodL (sliceS abc s (s + k * m) k) = true := by
  have hk' : k = 1 ∨ k = 2 ∨ k = 3 := by omega
  have z : ∀ m ∈ [1, 2, 3, 8], ∀ k ∈ [1, 2, 3], (s < 26 - (k : Nat) * ((m : Nat) - 1 : Int)) → goodL (sliceS abc s (s + (k : Nat) * (m : Nat)) (k : Nat)) = true := fun m hm k hk hlt => by
    obtain ⟨a, rfl⟩ := Int.eq_ofNat_of_zero_le hs
    have m1 : 1 ≤ m := by
      simp only [List.mem_cons, List.not_mem_nil, or_false] at hm
      omega
    have e : ((k * (m - 1) : Nat) : Int) = (k : Int) * ((m : Int) - 1) := by
      rw [Int.natCast_mul, Int.ofNat_sub m1]
      rfl
    rw [← e] at hlt
    exact good_slice m hm k hk a (List.mem_range.mpr (by omega)) (by omega)
  rcases hm with rfl | rfl | rfl | rfl <;> rcases hk' with rfl | rfl | rfl
  · exact z 1 (by decide) 1 (by decide) h
  · exact z 1 (by decide) 2 (by decide) h
  · exact z 1 (by decide) 3 (by decide) h
  · exact z 2 (by decide) 1 (by decide) h
  · exact z 2 (by decide) 2 (by decide) h
  · exact z 2 (by decide) 3 (by decide) h
  · exact z 3 (by decide) 1 (by decide) h
  · exact z 3 (by decide) 2 (by decide) h
  · exact z 3 (by decide) 3 (by decide) h
  · exact z 8 (by decide) 1 (by decide) h
  · exact z 8 (by decide) 2 (by decide) h
  · exact z 8 (by decide) 3 (by decide) h
theorem find_abc : ∀ c ∈ List.range 26, Txt.find abc ⟨#[c + 97]⟩ = (c : Nat) := by decide +kernel
theorem find_small {c : Nat} (h : small c = true) : Txt.find abc ⟨#[c]⟩ = (c : Int) - 97 := by
  unfold small at h
  rw [Bool.and_eq_true, decide_eq_true_iff, decide_eq_true_iff] at h
  have z := find_abc (c - 97) (List.mem_range.mpr (by omega))
  rw [Nat.sub_add_cancel h.1] at z
  rw [z]
  omega
theorem eqv_ints : ∀ ns : List Int, PyData.eqvAll (ns.map PyData.int) (ns.map PyData.int) = true
  | [] => by simp [PyData.eqvAll]
  | n :: r => by
    show PyData.eqvAll (.int n :: r.map PyData.int) (.int n :: r.map PyData.int) = true
    simp [PyData.eqvAll, ev_ii, eqv_ints r]
theorem eqv_lints (ns : List Int) : PyData.eqv (.list (ns.map PyData.int)) (.list (ns.map PyData.int)) = true := by
  simp [PyData.eqv, eqv_ints ns]
theorem sh_ints (ns : List Int) : SeqAt.shaped (.list (ns.map PyData.int)) = true := by
  have a : PyData.canLayAll0 (ns.map PyData.int) = true := by
    induction ns with
    | nil => rfl
    | cons n r ih =>
      show (PyData.canLay0 (.int n) && PyData.canLayAll0 (r.map PyData.int)) = true
      rw [ih]
      rfl
  unfold SeqAt.shaped
  rw [Bool.and_eq_true]
  refine ⟨a, decide_eq_true ?_⟩
  show PyData.depthAll _ + 1 ≤ 64
  rw [depth_ints]
  decide
theorem rising_pw : ∀ {l : List Nat}, rising l = true → l.Pairwise (· < ·)
  | [], _ => .nil
  | [a], _ => List.pairwise_singleton _ _
  | a :: b :: r, h => by
    have h : (decide (a < b) && rising (b :: r)) = true := h
    rw [Bool.and_eq_true, decide_eq_true_iff] at h
    have ih := rising_pw h.2
    refine List.pairwise_cons.mpr ⟨fun x hx => ?_, ih⟩
    rcases List.mem_cons.mp hx with e | hx
    · rw [e]
      exact h.1
    · exact Nat.lt_trans h.1 ((List.pairwise_cons.mp ih).1 x hx)
/-- two rising lists with the same members are one -/
theorem rise_eq : ∀ {a b : List Int}, a.Pairwise (· < ·) → b.Pairwise (· < ·) → (∀ k, k ∈ a ↔ k ∈ b) → a = b
  | [], [], _, _, _ => rfl
  | [], y :: b, _, _, h => absurd ((h y).mpr List.mem_cons_self) (by simp)
  | x :: a, [], _, _, h => absurd ((h x).mp List.mem_cons_self) (by simp)
  | x :: a, y :: b, ha, hb, h => by
    have ha' := List.pairwise_cons.mp ha
    have hb' := List.pairwise_cons.mp hb
    have e : x = y := by
      rcases List.mem_cons.mp ((h x).mp List.mem_cons_self) with e | h1
      · exact e
      · rcases List.mem_cons.mp ((h y).mpr List.mem_cons_self) with e | h2
        · exact e.symm
        · have := hb'.1 x h1
          have := ha'.1 y h2
          omega
    subst e
    refine congrArg (x :: ·) (rise_eq ha'.2 hb'.2 fun k => ⟨fun hk => ?_, fun hk => ?_⟩)
    · rcases List.mem_cons.mp ((h k).mp (List.mem_cons_of_mem _ hk)) with e | h1
      · have := ha'.1 k hk
        omega
      · exact h1
    · rcases List.mem_cons.mp ((h k).mpr (List.mem_cons_of_mem _ hk)) with e | h1
      · have := hb'.1 k hk
        omega
      · exact h1
def S_letters : DSp := fun as R => ∃ x y : Int, as = [.own (some 0) [.int x, .int y]] ∧ okH x y ∧
  ∀ (z : Str) (x' y' : Int), goodL z = true → okH x' y' → R (.str z) [[.int x', .int y']]
def S_are : DSp := fun as R => ∃ z : Str, as = [.dat (.str z)] ∧ goodL z = true ∧ R (.bool true) []
theorem mono_letters : MonoS S_letters := fun as R R' h ⟨x, y, a, b, k⟩ => ⟨x, y, a, b, fun z x' y' c d => h _ _ (k z x' y' c d)⟩
theorem mono_are : MonoS S_are := fun as R R' h ⟨x, a, b, k⟩ => ⟨x, a, b, h _ _ k⟩
section
variable {P : Program} {w : World} {K : PySem.W.Frag} {mg : Str → Option Value} {base : Heap}
variable (m_len : mg "len" = none) (m_isinstance : mg "isinstance" = none) (m_str : mg "str" = none) (m_bool : mg "bool" = none) (m_range : mg "range" = none) (m_int : mg "int" = none) (m_max : mg "max" = none) (m_min : mg "min" = none)
  (m_sum : mg "sum" = none) (m_sorted : mg "sorted" = none) (m_set : mg "set" = none) (m_tuple : mg "tuple" = none) (m_repr : mg "repr" = none) (m_ValueError : mg "ValueError" = none)
include m_len m_isinstance m_str m_bool m_range m_int m_max m_min m_sum m_sorted m_set m_tuple m_repr m_ValueError
theorem ok_law_hand {f : Addr} {fd : FuncData} (F : Fun K "_law_hand" "_law_hand" s_law_hand f fd)  : FnOkG P w K mg base CX0 1 f fd ["_law_script", "_law_k"] (spN K S_hand) := by
  refine fnN F sc_law_hand (fun as R h => by obtain ⟨_, _, rfl, _⟩ := h; rfl) fun cdv A outer s H E hr => ?_
  have nd := sc_law_hand.nd
  have hu := hr.units
  have hu1 := hr.units1
  refine ⟨_, _, (dss_cons (ds_set 2 nd (de_ix ix_list ro_ixL (de_op op_cat ro_cat (de_slScr 0 (do_some (de_var 1)) (do_some (de_op op_add ro_I (de_var 1) de_int))) (de_lst (da_cons de_int da_nil))) de_int))
    (dss_cons (ds_set 3 nd (de_op op_mod ro_IC (de_op op_mul ro_IC (de_op op_add ro_I (de_op op_add ro_I (de_op op_mod ro_IC (de_var 2) de_int) (de_op op_mul ro_IC de_int (de_var 1))) de_int) de_int) de_int))
    (dss_one (ds_retNew (da_cons (de_op op_mul ro_IC (de_int1 m_int (de_cmp op_ge ro_B (nomark _) (de_var 2) (de_op op_pow ro_IC de_int de_int))) (de_var 2)) (da_cons (de_var 3) da_nil)))))), ?_⟩
  rintro as R ⟨ns, k, rfl, hl, hk, hR⟩
  obtain ⟨z, hz⟩ := cell_at ns (some k) (some (k + 1))
  obtain ⟨ms, he, hm⟩ := cutP_map ns (some k) (some (k + 1))
  have hlen : (cutP (List.map PyData.int ns) (some k) (some (k + 1))).length ≤ 63 := by
    rw [he, List.length_map]
    omega
  simp [dRet, dRetNew, dAndV, dIsi, dVar, dOp, dEq, dNe, dLen, dC, dChain, dS, dI, dIC, dB, dIxV, slL, dSlScr, dCat, dLst, dCons, dNil, dPart, dNoPart, dIxL, dIxS, dAsg, dgName, dSeq, dIfS, dSetI, dTest, dInt1, cS, cD, cNil, dNext, tyD, kb_ss, kb_bb, sh_int, sh_bool, ev_ii, ev_bb, endsOf, endsNew, dAnd, dOr, dNot, cps_a, cps_z, lt_one', le_one', cps_one, at0, at1, ix20, ix21, hz]
  refine ⟨nat_le_size (by decide), nat_le_size (by omega), .inl ⟨by decide, by decide⟩, .inr ⟨by decide, by decide⟩, ⟨by decide, by decide, by decide⟩, ?_, nat_le_size (by decide), [], ?_, outs0⟩
  · left
    split <;> exact ⟨by decide, by decide⟩
  · refine hR _ _ ?_ (Int.emod_nonneg _ (by decide)) (Int.lt_of_lt_of_le (Int.emod_lt_of_pos _ (by decide)) (by decide))
    split
    · rw [Int.one_mul]
      omega
    · rw [Int.zero_mul]
      exact Int.le_refl _
theorem ok_law_draw {f : Addr} {fd : FuncData} (F : Fun K "_law_draw" "_law_draw" s_law_draw f fd)  : FnOkG P w K mg base CX0 1 f fd ["_law_hand_here", "_law_many"] (spD K S_draw) := by
  refine fnD F sc_law_draw (fun as R h => by obtain ⟨_, _, _, rfl, _⟩ := h; rfl) fun cdv A outer s H E hr => ?_
  have nd := sc_law_draw.nd
  have hu := hr.units
  have hu1 := hr.units1
  refine ⟨_, _, (dss_cons (ds_if (dt_cmp op_gt ro_B (nomark _) (de_ixV 0 de_int) de_int) (dss_cons (ds_set 2 nd (de_op op_mod ro_IC (de_ixV 0 de_int) (de_var 1)))
    (dss_cons (ds_setI 0 (de_op op_fdiv ro_IC (de_ixV 0 de_int) (de_var 1)) de_int)
    (dss_one (ds_ret (de_var 2))))) dss_nil)
    (dss_cons (ds_setI 0 (de_op op_mod ro_IC (de_op op_add ro_I (de_op op_mul ro_IC (de_ixV 0 de_int) de_int) de_int) de_int) de_int)
    (dss_one (ds_ret (de_op op_mod ro_IC (de_op op_fdiv ro_IC (de_op op_mod ro_IC (de_op op_mul ro_IC (de_ixV 0 de_int) (de_ixV 0 de_int)) de_int) de_int) (de_var 1)))))), ?_⟩
  rintro as R ⟨x, y, n, rfl, hv, hn, hR⟩
  simp [dRet, dRetNew, dAndV, dIsi, dVar, dOp, dEq, dNe, dLen, dC, dChain, dS, dI, dIC, dB, dIxV, slL, dSlScr, dCat, dLst, dCons, dNil, dPart, dNoPart, dIxL, dIxS, dAsg, dgName, dSeq, dIfS, dSetI, dTest, dInt1, cS, cD, cNil, dNext, tyD, kb_ss, kb_bb, sh_int, sh_bool, ev_ii, ev_bb, endsOf, endsNew, dAnd, dOr, dNot, cps_a, cps_z, lt_one', le_one', cps_one, at0, at1, ix20, ix21]
  obtain ⟨h1, h2, h3⟩ := hv
  split
  · refine ⟨hn.1, ⟨hn.1, hn.2⟩, _, hR _ _ _ ⟨Int.emod_nonneg _ (by omega), Int.emod_lt_of_pos _ hn.1⟩ ⟨Int.ediv_nonneg h1 (by omega), h2, h3⟩, outs1 0 rfl⟩
  · have a1 := Int.emod_nonneg (y * 48271 + 11) (by decide : (2147483647 : Int) ≠ 0)
    have a2 := Int.emod_lt_of_pos (y * 48271 + 11) (by decide : (0 : Int) < 2147483647)
    refine ⟨.inr ⟨by decide, by decide⟩, .inl ⟨by omega, by omega⟩, ⟨by decide, by decide⟩, hn.1, _, hR _ _ _ ⟨Int.emod_nonneg _ (by omega), Int.emod_lt_of_pos _ hn.1⟩ ⟨h1, a1, by omega⟩, outs1 0 rfl⟩
theorem ok_law_letters {f : Addr} {fd : FuncData} (F : Fun K "_law_letters" "_law_letters" s_law_letters f fd) (k_law_draw : Kn P w K mg base 1 "_law_draw" S_draw) : FnOkG P w K mg base CX0 2 f fd ["_law_hand_here"] (spD K S_letters) := by
  refine fnD F sc_law_letters (fun as R h => by obtain ⟨_, _, rfl, _⟩ := h; rfl) fun cdv A outer s H E hr => ?_
  have nd := sc_law_letters.nd
  have hu := hr.units
  have hu1 := hr.units1
  refine ⟨_, _, (dss_cons (ds_set 1 nd (de_ix ix_list ro_ixL (de_lst (da_cons de_int (da_cons de_int (da_cons de_int (da_cons de_int (da_cons de_int (da_cons de_int da_nil))))))) (de_call k_law_draw hr (by omega) (dca_s 0 (dca_d de_int dca_nil)))))
    (dss_cons (ds_set 2 nd (de_op op_add ro_I de_int (de_call k_law_draw hr (by omega) (dca_s 0 (dca_d de_int dca_nil)))))
    (dss_cons (ds_set 3 nd (de_call k_law_draw hr (by omega) (dca_s 0 (dca_d (de_op op_sub ro_I de_int (de_op op_mul ro_IC (de_var 2) (de_op op_sub ro_I (de_var 1) de_int))) dca_nil))))
    (dss_one (ds_ret (de_slStep de_str (de_var 3) (de_op op_add ro_I (de_var 3) (de_op op_mul ro_IC (de_var 2) (de_var 1))) (de_var 2))))))), ?_⟩
  rintro as R ⟨x, y, rfl, hv, hR⟩
  have tail : ∀ (m x y : Int), (m = 1 ∨ m = 2 ∨ m = 3 ∨ m = 8) → okH x y →
      dSeq (dAsg (dOp (dI fun i j => i + j) (dC (.int 1)) (dCall S_draw (cS 0 (cD (dC (.int 3)) cNil)))) (dgName 2))
        (dSeq (dAsg (dCall S_draw (cS 0 (cD (dOp (dI fun i j => i - j) (dC (.int 26)) (dOp (dIC CMul fun i j => i * j) (dVar 2) (dOp (dI fun i j => i - j) (dVar 1) (dC (.int 1))))) cNil))) (dgName 3))
          (dRet (dSlStep (dC (.str abc)) (dVar 3) (dOp (dI fun i j => i + j) (dVar 3) (dOp (dIC CMul fun i j => i * j) (dVar 2) (dVar 1))) (dVar 2)))) (endsOf R) [.own (some 0) [.int x, .int y], .dat (.int m), .no, .no] := by
    intro m x y hm hv
    have m8 : 0 ≤ m ∧ m ≤ 8 := by omega
    dsimp only [dSeq, dAsg, dOp, dC, dgName, dRet]
    refine call_draw (i := 0) (t := some 0) (n := 3) ?_ hv ⟨by decide, by decide⟩ ?_ ?_
    · rfl
    · exact fun Q q => q
    intro k x1 y1 hk hv1
    dsimp only [dI]
    have hk3 : k = 0 ∨ k = 1 ∨ k = 2 := by omega
    have pos : 0 < 26 - (1 + k) * (m - 1) := by
      rcases hm with rfl | rfl | rfl | rfl <;> rcases hk3 with rfl | rfl | rfl <;> decide
    have top : 26 - (1 + k) * (m - 1) < 1073741824 := by
      rcases hm with rfl | rfl | rfl | rfl <;> rcases hk3 with rfl | rfl | rfl <;> decide
    refine call_draw (i := 0) (t := some 0) (n := 26 - (1 + k) * (m - 1)) ?_ hv1 ⟨pos, top⟩ ?_ ?_
    · rfl
    · exact fun Q q => ⟨.inl ⟨by omega, by omega⟩, q⟩
    intro st x2 y2 hst hv2
    show CMul (1 + k) m ∧ _
    refine ⟨.inl ⟨by omega, by omega⟩, ⟨by omega, nat_le_size (by decide +kernel)⟩, _, hR _ x2 y2 (good_slice' hm ⟨by omega, by omega⟩ hst.1 hst.2) hv2, outs1 0 rfl⟩
  generalize hT : dSeq (dAsg (dOp (dI _) (dC (.int 1)) _) _) _ = T
  dsimp only [dSeq, dAsg, dOp, dC, dgName, dLst, dCons, dNil]
  refine ⟨nat_le_size (by decide), ?_⟩
  refine call_draw (i := 0) (t := some 0) (n := 6) ?_ hv ⟨by decide, by decide⟩ ?_ ?_
  · rfl
  · exact fun Q q => q
  intro q x1 y1 hq hv1
  subst hT
  have hq6 : q = 0 ∨ q = 1 ∨ q = 2 ∨ q = 3 ∨ q = 4 ∨ q = 5 := by omega
  rcases hq6 with rfl | rfl | rfl | rfl | rfl | rfl
  · exact tail 1 x1 y1 (by decide) hv1
  · exact tail 1 x1 y1 (by decide) hv1
  · exact tail 1 x1 y1 (by decide) hv1
  · exact tail 2 x1 y1 (by decide) hv1
  · exact tail 3 x1 y1 (by decide) hv1
  · exact tail 8 x1 y1 (by decide) hv1
theorem ok_law_are_letters {f : Addr} {fd : FuncData} (F : Fun K "_law_are_letters" "_law_are_letters" s_law_are_letters f fd) : FnOkG P w K mg base CX0 1 f fd ["_law_thing"] (spD K S_are) := by
  refine fnD F sc_law_are_letters (fun as R h => by obtain ⟨_, rfl, _⟩ := h; rfl) fun cdv A outer s H E hr => ?_
  have nd := sc_law_are_letters.nd
  have hu := hr.units
  have hu1 := hr.units1
  refine ⟨_, _, (dss_cons (ds_if (dt_w (dw_or (dt_not (dt_val (de_isi (T := "str") m_isinstance m_str (by decide +kernel) (de_var 0)))) (dw_or (dt_cmp op_lt ro_B (nomark _) (de_len (ps := default) m_len (de_var 0)) de_int) (dw_or1 (dt_cmp op_gt ro_B (nomark _) (de_len (ps := default) m_len (de_var 0)) de_int))))) (dss_one (ds_ret de_bl)) dss_nil)
    (dss_cons (ds_setLc 1 [("_law_sign", 2)] rfl nd (di_str (de_var 0)) (blkOk_by (N := ["_law_thing", "_law_places", "_law_sign"]) (sc := defScope s_law_are_letters) (by decide +kernel)) (fun _ _ _ _ _ => (dg_name 2 nd)) (fun _ _ _ _ _ => dts_nil) (fun _ _ _ _ _ => (de_m_find de_str (de_var 2))) (by decide) (sw_true rfl rfl rfl (by decide +kernel)))
    (dss_one (ds_ret (de_and (de_cmp (op_notInD hu1) ro_notIn rfl (de_un un_neg r1_neg de_int) (de_var 1)) (de_one (de_cmp (op_eqD hu) ro_eq (nomark _) (de_var 1) (de_sortSet m_sorted m_set (de_var 1))))))))), ?_⟩
  rintro as R ⟨z, rfl, hz, hR⟩
  unfold goodL at hz
  rw [Bool.and_eq_true, Bool.and_eq_true, Bool.and_eq_true, decide_eq_true_iff, decide_eq_true_iff] at hz
  obtain ⟨⟨⟨z1, z8⟩, zs⟩, zr⟩ := hz
  have hzl : z.cps.toList.length = z.length := by rw [Array.length_toList]; rfl
  generalize hb : dSeq (dAsg _ (dgName 1)) _ = B
  simp [dSeq, dIfS, dOr, dNot, dTest, dIsi, dVar, dC, dOp, dB, dLen, tyD, kb_ss, dNext]
  refine ⟨nat_le_size (by omega), ?_⟩
  rw [if_neg (by omega), if_neg (by omega), ← hb]
  refine ⟨nat_le_size (by omega), ?_⟩
  dsimp only [dSeq, dAsg, dgName, dLc, diS, dVar]
  show lcW [2] (dgName 2) dYes _ _ _ [] _
  refine lc_fm (fun _ => true) (fun d => match d with
      | .str x => .int (Txt.find abc x)
      | _ => .none) (δ0 := [.dat (.str z), .no, .no]) _ _ _ rfl ?_ ?_ rfl ?_
  · show 0 + (z.cps.toList.map _).length ≤ _
    rw [List.length_map]
    omega
  · intro d hd Y N hy hn
    obtain ⟨c, hc, rfl⟩ := List.mem_map.mp hd
    exact hy rfl _ rfl
  · intro δ' h'
    have hδ : ∃ x, δ' = [.dat (.str z), .no, x] := by
      rcases δ' with _ | ⟨a, _ | ⟨b, _ | ⟨c, _ | ⟨e, r⟩⟩⟩⟩ <;> simp [wipeS] at h'
      obtain ⟨rfl, rfl⟩ := h'
      exact ⟨c, rfl⟩
    obtain ⟨x, rfl⟩ := hδ
    have el : ((z.cps.toList.map fun c => PyData.str ⟨#[c]⟩).filter (fun _ => true)).map (fun d => match d with
        | .str x => PyData.int (Txt.find abc x)
        | _ => .none) = (z.cps.toList.map fun (c : Nat) => (c : Int) - 97).map PyData.int := by
      rw [List.filter_eq_self.mpr fun _ _ => rfl, List.map_map, List.map_map]
      refine List.map_congr_left fun c hc => ?_
      show PyData.int (Txt.find abc ⟨#[c]⟩) = .int ((c : Int) - 97)
      rw [find_small (List.all_eq_true.mp zs c hc)]
    rw [el, List.nil_append]
    have pw : (z.cps.toList.map fun (c : Nat) => (c : Int) - 97).Pairwise (· < ·) := by
      rw [List.pairwise_map]
      exact (rising_pw zr).imp fun {a b} hab => by omega
    have n1 : ((z.cps.toList.map fun (c : Nat) => (c : Int) - 97).map PyData.int).any (fun q => PyData.eqv q (.int (-1))) = false := by
      rw [List.any_eq_false]
      intro q hq
      obtain ⟨i, hi, rfl⟩ := List.mem_map.mp hq
      obtain ⟨c, hc, rfl⟩ := List.mem_map.mp hi
      have hs := List.all_eq_true.mp zs c hc
      unfold small at hs
      rw [Bool.and_eq_true, decide_eq_true_iff, decide_eq_true_iff] at hs
      rw [ev_ii, beq_iff_eq]
      omega
    generalize hns : (z.cps.toList.map fun (c : Nat) => (c : Int) - 97) = ns at pw n1 ⊢
    have lns : ns.length ≤ 8 := by
      rw [← hns, List.length_map]
      omega
    show SeqAt.shaped (.int (-1)) = true ∧ SeqAt.shaped (.list (ns.map PyData.int)) = true ∧ _
    refine ⟨rfl, sh_ints ns, ?_⟩
    rw [n1]
    show (match intsOf (ns.map PyData.int) with
      | some ns => _
      | none => False)
    rw [intsOf_map]
    refine ⟨by omega, fun ms hms hmem => ?_⟩
    have e := rise_eq hms pw hmem
    subst e
    refine ⟨sh_ints _, sh_ints _, [], ?_, outs0⟩
    rw [eqv_lints]
    exact hR
end
abbrev s_law_pattern : Stmt := top 37
theorem sc_law_pattern : FnScope ["_law_hand_here", "_law_leaves", "_law_room", "_law_way", "_law_first", "_law_one"] ["_law_hand_here", "_law_leaves", "_law_room"] (defScope s_law_pattern) := ⟨rfl, rfl, rfl, by decide +kernel, rfl, by decide +kernel, by decide +kernel⟩
def Pt.good : Pt → Bool
  | .non => true
  | .sgn x => goodL x
  | .again p => p.good
  | .two _ p q => p.good && q.good
/-- stars and brackets -/
def Pt.ops : Pt → Nat
  | .non => 0
  | .sgn _ => 0
  | .again p => p.ops + 1
  | .two _ p q => p.ops + q.ops + 1
/-- how many of these a drawn pattern has at most: by its depth, by its leaves -/
def opsT : List (List Nat) := [[0, 0, 0, 0, 0, 0, 0, 0, 0, 0, 0, 0, 0], [1, 0, 0, 0, 0, 0, 0, 0, 0, 0, 0, 0, 0], [1, 2, 2, 2, 2, 2, 2, 2, 2, 2, 2, 2, 2], [1, 4, 5, 5, 5, 5, 5, 5, 5, 5, 5, 5, 5], [1, 6, 9, 10, 11, 11, 11, 11, 11, 11, 11, 11, 11], [1, 8, 13, 16, 19, 20, 21, 22, 23, 23, 23, 23, 23], [1, 10, 17, 22, 27, 30, 33, 36, 39, 40, 41, 42, 43], [1, 12, 21, 28, 35, 40, 45, 50, 55, 58, 61, 64, 67], [1, 14, 25, 34, 43, 50, 57, 64, 71, 76, 81, 86, 91], [1, 16, 29, 40, 51, 60, 69, 78, 87, 94, 101, 108, 115], [1, 18, 33, 46, 59, 70, 81, 92, 103, 112, 121, 130, 139], [1, 20, 37, 52, 67, 80, 93, 106, 119, 130, 141, 152, 163], [1, 22, 41, 58, 75, 90, 105, 120, 135, 148, 161, 174, 187], [1, 24, 45, 64, 83, 100, 117, 134, 151, 166, 181, 196, 211]]
def opsB (n l : Nat) : Nat := ((opsT[n]?).getD [])[l]?.getD 0
theorem opsB_m : ∀ n, n < 13 → ∀ l, l < 13 → 0 < n → opsB n l + 1 ≤ opsB (n + 1) l ∨ l = 0 := by decide +kernel
theorem opsB_t : ∀ n, n < 13 → ∀ a, a < 13 → ∀ b, b < 13 → (0 < n ∧ a + b < 13 ∧ 0 < a + b) → opsB n a + opsB n b + 1 ≤ opsB (n + 1) (a + b) := by
  set_option synthInstance.maxSize 4000 in
  set_option synthInstance.maxHeartbeats 400000 in
  decide +kernel
theorem opsB_z : ∀ n, n < 13 → opsB (n + 1) 0 = 1 := by decide +kernel
theorem opsB_le : ∀ n, n < 14 → ∀ l, l < 13 → opsB n l ≤ 211 := by decide +kernel
theorem opsB_more {n l : Nat} (h : 0 < n ∧ n ≤ 12) (hl : l ≤ 12) : opsB n l + 1 ≤ opsB (n + 1) l ∨ l = 0 := opsB_m n (by omega) l (by omega) h.1
theorem opsB_two {n l a b : Nat} (h : 0 < n ∧ n ≤ 12) (e : l = a + b) (hl : 0 < l) (hm : l ≤ 12) : opsB n a + opsB n b + 1 ≤ opsB (n + 1) l := by
  subst e
  exact opsB_t n (by omega) a (by omega) b (by omega) ⟨h.1, by omega, hl⟩
def S_pattern (n : Nat) : DSp := fun as R => ∃ x y l : Int, as = [.own (some 0) [.int x, .int y], .dat (.int l), .dat (.int (n : Nat))] ∧ 0 < n ∧ n ≤ 13 ∧ okH x y ∧ 0 ≤ l ∧ l ≤ 12 ∧
  ∀ (p : Pt) (x' y' : Int), p.good = true → p.deep ≤ n → p.ops ≤ opsB n l.toNat → okH x' y' → R p.d [[.int x', .int y']]
theorem mono_pattern (n : Nat) : MonoS (S_pattern n) := fun as R R' h ⟨x, y, l, a, b, c, d, e, f, k⟩ => ⟨x, y, l, a, b, c, d, e, f, fun p x' y' g i j m => h _ _ (k p x' y' g i j m)⟩
theorem call_pat {n : Nat} {i : Nat} {x y l m : Int} {t : Option Nat} {δ : List Sl} {R : DQ} {u : DCA} (hs : δ[i]? = some (.own t [.int x, .int y])) (hv : okH x y) (hn : 0 < n ∧ n ≤ 13) (hl : 0 ≤ l ∧ l ≤ 12) (hm : m = (n : Nat))
    (hu : ∀ Q : List CA → List Sl → Prop, Q [.d (.int l), .d (.int m)] δ → u δ Q) (k : ∀ (p : Pt) (x' y' : Int), p.good = true → p.deep ≤ n → p.ops ≤ opsB n l.toNat → okH x' y' → R p.d (δ.set i (.own t [.int x', .int y']))) : dCall (S_pattern n) (cS i u) δ R := by
  subst hm
  exact call_own1 hs [.int l, .int (n : Nat)] hu ⟨x, y, l, rfl, hn.1, hn.2, hv, hl.1, hl.2, fun p x' y' a b c d => ⟨_, rfl, k p x' y' a b c d⟩⟩ (mono_pattern n _)
theorem call_let {i : Nat} {x y : Int} {t : Option Nat} {δ : List Sl} {R : DQ} (hs : δ[i]? = some (.own t [.int x, .int y])) (hv : okH x y)
    (k : ∀ (z : Str) (x' y' : Int), goodL z = true → okH x' y' → R (.str z) (δ.set i (.own t [.int x', .int y']))) : dCall S_letters (cS i cNil) δ R := by
  exact call_own1 hs [] (fun Q q => q) ⟨x, y, rfl, hv, fun z x' y' a b => ⟨_, rfl, k z x' y' a b⟩⟩ (mono_letters _)
section
variable {P : Program} {w : World} {K : PySem.W.Frag} {mg : Str → Option Value} {base : Heap}
variable (m_len : mg "len" = none) (m_isinstance : mg "isinstance" = none) (m_str : mg "str" = none) (m_bool : mg "bool" = none) (m_range : mg "range" = none) (m_int : mg "int" = none) (m_max : mg "max" = none) (m_min : mg "min" = none)
  (m_sum : mg "sum" = none) (m_sorted : mg "sorted" = none) (m_set : mg "set" = none) (m_tuple : mg "tuple" = none) (m_repr : mg "repr" = none) (m_ValueError : mg "ValueError" = none)
include m_len m_isinstance m_str m_bool m_range m_int m_max m_min m_sum m_sorted m_set m_tuple m_repr m_ValueError
theorem ok_law_pattern {f : Addr} {fd : FuncData} (F : Fun K "_law_pattern" "_law_pattern" s_law_pattern f fd) (n : Nat) (k_law_draw : Kn P w K mg base 1 "_law_draw" S_draw) (k_law_letters : Kn P w K mg base 2 "_law_letters" S_letters) (k_law_pattern : Kn P w K mg base (n + 3) "_law_pattern" (S_pattern n)) :
    FnOkG P w K mg base CX0 (n + 3 + 1) f fd ["_law_hand_here", "_law_leaves", "_law_room"] (spD K (S_pattern (n + 1))) := by
  refine fnD F sc_law_pattern (fun as R h => by obtain ⟨_, _, _, rfl, _⟩ := h; rfl) fun cdv A outer s H E hr => ?_
  have nd := sc_law_pattern.nd
  have hu := hr.units
  have hu1 := hr.units1
  refine ⟨_, _, (dss_cons (ds_set 3 nd (de_call k_law_draw hr (by omega) (dca_s 0 (dca_d de_int dca_nil))))
    (dss_cons (ds_if (dt_cmp (op_eqD hu) ro_eq (nomark _) (de_var 1) de_int) (dss_one (ds_ret (de_ix ix_list ro_ixL (de_lst (da_cons (de_tup (da_cons de_str da_nil)) (da_cons (de_tup (da_cons de_str (da_cons (de_tup (da_cons de_str da_nil)) da_nil))) da_nil))) (de_int1 m_int (de_and (de_cmp op_gt ro_B (nomark _) (de_var 2) de_int) (de_one (de_cmp (op_eqD hu) ro_eq (nomark _) (de_var 3) de_int))))))) dss_nil)
    (dss_cons (ds_if (dt_w (dw_and (dt_cmp op_gt ro_B (nomark _) (de_var 2) de_int) (dw_and1 (dt_cmp (op_eqD hu) ro_eq (nomark _) (de_var 3) de_int)))) (dss_one (ds_ret (de_tup (da_cons de_str (da_cons (de_call k_law_pattern hr (by omega) (dca_s 0 (dca_d (de_var 1) (dca_d (de_op op_sub ro_I (de_var 2) de_int) dca_nil)))) da_nil))))) dss_nil)
    (dss_cons (ds_if (dt_w (dw_or (dt_cmp (op_eqD hu) ro_eq (nomark _) (de_var 2) de_int) (dw_or1 (dt_w (dw_and (dt_cmp (op_eqD hu) ro_eq (nomark _) (de_var 1) de_int) (dw_and1 (dt_cmp op_lt ro_B (nomark _) (de_var 3) de_int))))))) (dss_one (ds_ret (de_tup (da_cons de_str (da_cons (de_call k_law_letters hr (by omega) (dca_s 0 dca_nil)) da_nil))))) dss_nil)
    (dss_cons (ds_set 4 nd (de_call k_law_draw hr (by omega) (dca_s 0 (dca_d (de_op op_add ro_I (de_var 1) de_int) dca_nil))))
    (dss_cons (ds_set 5 nd (de_call k_law_pattern hr (by omega) (dca_s 0 (dca_d (de_var 4) (dca_d (de_op op_sub ro_I (de_var 2) de_int) dca_nil)))))
    (dss_one (ds_ret (de_tup (da_cons (de_ix ix_list ro_ixL (de_lst (da_cons de_str (da_cons de_str da_nil))) (de_op op_mod ro_IC (de_var 3) de_int)) (da_cons (de_var 5) (da_cons (de_call k_law_pattern hr (by omega) (dca_s 0 (dca_d (de_op op_sub ro_I (de_var 1) (de_var 4)) (dca_d (de_op op_sub ro_I (de_var 2) de_int) dca_nil)))) da_nil)))))))))))), ?_⟩
  rintro as R ⟨x, y, l, rfl, hn0, hn, hv, hl0, hl, hR⟩
  generalize h4 : dSeq (dAsg (dCall S_draw (cS 0 (cD (dOp _ _ _) cNil))) (dgName 4)) _ = T4
  generalize h3 : dSeq (dIfS (dOr _ _) _ _) T4 = T3
  generalize h2 : dSeq (dIfS (dAnd _ _) _ _) T3 = T2
  dsimp only [dSeq, dAsg, dC, dgName]
  refine call_draw (i := 0) (t := some 0) (n := 8) ?_ hv ⟨by decide, by decide⟩ ?_ ?_
  · rfl
  · exact fun Q q => q
  intro wy x1 y1 hw hv1
  show dIfS _ _ _ _ [.own (some 0) [.int x1, .int y1], .dat (.int l), .dat (.int ((n + 1 : Nat) : Int)), .dat (.int wy), .no, .no]
  have stepD : 1 ≤ n → l ≠ 0 → T4 (endsOf R) [.own (some 0) [.int x1, .int y1], .dat (.int l), .dat (.int ((n + 1 : Nat) : Int)), .dat (.int wy), .no, .no] := fun h1 hl1 => by
    rw [← h4]
    dsimp only [dSeq, dAsg, dgName]
    refine call_draw (i := 0) (t := some 0) (n := l + 1) ?_ hv1 ⟨by omega, by omega⟩ ?_ ?_
    · rfl
    · exact fun Q q => q
    intro fs x2 y2 hf hv2
    refine call_pat (n := n) (i := 0) (t := some 0) (x := x2) (y := y2) (l := fs) (m := ((n + 1 : Nat) : Int) - 1) ?_ hv2 ⟨by omega, by omega⟩ ⟨by omega, by omega⟩ (by omega) ?_ ?_
    · rfl
    · exact fun Q q => q
    intro p x3 y3 hp hd ho hv3
    dsimp only [dRet, dTup, dCons, dNil, dOp, dLst, dC, dIC]
    refine ⟨nat_le_size (by decide), ?_⟩
    show 0 < (2 : Int) ∧ (match atI [PyData.str (Str.ofString "then"), PyData.str (Str.ofString "or")] (wy % 2) with
      | some d => _
      | none => False)
    refine ⟨by decide, ?_⟩
    have hw2 : wy % 2 = 0 ∨ wy % 2 = 1 := by omega
    rcases hw2 with e | e <;> rw [e]
    · rw [at0]
      refine var_at (d := p.d) rfl ?_
      refine call_pat (n := n) (i := 0) (t := some 0) (x := x3) (y := y3) (l := l - fs) (m := ((n + 1 : Nat) : Int) - 1) ?_ hv3 ⟨by omega, by omega⟩ ⟨by omega, by omega⟩ (by omega) ?_ ?_
      · rfl
      · exact fun Q q => q
      intro q x4 y4 hq hd2 ho2 hv4
      exact ⟨nat_le_size (by show 3 ≤ 16777216; decide), _, hR (.two false p q) x4 y4 (by show (p.good && q.good) = true; rw [hp, hq]; rfl) (by show max p.deep q.deep + 1 ≤ n + 1; omega) (by show p.ops + q.ops + 1 ≤ _; exact Nat.le_trans (by omega) (opsB_two (a := fs.toNat) (b := (l - fs).toNat) (by omega) (by omega) (by omega) (by omega))) hv4, outs1 0 rfl⟩
    · rw [at1]
      refine var_at (d := p.d) rfl ?_
      refine call_pat (n := n) (i := 0) (t := some 0) (x := x3) (y := y3) (l := l - fs) (m := ((n + 1 : Nat) : Int) - 1) ?_ hv3 ⟨by omega, by omega⟩ ⟨by omega, by omega⟩ (by omega) ?_ ?_
      · rfl
      · exact fun Q q => q
      intro q x4 y4 hq hd2 ho2 hv4
      exact ⟨nat_le_size (by show 3 ≤ 16777216; decide), _, hR (.two true p q) x4 y4 (by show (p.good && q.good) = true; rw [hp, hq]; rfl) (by show max p.deep q.deep + 1 ≤ n + 1; omega) (by show p.ops + q.ops + 1 ≤ _; exact Nat.le_trans (by omega) (opsB_two (a := fs.toNat) (b := (l - fs).toNat) (by omega) (by omega) (by omega) (by omega))) hv4, outs1 0 rfl⟩
  have sgn : dRet (dTup (dCons (dC (PyData.str (Str.ofString "sign"))) (dCons (dCall S_letters (cS 0 cNil)) dNil))) { endsOf R with nx := T4 (endsOf R) } [.own (some 0) [.int x1, .int y1], .dat (.int l), .dat (.int ((n + 1 : Nat) : Int)), .dat (.int wy), .no, .no] := by
    dsimp only [dRet, dTup, dCons, dNil, dC]
    refine call_let (i := 0) (t := some 0) (x := x1) (y := y1) ?_ hv1 ?_
    · rfl
    intro z x2 y2 hz hv2
    exact ⟨nat_le_size (by show 2 ≤ 16777216; decide), _, hR (.sgn z) x2 y2 hz (by show 1 ≤ n + 1; omega) (Nat.zero_le _) hv2, outs1 0 rfl⟩
  have stepC : l ≠ 0 → T3 (endsOf R) [.own (some 0) [.int x1, .int y1], .dat (.int l), .dat (.int ((n + 1 : Nat) : Int)), .dat (.int wy), .no, .no] := fun hl0 => by
    rw [← h3]
    refine ⟨rfl, rfl, ?_⟩
    show if PyData.eqv (.int ((n + 1 : Nat) : Int)) (.int 1) = true then _ else _
    by_cases h0 : n = 0
    · rw [if_pos (by rw [ev_ii, beq_iff_eq]; omega)]
      exact sgn
    · rw [if_neg (by rw [ev_ii, beq_iff_eq]; omega)]
      refine ⟨rfl, rfl, ?_⟩
      show if PyData.eqv (.int l) (.int 1) = true then _ else _
      by_cases hl1 : l = 1
      · rw [if_pos (by rw [ev_ii, beq_iff_eq]; exact hl1)]
        show if decide (wy < 6) = true then _ else _
        split
        · exact sgn
        · exact stepD (by omega) hl0
      · rw [if_neg (by rw [ev_ii, beq_iff_eq]; exact hl1)]
        exact stepD (by omega) hl0
  refine ⟨rfl, rfl, ?_⟩
  show if PyData.eqv (.int l) (.int 0) = true then _ else _
  by_cases hz : l = 0
  · subst hz
    rw [if_pos (by rw [ev_ii]; rfl)]
    dsimp only [dRet, dOp, dLst, dCons, dNil, dTup, dC]
    refine ⟨nat_le_size (by decide), nat_le_size (by decide), nat_le_size (by decide), nat_le_size (by decide), ?_⟩
    have fin : ∀ b : Bool, (b = true → 1 ≤ n) → dIxL (.list [.tuple [.str (Str.ofString "none")], .tuple [.str (Str.ofString "again"), .tuple [.str (Str.ofString "none")]]]) (.int (if b = true then 1 else 0)) fun d => (endsOf R).rt d [.own (some 0) [.int x1, .int y1], .dat (.int 0), .dat (.int ((n + 1 : Nat) : Int)), .dat (.int wy), .no, .no] := fun b hb => by
      cases b with
      | false => exact ⟨_, hR .non x1 y1 rfl (by show 1 ≤ n + 1; omega) (Nat.zero_le _) hv1, outs1 0 rfl⟩
      | true => exact ⟨_, hR (.again .non) x1 y1 rfl (by show 1 + 1 ≤ n + 1; have := hb rfl; omega) (by show 0 + 1 ≤ opsB (n + 1) 0; rw [opsB_z n (by omega)]; exact Nat.le_refl _) hv1, outs1 0 rfl⟩
    show if decide ((1 : Int) < ((n + 1 : Nat) : Int)) = true then (SeqAt.shaped (.int wy) = true ∧ SeqAt.shaped (.int 0) = true ∧ dIxL _ (.int (if PyData.eqv (.int wy) (.int 0) = true then 1 else 0)) _) else dIxL _ (.int (if false = true then 1 else 0)) _
    by_cases h1 : (1 : Int) < ((n + 1 : Nat) : Int)
    · rw [if_pos (decide_eq_true h1)]
      exact ⟨rfl, rfl, fin (PyData.eqv (.int wy) (.int 0)) fun _ => by omega⟩
    · rw [if_neg (by simpa using h1)]
      exact fin false (by simp)
  · rw [if_neg (by rw [ev_ii, beq_iff_eq]; exact hz)]
    show T2 (endsOf R) _
    rw [← h2]
    show if decide ((1 : Int) < ((n + 1 : Nat) : Int)) = true then _ else _
    by_cases h1 : (1 : Int) < ((n + 1 : Nat) : Int)
    · rw [if_pos (decide_eq_true h1)]
      refine ⟨rfl, rfl, ?_⟩
      show if PyData.eqv (.int wy) (.int 0) = true then _ else _
      by_cases hw0 : wy = 0
      · rw [if_pos (by rw [ev_ii, beq_iff_eq]; exact hw0)]
        dsimp only [dRet, dTup, dCons, dNil, dC]
        refine call_pat (n := n) (i := 0) (t := some 0) (x := x1) (y := y1) (l := l) (m := ((n + 1 : Nat) : Int) - 1) ?_ hv1 ⟨by omega, by omega⟩ ⟨hl0, hl⟩ (by omega) ?_ ?_
        · rfl
        · exact fun Q q => q
        intro p x2 y2 hp hd ho hv2
        exact ⟨nat_le_size (by show 2 ≤ 16777216; decide), _, hR (.again p) x2 y2 hp (by show p.deep + 1 ≤ n + 1; omega) (by show p.ops + 1 ≤ _; rcases opsB_more (n := n) (l := l.toNat) (by omega) (by omega) with e | e <;> omega) hv2, outs1 0 rfl⟩
      · rw [if_neg (by rw [ev_ii, beq_iff_eq]; exact hw0)]
        exact stepC hz
    · rw [if_neg (by simpa using h1)]
      exact stepC hz
end
abbrev s_law_sizes : Stmt := top 38
theorem sc_law_sizes : FnScope ["_law_thing", "_law_some", "_law_part", "_law_one"] ["_law_thing"] (defScope s_law_sizes) := ⟨rfl, rfl, rfl, by decide +kernel, rfl, by decide +kernel, by decide +kernel⟩
theorem okC_good {z : Str} (h : goodL z = true) : okC z := fun c hc => by
  unfold goodL at h
  rw [Bool.and_eq_true, Bool.and_eq_true] at h
  have q := List.all_eq_true.mp h.1.2 c hc
  unfold small at q
  rw [Bool.and_eq_true, decide_eq_true_iff, decide_eq_true_iff] at q
  omega
namespace Pt
theorem lay : ∀ p : Pt, p.good = true → PyData.canLay0 p.d = true
  | non, _ => by decide +kernel
  | sgn x, h => by
    show (PyData.strOk (Str.ofString "sign") && (PyData.strOk x && true)) = true
    rw [strOk_of (okC_good h), show PyData.strOk (Str.ofString "sign") = true by decide +kernel]
    rfl
  | again p, h => by
    show (PyData.strOk (Str.ofString "again") && (PyData.canLay0 p.d && true)) = true
    rw [lay p h, show PyData.strOk (Str.ofString "again") = true by decide +kernel]
    rfl
  | two false p q, h => by
    have h : (p.good && q.good) = true := h
    rw [Bool.and_eq_true] at h
    show (PyData.strOk (Str.ofString "then") && (PyData.canLay0 p.d && (PyData.canLay0 q.d && true))) = true
    rw [lay p h.1, lay q h.2, show PyData.strOk (Str.ofString "then") = true by decide +kernel]
    rfl
  | two true p q, h => by
    have h : (p.good && q.good) = true := h
    rw [Bool.and_eq_true] at h
    show (PyData.strOk (Str.ofString "or") && (PyData.canLay0 p.d && (PyData.canLay0 q.d && true))) = true
    rw [lay p h.1, lay q h.2, show PyData.strOk (Str.ofString "or") = true by decide +kernel]
    rfl
theorem dep : ∀ p : Pt, PyData.depth p.d ≤ p.deep
  | non => by decide
  | sgn x => by show max 0 (max 0 0) + 1 ≤ 1; decide
  | again p => by
    have := dep p
    show max 0 (max (PyData.depth p.d) 0) + 1 ≤ p.deep + 1
    omega
  | two false p q => by
    have := dep p
    have := dep q
    show max 0 (max (PyData.depth p.d) (max (PyData.depth q.d) 0)) + 1 ≤ max p.deep q.deep + 1
    omega
  | two true p q => by
    have := dep p
    have := dep q
    show max 0 (max (PyData.depth p.d) (max (PyData.depth q.d) 0)) + 1 ≤ max p.deep q.deep + 1
    omega
theorem shp {p : Pt} (h : p.good = true) (hd : p.deep ≤ 60) : SeqAt.shaped p.d = true := by
  unfold SeqAt.shaped
  rw [Bool.and_eq_true]
  refine ⟨lay p h, decide_eq_true ?_⟩
  have := dep p
  omega
/-- its numbers -/
def nums (p : Pt) : List Int := [(p.leaves : Nat), (p.parts : Nat), (p.deep : Nat)]
def tri (p : Pt) : PyData := .list (p.nums.map PyData.int)
end Pt
theorem kb_tt : kitB "tuple" "tuple" = some true := by decide +kernel
theorem ev_t0 (a : PyData) (l : List PyData) : PyData.eqv (.tuple (a :: l)) (.tuple []) = false := by simp [PyData.eqv, PyData.eqvAll]
theorem sh_t0 : SeqAt.shaped (.tuple []) = true := rfl
theorem sh_again : SeqAt.shaped (.str (Str.ofString "again")) = true := by decide +kernel
theorem sh_none : SeqAt.shaped (.str (Str.ofString "none")) = true := by decide +kernel
theorem sh_three : SeqAt.shaped (.list [.str (Str.ofString "again"), .str (Str.ofString "then"), .str (Str.ofString "or")]) = true := by decide +kernel
theorem t_nn : (Str.ofString "none" == Str.ofString "none") = true := by decide +kernel
theorem t_sn : (Str.ofString "sign" == Str.ofString "none") = false := by decide +kernel
theorem t_an : (Str.ofString "again" == Str.ofString "none") = false := by decide +kernel
theorem t_tn : (Str.ofString "then" == Str.ofString "none") = false := by decide +kernel
theorem t_on : (Str.ofString "or" == Str.ofString "none") = false := by decide +kernel
theorem t_ns : (Str.ofString "none" == Str.ofString "sign") = false := by decide +kernel
theorem t_ss : (Str.ofString "sign" == Str.ofString "sign") = true := by decide +kernel
theorem t_as : (Str.ofString "again" == Str.ofString "sign") = false := by decide +kernel
theorem t_ts : (Str.ofString "then" == Str.ofString "sign") = false := by decide +kernel
theorem t_os : (Str.ofString "or" == Str.ofString "sign") = false := by decide +kernel
theorem t_aa : (Str.ofString "again" == Str.ofString "again") = true := by decide +kernel
theorem t_ta : (Str.ofString "then" == Str.ofString "again") = false := by decide +kernel
theorem t_oa : (Str.ofString "or" == Str.ofString "again") = false := by decide +kernel
theorem t_tt : (Str.ofString "then" == Str.ofString "then") = true := by decide +kernel
theorem t_oo : (Str.ofString "or" == Str.ofString "or") = true := by decide +kernel
theorem t_at : (Str.ofString "again" == Str.ofString "then") = false := by decide +kernel
theorem t_ot : (Str.ofString "or" == Str.ofString "then") = false := by decide +kernel
theorem t_ao : (Str.ofString "again" == Str.ofString "or") = false := by decide +kernel
theorem t_to : (Str.ofString "then" == Str.ofString "or") = false := by decide +kernel
theorem sh_then : SeqAt.shaped (.str (Str.ofString "then")) = true := by decide +kernel
theorem sh_or : SeqAt.shaped (.str (Str.ofString "or")) = true := by decide +kernel
theorem tris_ok : ∀ ks : List Pt, PyData.canLayAll0 (ks.map Pt.tri) = true ∧ PyData.depthAll (ks.map Pt.tri) ≤ 1
  | [] => ⟨rfl, by decide⟩
  | k :: r => by
    obtain ⟨h1, h2⟩ := tris_ok r
    constructor
    · show (PyData.canLay0 k.tri && PyData.canLayAll0 (r.map Pt.tri)) = true
      rw [h1]
      rfl
    · show max (PyData.depth k.tri) (PyData.depthAll (r.map Pt.tri)) ≤ 1
      have : PyData.depth k.tri = 1 := rfl
      omega
theorem sh_tris (ks : List Pt) : SeqAt.shaped (.list (ks.map Pt.tri)) = true := by
  obtain ⟨h1, h2⟩ := tris_ok ks
  unfold SeqAt.shaped
  rw [Bool.and_eq_true]
  refine ⟨h1, decide_eq_true ?_⟩
  show PyData.depthAll _ + 1 ≤ 64
  omega
theorem no_none (ks : List Pt) : ((ks.map Pt.tri).any fun z => PyData.eqv z .none) = false := by
  rw [List.any_eq_false]
  intro z hz
  obtain ⟨k, _, rfl⟩ := List.mem_map.mp hz
  simp [Pt.tri, PyData.eqv]
/-- one number of each */ -/
theorem lc_item {D : PyData} {ks : List Pt} {x2 : Sl} {R : DQ} (j : Int) (g : Pt → Int) (hk : ks.length ≤ 2) (hg : ∀ k ∈ ks, atI (k.nums.map PyData.int) j = some (.int (g k)))
    (k : ∀ x, R (.list ((ks.map g).map PyData.int)) [.dat D, .dat (.list (ks.map Pt.tri)), x2, x]) : ∀ x3, dLc (diL (dVar 1)) (dgName 3) dYes (dIxV 3 (dC (.int j))) [3] [.dat D, .dat (.list (ks.map Pt.tri)), x2, x3] R := fun x3 => by
  show lcW [3] (dgName 3) dYes (dIxV 3 (dC (.int j))) (fun acc δ' => R (.list acc) δ') (ks.map Pt.tri) [] [.dat D, .dat (.list (ks.map Pt.tri)), x2, x3]
  refine lc_fm (R := fun acc δ' => R (.list acc) δ') (fun _ => true) (fun d => match d with
      | .list ds => (atI ds j).getD .none
      | _ => .none) (δ0 := [.dat D, .dat (.list (ks.map Pt.tri)), x2, .no]) _ [] _ rfl ?_ ?_ rfl ?_
  · rw [List.length_map]
    show 0 + _ ≤ _
    omega
  · intro d hd Y N hy hn
    obtain ⟨a, ha, rfl⟩ := List.mem_map.mp hd
    show (true = true) ∧ (match atI (a.nums.map PyData.int) j with
      | some x => Y x _
      | none => False)
    refine ⟨rfl, ?_⟩
    have z := hy rfl [.dat D, .dat (.list (ks.map Pt.tri)), x2, .dat a.tri] rfl
    have z : Y ((atI (a.nums.map PyData.int) j).getD .none) [.dat D, .dat (.list (ks.map Pt.tri)), x2, .dat a.tri] := z
    rw [hg a ha] at z ⊢
    exact z
  · intro δ' h'
    have hδ : ∃ x, δ' = [.dat D, .dat (.list (ks.map Pt.tri)), x2, x] := by
      rcases δ' with _ | ⟨a, _ | ⟨b, _ | ⟨c, _ | ⟨e, _ | ⟨e2, r⟩⟩⟩⟩⟩ <;> simp [wipeS] at h'
      obtain ⟨rfl, rfl, rfl⟩ := h'
      exact ⟨e, rfl⟩
    obtain ⟨x, rfl⟩ := hδ
    have el : ((ks.map Pt.tri).filter (fun _ => true)).map (fun d => match d with
        | .list ds => (atI ds j).getD .none
        | _ => PyData.none) = (ks.map g).map PyData.int := by
      rw [List.filter_eq_self.mpr fun _ _ => rfl, List.map_map, List.map_map]
      refine List.map_congr_left fun a ha => ?_
      show (atI (a.nums.map PyData.int) j).getD .none = .int (g a)
      rw [hg a ha]
      rfl
    rw [el, List.nil_append]
    exact k x
theorem nums0 (k : Pt) : atI (k.nums.map PyData.int) 0 = some (.int ((k.leaves : Nat) : Int)) := at0 _ _
theorem nums1 (k : Pt) : atI (k.nums.map PyData.int) 1 = some (.int ((k.parts : Nat) : Int)) := at1 _ _ _
theorem nums2 (k : Pt) : atI (k.nums.map PyData.int) 2 = some (.int ((k.deep : Nat) : Int)) := rfl
def S_sizes (n : Nat) : DSp := fun as R => ∃ p : Pt, as = [.dat p.d] ∧ p.good = true ∧ p.deep ≤ n ∧ R p.tri []
theorem mono_sizes (n : Nat) : MonoS (S_sizes n) := fun as R R' h ⟨x, a, b, c, k⟩ => ⟨x, a, b, c, h _ _ k⟩
def tailD (n : Nat) : DTS := dSeq (dAsg (dLc (diT (dSl dSlT (dVar 0) (dPart (dC (.int 1))) dNoPart)) (dgName 2) dYes (dCall (S_sizes n) (cD (dVar 2) cNil)) [2]) (dgName 1))
  (dSeq (dIfS (dTest (dOp dIn (dC .none) (dVar 1))) (dRet (dC .none)) dNext)
    (dRet (dLst (dCons (dSum (dLc (diL (dVar 1)) (dgName 3) dYes (dIxV 3 (dC (.int 0))) [3]))
      (dCons (dOp (dI fun i j => i + j) (dC (.int 1)) (dSum (dLc (diL (dVar 1)) (dgName 3) dYes (dIxV 3 (dC (.int 1))) [3])))
        (dCons (dOp (dI fun i j => i + j) (dC (.int 1)) (dMaxL (dLc (diL (dVar 1)) (dgName 3) dYes (dIxV 3 (dC (.int 2))) [3]))) dNil))))))
theorem Pt.kid_good : ∀ {p k : Pt}, k ∈ p.kids → p.good = true → k.good = true
  | .non, _, h, _ => by cases h
  | .sgn _, _, h, _ => by cases h
  | .again p, k, h, hg => by
    have e := List.mem_singleton.mp h
    subst e
    exact hg
  | .two o p q, k, h, hg => by
    have hg : (p.good && q.good) = true := hg
    rw [Bool.and_eq_true] at hg
    rcases List.mem_cons.mp h with e | h
    · subst e
      exact hg.1
    · have e := List.mem_singleton.mp h
      subst e
      exact hg.2
theorem tail_ok {n : Nat} {E : DEnds} (p : Pt) (hs : p.isS = false) (hk : 0 < p.kids.length) (hg : p.good = true) (hn : p.deep ≤ n + 1) (hE : ∀ δ, E.rt p.tri δ) : tailD n E [.dat p.d, .no, .no, .no] := by
  have l2 := p.rest_len
  have er := Pt.rest_of hs
  rw [p.d_eq]
  unfold tailD
  show ¬ (HT.sIx (.str p.tag :: p.rest : List PyData).length 0 (some 1) = 0 ∧ _) ∧ lcW [2] (dgName 2) dYes (dCall (S_sizes n) (cD (dVar 2) cNil)) _ (cutP (.str p.tag :: p.rest) (some 1) none) [] _
  refine ⟨fun z => ?_, ?_⟩
  · have q := HT.sIx_nat (.str p.tag :: p.rest : List PyData).length 0 1
    rw [show ((1 : Nat) : Int) = 1 from rfl, z.1, List.length_cons] at q
    omega
  rw [cut1 _ _ l2, er]
  have e1 : p.kids.map Pt.d = (p.kids.map fun k => (k.d, k.tri)).map (·.1) := by
    rw [List.map_map]
    rfl
  have e2 : (p.kids.map fun k => (k.d, k.tri)).map (·.2) = p.kids.map Pt.tri := by
    rw [List.map_map]
    rfl
  generalize hD : PyData.tuple (.str p.tag :: p.kids.map Pt.d) = D
  rw [e1]
  refine lc_calls (mono_sizes n) (δ0 := [.dat D, .no, .no, .no]) rfl (by show 2 < 4; decide) _ [] _ rfl ?_ ?_ ?_
  · rw [List.length_map]
    have := p.kids_len
    show 0 + _ ≤ _
    omega
  · intro q hq R' h
    obtain ⟨a, ha, rfl⟩ := List.mem_map.mp hq
    exact ⟨a, rfl, Pt.kid_good ha hg, Pt.kid_deep ha hn, h⟩
  · intro δ' h
    have hδ : ∃ x, δ' = [.dat D, .no, x, .no] := by
      rcases δ' with _ | ⟨a, _ | ⟨b, _ | ⟨c, _ | ⟨e, _ | ⟨e2, r⟩⟩⟩⟩⟩ <;> simp [wipeS] at h
      obtain ⟨rfl, rfl, rfl⟩ := h
      exact ⟨c, rfl⟩
    obtain ⟨x, rfl⟩ := hδ
    rw [e2, List.nil_append]
    have hl := p.kids_len
    refine ⟨rfl, sh_tris _, ?_⟩
    rw [no_none]
    show if (false = true) then _ else _
    rw [if_neg (by decide)]
    dsimp only [dNext, dRet, dLst, dCons, dNil, dSum, dOp, dC, dI, dMaxL]
    refine lc_item 0 (fun k => (k.leaves : Nat)) hl (fun k _ => nums0 k) (fun x1 => ?_) _
    show (match intsOf _ with
      | some ns => _
      | none => False)
    rw [intsOf_map]
    refine lc_item 1 (fun k => (k.parts : Nat)) hl (fun k _ => nums1 k) (fun x2 => ?_) _
    show (match intsOf _ with
      | some ns => _
      | none => False)
    rw [intsOf_map]
    refine lc_item 2 (fun k => (k.deep : Nat)) hl (fun k _ => nums2 k) (fun x3 => ?_) _
    show (match intsOf _ with
      | some ns => _
      | none => False)
    rw [intsOf_map]
    refine ⟨by rw [List.length_map]; exact hk, fun m hm hy => ⟨nat_le_size (by show 3 ≤ 16777216; decide), ?_⟩⟩
    have z := hE [.dat D, .dat (.list (p.kids.map Pt.tri)), x, x3]
    unfold Pt.tri Pt.nums at z
    rw [← sum_leaves hs, ← sum_parts, ← max_deep hm hy] at z
    exact z
section
variable {P : Program} {w : World} {K : PySem.W.Frag} {mg : Str → Option Value} {base : Heap}
variable (m_len : mg "len" = none) (m_isinstance : mg "isinstance" = none) (m_str : mg "str" = none) (m_bool : mg "bool" = none) (m_range : mg "range" = none) (m_int : mg "int" = none) (m_max : mg "max" = none) (m_min : mg "min" = none)
  (m_sum : mg "sum" = none) (m_sorted : mg "sorted" = none) (m_set : mg "set" = none) (m_tuple : mg "tuple" = none) (m_repr : mg "repr" = none) (m_ValueError : mg "ValueError" = none)
include m_len m_isinstance m_str m_bool m_range m_int m_max m_min m_sum m_sorted m_set m_tuple m_repr m_ValueError
theorem ok_law_sizes {f : Addr} {fd : FuncData} (F : Fun K "_law_sizes" "_law_sizes" s_law_sizes f fd) (n : Nat) (k_law_are_letters : Kn P w K mg base 1 "_law_are_letters" S_are) (k_law_sizes : Kn P w K mg base (n + 1) "_law_sizes" (S_sizes n)) :
    FnOkG P w K mg base CX0 (n + 1 + 1) f fd ["_law_thing"] (spD K (S_sizes (n + 1))) := by
  refine fnD F sc_law_sizes (fun as R h => by obtain ⟨_, rfl, _⟩ := h; rfl) fun cdv A outer s H E hr => ?_
  have nd := sc_law_sizes.nd
  have hu := hr.units
  have hu1 := hr.units1
  refine ⟨_, _, (dss_cons (ds_if (dt_w (dw_or (dt_not (dt_val (de_isi (T := "tuple") m_isinstance m_tuple (by decide +kernel) (de_var 0)))) (dw_or (dt_cmp (op_eqT0 (Nat.lt_of_le_of_lt (Nat.le_add_right _ 64) hu)) ro_eqT0 (nomark _) (de_var 0) (de_tup da_nil)) (dw_or1 (dt_not (dt_val (de_isi (T := "str") m_isinstance m_str (by decide +kernel) (de_ix ix_tup ro_ixT (de_var 0) de_int)))))))) (dss_one (ds_ret de_non)) dss_nil)
    (dss_cons (ds_if (dt_cmp (op_eqD hu) ro_eq (nomark _) (de_ix ix_tup ro_ixT (de_var 0) de_int) de_str) (dss_one (ds_ret (de_ix ix_list ro_ixL (de_lst (da_cons de_non (da_cons (de_lst (da_cons de_int (da_cons de_int (da_cons de_int da_nil)))) da_nil))) (de_int1 m_int (de_cmp (op_eqD hu) ro_eq (nomark _) (de_len (ps := default) m_len (de_var 0)) de_int))))) dss_nil)
    (dss_cons (ds_if (dt_cmp (op_eqD hu) ro_eq (nomark _) (de_ix ix_tup ro_ixT (de_var 0) de_int) de_str) (dss_one (ds_ret (de_ix ix_list ro_ixL (de_lst (da_cons de_non (da_cons (de_lst (da_cons de_int (da_cons de_int (da_cons de_int da_nil)))) da_nil))) (de_int1 m_int (de_and (de_cmp (op_eqD hu) ro_eq (nomark _) (de_len (ps := default) m_len (de_var 0)) de_int) (de_one (de_call k_law_are_letters hr (by omega) (dca_d (de_ix ix_tup ro_ixT (de_var 0) de_int) dca_nil)))))))) dss_nil)
    (dss_cons (ds_if (dt_w (dw_or (dt_cmp (op_notInD hu1) ro_notIn rfl (de_ix ix_tup ro_ixT (de_var 0) de_int) (de_lst (da_cons de_str (da_cons de_str (da_cons de_str da_nil))))) (dw_or1 (dt_cmp (op_neD hu) ro_ne (nomark _) (de_len (ps := default) m_len (de_var 0)) (de_op op_add ro_I de_int (de_int1 m_int (de_cmp (op_neD hu) ro_ne (nomark _) (de_ix ix_tup ro_ixT (de_var 0) de_int) de_str))))))) (dss_one (ds_ret de_non)) dss_nil)
    (dss_cons (ds_setLc 1 [("_law_part", 2)] rfl nd (di_tup (de_sl sl_tup rsl_tup (de_var 0) (do_some de_int) do_none)) (blkOk_by (N := ["_law_thing", "_law_some", "_law_part", "_law_one"]) (sc := defScope s_law_sizes) (by decide +kernel)) (fun _ _ _ _ _ => (dg_name 2 nd)) (fun _ _ _ _ _ => dts_nil) (fun _ _ _ _ _ => (de_callI k_law_sizes hr (by omega) (dca_d (de_var 2) dca_nil))) (by decide) (sw_true rfl rfl rfl (by decide +kernel)))
    (dss_cons (ds_if (dt_cmp (op_inD hu1) ro_in rfl de_non (de_var 1)) (dss_one (ds_ret de_non)) dss_nil)
    (dss_one (ds_ret (de_lst (da_cons (de_sum1 m_sum (de_lc [("_law_one", 3)] rfl nd (di_list (de_var 1)) (blkOk_by (N := ["_law_thing", "_law_some", "_law_part", "_law_one"]) (sc := defScope s_law_sizes) (by decide +kernel)) (fun _ _ _ _ _ => (dg_name 3 nd)) (fun _ _ _ _ _ => dts_nil) (fun _ _ _ _ _ => (de_ixVI 3 de_int)) (by decide))) (da_cons (de_op op_add ro_I de_int (de_sum1 m_sum (de_lc [("_law_one", 3)] rfl nd (di_list (de_var 1)) (blkOk_by (N := ["_law_thing", "_law_some", "_law_part", "_law_one"]) (sc := defScope s_law_sizes) (by decide +kernel)) (fun _ _ _ _ _ => (dg_name 3 nd)) (fun _ _ _ _ _ => dts_nil) (fun _ _ _ _ _ => (de_ixVI 3 de_int)) (by decide)))) (da_cons (de_op op_add ro_I de_int (de_max1 m_max (de_lc [("_law_one", 3)] rfl nd (di_list (de_var 1)) (blkOk_by (N := ["_law_thing", "_law_some", "_law_part", "_law_one"]) (sc := defScope s_law_sizes) (by decide +kernel)) (fun _ _ _ _ _ => (dg_name 3 nd)) (fun _ _ _ _ _ => dts_nil) (fun _ _ _ _ _ => (de_ixVI 3 de_int)) (by decide)))) da_nil)))))))))))), ?_⟩
  rintro as R ⟨p, rfl, hg, hn, hR⟩
  generalize h2 : dSeq (dIfS (dTest (dOp dEq (dOp dIxT (dVar 0) (dC (.int 0))) (dC (.str (Str.ofString "none"))))) _ _) _ = T2
  rw [p.d_eq]
  simp [dSeq, dIfS, dOr, dNot, dTest, dIsi, dVar, tyD, kb_tt, dOp, rdEqT0, List.isEmpty, dTup, dNil, dIxT, dC, at0, kb_ss, dNext]
  subst h2
  have fin : ∀ δ, (endsOf R).rt p.tri δ := fun δ => ⟨[], hR, outs0⟩
  generalize h3 : dSeq (dIfS (dTest (dOp dEq (dOp dIxT (dVar 0) (dC (.int 0))) (dC (.str (Str.ofString "sign"))))) _ _) _ = T3
  cases p with
  | non =>
    simp [dSeq, dIfS, dTest, dOp, dIxT, dVar, dC, dEq, Pt.tag, at0, at1, sh_none, ev_ss, t_nn, dRet, dLst, dCons, dNil, dLen, dInt1, dIxL, Pt.rest, Pt.kids, ev_ii, sh_int, endsOf]
    exact ⟨nat_le_size (by decide), nat_le_size (by decide), [], hR, outs0⟩
  | sgn x =>
    simp [dSeq, dIfS, dTest, dOp, dIxT, dVar, dC, dEq, Pt.tag, at0, at1, sh_none, sh_sign, ev_ss, t_sn, dNext, Pt.rest]
    subst h3
    simp [dSeq, dIfS, dTest, dOp, dIxT, dVar, dC, dEq, Pt.tag, at0, at1, sh_none, sh_sign, ev_ss, t_ss, dRet, dLst, dCons, dNil, dLen, dInt1, dIxL, Pt.rest, Pt.kids, ev_ii, sh_int, endsOf, dNext, dAndV]
    refine ⟨nat_le_size (by decide), nat_le_size (by decide), ?_⟩
    refine call_pure [.str x] ?_ ⟨x, rfl, hg, ?_⟩ (mono_are _)
    · intro Q q
      show (match atI [PyData.str (Str.ofString "sign"), PyData.str x] 1 with
        | some d => _
        | none => False)
      rw [at1]
      exact q
    · show [] = [] ∧ (match atI [PyData.none, .list [.int 1, .int 1, .int 1]] 1 with
        | some d => _
        | none => False)
      rw [at1]
      exact ⟨rfl, [], hR, outs0⟩
  | again p =>
    simp [dSeq, dIfS, dTest, dOp, dIxT, dVar, dC, dEq, Pt.tag, at0, at1, sh_none, sh_again, sh_sign, ev_ss, t_an, t_as, dNext, Pt.rest, Pt.kids]
    subst h3
    generalize h5 : dSeq (dAsg (dLc _ _ _ _ _) _) _ = T5
    simp [dSeq, dIfS, dTest, dOp, dIxT, dVar, dC, dEq, Pt.tag, at0, at1, sh_again, sh_sign, ev_ss, t_as, t_aa, dNext, Pt.rest, Pt.kids, dOr, dNotIn, dNe, dLen, dInt1, dLst, dCons, dNil, sh_three, sh_int, ev_ii, dI]
    subst h5
    exact ⟨nat_le_size (by decide), tail_ok (.again p) rfl (by show 0 < 1; decide) hg hn fin⟩
  | two o p q =>
    cases o with
    | false =>
      simp [dSeq, dIfS, dTest, dOp, dIxT, dVar, dC, dEq, Pt.tag, at0, at1, sh_none, sh_then, sh_sign, ev_ss, t_tn, t_ts, dNext, Pt.rest, Pt.kids]
      subst h3
      generalize h5 : dSeq (dAsg (dLc _ _ _ _ _) _) _ = T5
      simp [dSeq, dIfS, dTest, dOp, dIxT, dVar, dC, dEq, Pt.tag, at0, at1, sh_then, sh_again, sh_sign, ev_ss, t_ts, t_ta, t_tt, t_aa, t_at, t_ot, dNext, Pt.rest, Pt.kids, dOr, dNotIn, dNe, dLen, dInt1, dLst, dCons, dNil, sh_three, sh_int, ev_ii, dI]
      subst h5
      exact ⟨nat_le_size (by decide), tail_ok (.two false p q) rfl (by show 0 < 2; decide) hg hn fin⟩
    | true =>
      simp [dSeq, dIfS, dTest, dOp, dIxT, dVar, dC, dEq, Pt.tag, at0, at1, sh_none, sh_or, sh_sign, ev_ss, t_on, t_os, dNext, Pt.rest, Pt.kids]
      subst h3
      generalize h5 : dSeq (dAsg (dLc _ _ _ _ _) _) _ = T5
      simp [dSeq, dIfS, dTest, dOp, dIxT, dVar, dC, dEq, Pt.tag, at0, at1, sh_or, sh_again, sh_sign, ev_ss, t_os, t_oa, t_oo, t_aa, t_ao, t_to, dNext, Pt.rest, Pt.kids, dOr, dNotIn, dNe, dLen, dInt1, dLst, dCons, dNil, sh_three, sh_int, ev_ii, dI]
      subst h5
      exact ⟨nat_le_size (by decide), tail_ok (.two true p q) rfl (by show 0 < 2; decide) hg hn fin⟩
end
end K05

set_option Elab.async false
set_option linter.all false
set_option maxRecDepth 100000
set_option maxHeartbeats 4000000
/-! K05m: what a text is read to, sign by sign. -/
namespace K05
open PySem PySem.Spec L2 TL
abbrev st (l : List Nat) : Str := ⟨l.toArray⟩
theorem st_len (l : List Nat) : (st l).length = l.length := by
  show l.toArray.size = l.length
  simp
theorem st_cps (l : List Nat) : (st l).cps.toList = l := by simp
theorem st_of (z : Str) : st z.cps.toList = z := by
  obtain ⟨a⟩ := z
  simp [st]
/-- what the program holds of a pattern -/
def W (p : Pt) : PyData := .tuple [p.d, .int (p.leaves : Nat), .int (p.parts : Nat), .int (p.deep : Nat)]
/-- what stands in an open bracket, or in the whole text -/
inductive Fr where
  | b0
  | bA (p : Pt)
  | o
  | oA (p : Pt)
  | oAA (p q : Pt)
  | oB (p : Pt)
  | oBA (p q : Pt)
namespace Fr
def tx : Fr → List Nat
  | b0 => []
  | bA _ => [97]
  | o => [40]
  | oA _ => [40, 97]
  | oAA _ _ => [40, 97, 97]
  | oB _ => [40, 97, 124]
  | oBA _ _ => [40, 97, 124, 97]
def ps : Fr → List Pt
  | b0 => []
  | bA p => [p]
  | o => []
  | oA p => [p]
  | oAA p q => [p, q]
  | oB p => [p]
  | oBA p q => [p, q]
def opn : PyData := .str (Str.ofString "(")
def mid : PyData := .str (Str.ofString "|")
def row : Fr → List PyData
  | b0 => []
  | bA p => [p.d]
  | o => [opn]
  | oA p => [opn, p.d]
  | oAA p q => [opn, p.d, q.d]
  | oB p => [opn, p.d, mid]
  | oBA p q => [opn, p.d, mid, q.d]
def beg : Fr → Bool
  | b0 => true
  | o => true
  | oA _ => true
  | oB _ => true
  | _ => false
def isB : Fr → Bool
  | b0 => true
  | bA _ => true
  | _ => false
def put (x : Pt) : Fr → Fr
  | b0 => bA x
  | o => oA x
  | oA p => oAA p x
  | oB p => oBA p x
  | f => f
def star : Fr → Option Fr
  | bA p => some (bA (.again p))
  | oA p => some (oA (.again p))
  | oAA p q => some (oAA p (.again q))
  | oBA p q => some (oBA p (.again q))
  | _ => none
def bar : Fr → Option Fr
  | oA p => some (oB p)
  | _ => none
def close : Fr → Option Pt
  | oAA p q => some (.two false p q)
  | oBA p q => some (.two true p q)
  | _ => none
theorem put_row {f : Fr} (h : f.beg = true) (x : Pt) : (f.put x).row = f.row ++ [x.d] := by
  cases f <;> first
    | rfl
    | cases h
theorem put_ps {f : Fr} (h : f.beg = true) (x : Pt) : (f.put x).ps = f.ps ++ [x] := by
  cases f <;> first
    | rfl
    | cases h
theorem put_tx {f : Fr} (h : f.beg = true) (x : Pt) : (f.put x).tx = f.tx ++ [97] := by
  cases f <;> first
    | rfl
    | cases h
theorem put_isB {f : Fr} (h : f.beg = true) (x : Pt) : (f.put x).isB = f.isB := by
  cases f <;> first
    | rfl
    | cases h
theorem tx_le (f : Fr) : f.tx.length ≤ 4 := by cases f <;> simp [tx]
end Fr
abbrev State := List Fr × Option (List Nat)
def stp (c : Nat) : List Fr → Option State
  | [] => none
  | f :: fs =>
    if c = 42 then f.star.map fun g => (g :: fs, none)
    else if c = 124 then f.bar.map fun g => (g :: fs, none)
    else if c = 41 then (match f.close, fs with
      | some p, g :: gs => some (g.put p :: gs, none)
      | _, _ => none)
    else if f.beg = true then
      if c = 40 then some (.o :: f :: fs, none)
      else if c = 91 then some (f :: fs, some [])
      else if c = 95 then some (f.put .non :: fs, none)
      else if small c = true then some (f.put (.sgn (st [c])) :: fs, none)
      else none
    else none
/-- whether c can stand behind these letters -/
def canF (ls : List Nat) (c : Nat) : Bool := small c && (!decide (ls.length = 8) && match ls.getLast? with
  | some b => decide (b < c)
  | none => decide (c < 122))
theorem stp_cons (c : Nat) (f : Fr) (fs : List Fr) : stp c (f :: fs) = (if c = 42 then f.star.map fun g => (g :: fs, none)
    else if c = 124 then f.bar.map fun g => (g :: fs, none)
    else if c = 41 then (match f.close, fs with
      | some p, g :: gs => some (g.put p :: gs, none)
      | _, _ => none)
    else if f.beg = true then
      if c = 40 then some (.o :: f :: fs, none)
      else if c = 91 then some (f :: fs, some [])
      else if c = 95 then some (f.put .non :: fs, none)
      else if small c = true then some (f.put (.sgn (st [c])) :: fs, none)
      else none
    else none) := rfl
def nxt (c : Nat) : State → Option State
  | (fs, none) => stp c fs
  | (f :: fs, some ls) => if c = 93 ∧ 1 < ls.length then some (f.put (.sgn (st ls)) :: fs, none) else if canF ls c = true then some (f :: fs, some (ls ++ [c])) else none
  | ([], some _) => none
def run : List Nat → State → Nat → Except Nat State
  | [], s, _ => .ok s
  | c :: r, s, at_ => match nxt c s with
    | none => .error at_
    | some s' => run r s' (at_ + 1)
inductive Out where
  | bad (n : Nat)
  | big
  | told (p : Pt)
def inB (p : Pt) : Bool := decide (p.leaves ≤ 11) && (decide (p.parts ≤ 40) && decide (p.deep ≤ 12))
/-- what stands behind all signs -/
def endOf (n : Nat) : State → Out
  | ([.bA p], none) => if inB p = true then .told p else .big
  | _ => .bad n
def out (l : List Nat) : Out := match run l ([.b0], none) 0 with
  | .error n => .bad n
  | .ok s => endOf l.length s
/-! ### what is true of a state -/
def okFs : List Fr → Bool
  | [] => false
  | [f] => f.isB
  | f :: g :: r => !f.isB && (g.beg && okFs (g :: r))
def rises (ls : List Nat) : Bool := ls.all small && rising ls && decide (ls.length ≤ 8)
structure Good (b : Nat) (s : State) : Prop where
  ok : okFs s.1 = true
  ps : ∀ f ∈ s.1, ∀ p ∈ f.ps, p.good = true ∧ p.deep ≤ b
  ls : ∀ l, s.2 = some l → rises l = true ∧ ∃ f fs, s.1 = f :: fs ∧ f.beg = true
theorem Good.zero (b : Nat) : Good b ([.b0], none) := ⟨rfl, fun f hf p hp => (by
  cases List.mem_singleton.mp hf
  cases hp), fun l h => nomatch h⟩
theorem Good.le {b b' : Nat} {s : State} (g : Good b s) (h : b ≤ b') : Good b' s := ⟨g.ok, fun f hf p hp => ⟨(g.ps f hf p hp).1, Nat.le_trans (g.ps f hf p hp).2 h⟩, g.ls⟩
theorem okFs_top {f f' : Fr} {fs : List Fr} (h : okFs (f :: fs) = true) (e : f'.isB = f.isB) : okFs (f' :: fs) = true := by
  cases fs with
  | nil =>
    show f'.isB = true
    rw [e]
    exact h
  | cons g r =>
    have h : (!f.isB && (g.beg && okFs (g :: r))) = true := h
    show (!f'.isB && (g.beg && okFs (g :: r))) = true
    rw [e]
    exact h
theorem okFs_under {f g : Fr} {r : List Fr} (h : okFs (f :: g :: r) = true) : f.isB = false ∧ g.beg = true ∧ okFs (g :: r) = true := by
  have h : (!f.isB && (g.beg && okFs (g :: r))) = true := h
  rw [Bool.and_eq_true, Bool.and_eq_true] at h
  exact ⟨by simpa using h.1, h.2.1, h.2.2⟩
/-- a letter that begins, one that follows -/
theorem rises_app : ∀ {ls : List Nat} {c : Nat}, rises ls = true → canF ls c = true → rises (ls ++ [c]) = true := by
  intro ls c h k
  unfold rises at h ⊢
  unfold canF at k
  rw [Bool.and_eq_true, Bool.and_eq_true, decide_eq_true_iff] at h
  rw [Bool.and_eq_true, Bool.and_eq_true] at k
  obtain ⟨⟨h1, h2⟩, h3⟩ := h
  obtain ⟨k1, k2, k3⟩ := k
  have k2 : ls.length ≠ 8 := by simpa using k2
  rw [Bool.and_eq_true, Bool.and_eq_true, decide_eq_true_iff]
  refine ⟨⟨?_, ?_⟩, by rw [List.length_append, List.length_singleton]; omega⟩
  · rw [List.all_append, h1]
    simpa using k1
  · have key : ∀ l : List Nat, rising l = true → (match l.getLast? with
      | some b => decide (b < c)
      | none => decide (c < 122)) = true → rising (l ++ [c]) = true := by
      intro l
      induction l with
      | nil => exact fun _ _ => rfl
      | cons a r ih =>
        intro q1 q2
        cases r with
        | nil =>
          show (decide (a < c) && rising [c]) = true
          have q2 : decide (a < c) = true := q2
          rw [q2]
          rfl
        | cons b r =>
          have q1 : (decide (a < b) && rising (b :: r)) = true := q1
          rw [Bool.and_eq_true] at q1
          show (decide (a < b) && rising (b :: (r ++ [c]))) = true
          rw [q1.1, Bool.true_and]
          exact ih q1.2 q2
    exact key ls h2 k3
theorem good_rises {ls : List Nat} (h : rises ls = true) (k : 1 ≤ ls.length) : goodL (st ls) = true := by
  unfold rises at h
  unfold goodL
  rw [Bool.and_eq_true, Bool.and_eq_true, decide_eq_true_iff] at h
  rw [st_cps, st_len, h.1.1, h.1.2, decide_eq_true k, decide_eq_true h.2]
  rfl
theorem good_one {c : Nat} (h : small c = true) : goodL (st [c]) = true := good_rises (by unfold rises; simp [h, rising]) (Nat.le_refl 1)
/-- stars and closing brackets -/
def isOp (c : Nat) : Bool := decide (c = 42) || decide (c = 41)
def cnt (l : List Nat) : Nat := l.countP isOp
theorem Fr.ps_put {f : Fr} (h : f.beg = true) {x p : Pt} (hp : p ∈ (f.put x).ps) : p ∈ f.ps ∨ p = x := by
  rw [Fr.put_ps h, List.mem_append, List.mem_singleton] at hp
  exact hp
theorem Good.put {b : Nat} {f : Fr} {fs : List Fr} {o : Option (List Nat)} (g : Good b (f :: fs, o)) (h : f.beg = true) {x : Pt} (hx : x.good = true ∧ x.deep ≤ b) : Good b (f.put x :: fs, none) where
  ok := okFs_top g.ok (Fr.put_isB h x)
  ps := fun f' hf p hp => by
    rcases List.mem_cons.mp hf with e | hf
    · subst e
      rcases Fr.ps_put h hp with hp | hp
      · exact g.ps f List.mem_cons_self p hp
      · subst hp
        exact hx
    · exact g.ps f' (List.mem_cons_of_mem _ hf) p hp
  ls := fun l e => nomatch e
theorem isOp_eq {c : Nat} : isOp c = true ↔ c = 42 ∨ c = 41 := by
  unfold isOp
  rw [Bool.or_eq_true, decide_eq_true_iff, decide_eq_true_iff]
theorem Good.nxt {b c : Nat} {s s' : State} (g : Good b s) (hb : 1 ≤ b) (h : nxt c s = some s') : Good (b + if isOp c = true then 1 else 0) s' := by
  obtain ⟨fs, o⟩ := s
  cases fs with
  | nil => exact absurd g.ok (by simp [okFs])
  | cons f fs =>
    cases o with
    | some ls =>
      obtain ⟨hl, f0, fs0, e0, hf⟩ := g.ls ls rfl
      cases e0
      have h : (if c = 93 ∧ 1 < ls.length then some (f.put (.sgn (st ls)) :: fs, none) else if canF ls c = true then some (f :: fs, some (ls ++ [c])) else none) = some s' := h
      by_cases h1 : c = 93 ∧ 1 < ls.length
      · rw [if_pos h1] at h
        cases h
        exact (g.put hf (x := .sgn (st ls)) ⟨good_rises hl (by omega), hb⟩).le (Nat.le_add_right _ _)
      · rw [if_neg h1] at h
        by_cases h2 : canF ls c = true
        · rw [if_pos h2] at h
          cases h
          exact Good.le ⟨g.ok, g.ps, fun l e => by
            cases e
            exact ⟨rises_app hl h2, f, fs, rfl, hf⟩⟩ (Nat.le_add_right _ _)
        · rw [if_neg h2] at h
          cases h
    | none =>
      have h : stp c (f :: fs) = some s' := h
      rw [stp_cons] at h
      by_cases c1 : c = 42
      · rw [if_pos c1] at h
        rw [if_pos (isOp_eq.mpr (.inl c1))]
        have up : ∀ (f' : Fr), f'.isB = f.isB → (∀ p ∈ f'.ps, p ∈ f.ps ∨ ∃ q ∈ f.ps, p = .again q) → Good (b + 1) (f' :: fs, none) := fun f' e hp => ⟨okFs_top g.ok e, fun f2 hf p h2 => by
          rcases List.mem_cons.mp hf with e2 | hf
          · subst e2
            rcases hp p h2 with h3 | ⟨q, h3, rfl⟩
            · have := g.ps f List.mem_cons_self p h3
              exact ⟨this.1, by omega⟩
            · have := g.ps f List.mem_cons_self q h3
              exact ⟨this.1, by show q.deep + 1 ≤ b + 1; omega⟩
          · have := g.ps f2 (List.mem_cons_of_mem _ hf) p h2
            exact ⟨this.1, by omega⟩, fun l e => nomatch e⟩
        cases f with
        | bA p =>
          cases h
          exact up _ rfl fun q hq => .inr ⟨p, List.mem_cons_self, List.mem_singleton.mp hq⟩
        | oA p =>
          cases h
          exact up _ rfl fun q hq => .inr ⟨p, List.mem_cons_self, List.mem_singleton.mp hq⟩
        | oAA p q =>
          cases h
          refine up _ rfl fun x hx => ?_
          rcases List.mem_cons.mp hx with e | hx
          · exact .inl (by rw [e]; exact List.mem_cons_self)
          · exact .inr ⟨q, List.mem_cons_of_mem _ List.mem_cons_self, List.mem_singleton.mp hx⟩
        | oBA p q =>
          cases h
          refine up _ rfl fun x hx => ?_
          rcases List.mem_cons.mp hx with e | hx
          · exact .inl (by rw [e]; exact List.mem_cons_self)
          · exact .inr ⟨q, List.mem_cons_of_mem _ List.mem_cons_self, List.mem_singleton.mp hx⟩
        | b0 => cases h
        | o => cases h
        | oB p => cases h
      rw [if_neg c1] at h
      by_cases c2 : c = 124
      · rw [if_pos c2] at h
        cases f <;> cases h
        exact Good.le ⟨okFs_top g.ok rfl, fun f2 hf p h2 => by
          rcases List.mem_cons.mp hf with e2 | hf
          · subst e2
            exact g.ps _ List.mem_cons_self p h2
          · exact g.ps f2 (List.mem_cons_of_mem _ hf) p h2, fun l e => nomatch e⟩ (Nat.le_add_right _ _)
      rw [if_neg c2] at h
      by_cases c3 : c = 41
      · rw [if_pos c3] at h
        rw [if_pos (isOp_eq.mpr (.inr c3))]
        cases fs with
        | nil => cases f <;> cases h
        | cons f2 r =>
          obtain ⟨u1, u2, u3⟩ := okFs_under g.ok
          have g2 : Good (b + 1) (f2 :: r, none) := Good.le ⟨u3, fun f' hf p hp => g.ps f' (List.mem_cons_of_mem _ hf) p hp, fun l e => nomatch e⟩ (Nat.le_succ b)
          cases f with
          | oAA p q =>
            cases h
            have a1 := g.ps _ List.mem_cons_self p List.mem_cons_self
            have a2 := g.ps _ List.mem_cons_self q (List.mem_cons_of_mem _ List.mem_cons_self)
            exact g2.put u2 ⟨by show (p.good && q.good) = true; rw [a1.1, a2.1]; rfl, by show max p.deep q.deep + 1 ≤ b + 1; omega⟩
          | oBA p q =>
            cases h
            have a1 := g.ps _ List.mem_cons_self p List.mem_cons_self
            have a2 := g.ps _ List.mem_cons_self q (List.mem_cons_of_mem _ List.mem_cons_self)
            exact g2.put u2 ⟨by show (p.good && q.good) = true; rw [a1.1, a2.1]; rfl, by show max p.deep q.deep + 1 ≤ b + 1; omega⟩
          | b0 => cases h
          | bA p => cases h
          | o => cases h
          | oA p => cases h
          | oB p => cases h
      rw [if_neg c3] at h
      refine Good.le ?_ (Nat.le_add_right _ _)
      by_cases c4 : f.beg = true
      · rw [if_pos c4] at h
        by_cases c5 : c = 40
        · rw [if_pos c5] at h
          cases h
          exact ⟨by show (!Fr.isB .o && (f.beg && okFs (f :: fs))) = true; rw [c4, g.ok]; rfl, fun f2 hf p h2 => by
            rcases List.mem_cons.mp hf with e2 | hf
            · subst e2
              cases h2
            · exact g.ps f2 hf p h2, fun l e => nomatch e⟩
        rw [if_neg c5] at h
        by_cases c6 : c = 91
        · rw [if_pos c6] at h
          cases h
          exact ⟨g.ok, g.ps, fun l e => by
            cases e
            exact ⟨rfl, f, fs, rfl, c4⟩⟩
        rw [if_neg c6] at h
        by_cases c7 : c = 95
        · rw [if_pos c7] at h
          cases h
          exact g.put c4 (x := .non) ⟨rfl, hb⟩
        rw [if_neg c7] at h
        by_cases c8 : small c = true
        · rw [if_pos c8] at h
          cases h
          exact g.put c4 (x := .sgn (st [c])) ⟨good_one c8, hb⟩
        · rw [if_neg c8] at h
          cases h
      · rw [if_neg c4] at h
        cases h
/-! ### rows, stacks -/
def rowF : List Fr → List PyData
  | [] => []
  | f :: fs => rowF fs ++ f.row
def rowS : State → List PyData
  | (fs, none) => rowF fs
  | (fs, some ls) => rowF fs ++ [.str (st (91 :: ls))]
def opnF : List Fr → List PyData
  | [] => []
  | f :: fs => opnF fs ++ [.str (st f.tx)]
def hldF : List Fr → List PyData
  | [] => []
  | f :: fs => hldF fs ++ f.ps.map W
theorem opnF_len : ∀ fs : List Fr, (opnF fs).length = fs.length
  | [] => rfl
  | f :: fs => by
    show (opnF fs ++ _).length = _
    rw [List.length_append, opnF_len fs]
    rfl
theorem hldF_len : ∀ fs : List Fr, (hldF fs).length ≤ 2 * fs.length
  | [] => Nat.le_refl _
  | f :: fs => by
    show (hldF fs ++ _).length ≤ _
    have := hldF_len fs
    rw [List.length_append, List.length_map, List.length_cons]
    have : f.ps.length ≤ 2 := by cases f <;> simp [Fr.ps, Fr.row]
    omega
theorem rowF_len : ∀ fs : List Fr, (rowF fs).length ≤ 4 * fs.length
  | [] => Nat.le_refl _
  | f :: fs => by
    show (rowF fs ++ _).length ≤ _
    have := rowF_len fs
    rw [List.length_append, List.length_cons]
    have : f.row.length ≤ 4 := by cases f <;> simp [Fr.ps, Fr.row]
    omega
/-- a step more, a frame more at most -/
theorem nxt_len {c : Nat} {s s' : State} (h : nxt c s = some s') : s'.1.length ≤ s.1.length + 1 := by
  obtain ⟨fs, o⟩ := s
  cases fs with
  | nil => cases o <;> cases h
  | cons f fs =>
    cases o with
    | some ls =>
      have h : (if c = 93 ∧ 1 < ls.length then some (f.put (.sgn (st ls)) :: fs, none) else if canF ls c = true then some (f :: fs, some (ls ++ [c])) else none) = some s' := h
      split at h
      · cases h
        show (f.put _ :: fs).length ≤ _
        simp
      · split at h
        · cases h
          show (f :: fs).length ≤ _
          simp
        · cases h
    | none =>
      have h : stp c (f :: fs) = some s' := h
      rw [stp_cons] at h
      split at h
      · obtain ⟨g, _, rfl⟩ := Option.map_eq_some_iff.mp h
        simp
      · split at h
        · obtain ⟨g, _, rfl⟩ := Option.map_eq_some_iff.mp h
          simp
        · split at h
          · split at h
            · cases h
              simp
            · cases h
          · split at h
            · split at h
              · cases h
                simp
              · split at h
                · cases h
                  simp
                · split at h
                  · cases h
                    simp
                  · split at h
                    · cases h
                      simp
                    · cases h
            · cases h
end K05

set_option Elab.async false
set_option linter.all false
set_option maxRecDepth 100000
set_option maxHeartbeats 4000000
/-! K05f: the program's small defs -/
namespace K05
open PySem PySem.Spec L2 TL
theorem st_app (a b : List Nat) : st a ++ st b = st (a ++ b) := by
  have e := st_of (st a ++ st b)
  rw [tl_app] at e
  exact e.symm
theorem st_eq (a b : List Nat) : (st a == st b) = decide (a = b) := by
  by_cases h : a = b
  · subst h
    rw [decide_eq_true rfl]
    exact beq_iff_eq.mpr rfl
  · rw [decide_eq_false h]
    refine beq_eq_false_iff_ne.mpr fun e => h ?_
    have := congrArg (fun z : Str => z.cps.toList) e
    exact this
theorem c_e : Str.ofString "" = st [] := by decide +kernel
theorem c_em : Str.empty = st [] := by decide +kernel
theorem c_und : Str.ofString "_" = st [95] := by decide +kernel
theorem c_opn : Str.ofString "(" = st [40] := by decide +kernel
theorem c_cls : Str.ofString ")" = st [41] := by decide +kernel
theorem c_bar : Str.ofString "|" = st [124] := by decide +kernel
theorem c_star : Str.ofString "*" = st [42] := by decide +kernel
theorem c_lb : Str.ofString "[" = st [91] := by decide +kernel
theorem c_rb : Str.ofString "]" = st [93] := by decide +kernel
theorem c_a : Str.ofString "a" = st [97] := by decide +kernel
theorem c_z : Str.ofString "z" = st [122] := by decide +kernel
theorem c_three : Str.ofString "_([" = st [95, 40, 91] := by decide +kernel
theorem at_last (l : List PyData) (x : PyData) : ixN (l ++ [x]).length (-1) = some l.length := by
  unfold ixN
  rw [if_neg (by decide), if_pos (by rw [List.length_append, List.length_singleton]; omega)]
  rw [List.length_append, List.length_singleton]
  congr 1
  omega
theorem atI_last (l : List PyData) (x : PyData) : atI (l ++ [x]) (-1) = some x := by
  unfold atI
  rw [at_last]
  simp
theorem get_last (l : List PyData) (x : PyData) : (l ++ [x])[l.length]? = some x := by simp
theorem set_last (l : List PyData) (x y : PyData) : (l ++ [x]).set l.length y = l ++ [y] := by
  rw [List.set_append_right _ _ (Nat.le_refl _), Nat.sub_self]
  rfl
theorem at_mid {α : Type} (l r : List α) (x : α) : atI (l ++ x :: r) (l.length : Nat) = some x := by
  unfold atI ixN
  rw [if_pos (by omega), if_pos (by rw [List.length_append, List.length_cons]; omega)]
  simp
theorem last_app (l : List PyData) (x : PyData) : (l ++ [x]).getLast? = some x := by simp
theorem drop_app (l : List PyData) (x : PyData) : (l ++ [x]).dropLast = l := by simp
theorem iota_cons (lo : Int) (m : Nat) : iotaD lo (m + 1) = .int lo :: iotaD (lo + 1) m := by
  unfold iotaD
  rw [List.range_succ_eq_map, List.map_cons, List.map_map]
  congr 1
  · simp
  · apply List.map_congr_left
    intro i _
    show PyData.int (lo + ((i + 1 : Nat) : Int)) = PyData.int (lo + 1 + (i : Int))
    congr 1
    omega
theorem good_len {z : Str} (h : goodL z = true) : 1 ≤ z.cps.toList.length ∧ z.cps.toList.length ≤ 8 := by
  unfold goodL at h
  rw [Bool.and_eq_true, Bool.and_eq_true, Bool.and_eq_true, decide_eq_true_iff, decide_eq_true_iff] at h
  have e : z.cps.toList.length = z.length := by rw [Array.length_toList]; rfl
  rw [e]
  exact h.1.1
theorem good_small {z : Str} (h : goodL z = true) : ∀ c ∈ z.cps.toList, small c = true := by
  unfold goodL at h
  rw [Bool.and_eq_true, Bool.and_eq_true] at h
  exact List.all_eq_true.mp h.1.2
theorem good_rise {z : Str} (h : goodL z = true) : z.cps.toList.Pairwise (· < ·) := by
  unfold goodL at h
  rw [Bool.and_eq_true] at h
  exact rising_pw h.2
abbrev s_is_sign : Stmt := top 17
theorem sc_is_sign : FnScope ["thing"] ["thing"] (defScope s_is_sign) := ⟨rfl, rfl, rfl, by decide +kernel, rfl, by decide +kernel, by decide +kernel⟩
abbrev s_is_within : Stmt := top 23
theorem sc_is_within : FnScope ["leaves", "parts", "deep"] ["leaves", "parts", "deep"] (defScope s_is_within) := ⟨rfl, rfl, rfl, by decide +kernel, rfl, by decide +kernel, by decide +kernel⟩
abbrev s_hold : Stmt := top 28
theorem sc_hold : FnScope ["whole", "opened", "held"] ["whole", "opened", "held"] (defScope s_hold) := ⟨rfl, rfl, rfl, by decide +kernel, rfl, by decide +kernel, by decide +kernel⟩
abbrev s_again_of : Stmt := top 29
theorem sc_again_of : FnScope ["whole", "pattern", "leaves", "parts", "deep"] ["whole"] (defScope s_again_of) := ⟨rfl, rfl, rfl, by decide +kernel, rfl, by decide +kernel, by decide +kernel⟩
abbrev s_pair_of : Stmt := top 30
theorem sc_pair_of : FnScope ["stood", "one", "other", "kind"] ["stood", "one", "other"] (defScope s_pair_of) := ⟨rfl, rfl, rfl, by decide +kernel, rfl, by decide +kernel, by decide +kernel⟩
abbrev s_can_follow : Stmt := top 32
theorem sc_can_follow : FnScope ["letters", "sign"] ["letters", "sign"] (defScope s_can_follow) := ⟨rfl, rfl, rfl, by decide +kernel, rfl, by decide +kernel, by decide +kernel⟩
def S_is_sign : DSp := fun as R => ∃ c, as = [.dat (.str ⟨#[c]⟩)] ∧ R (.bool (small c)) []
def S_within : DSp := fun as R => ∃ a b c : Int, as = [.dat (.int a), .dat (.int b), .dat (.int c)] ∧ R (.bool (decide (a ≤ 11) && (decide (b ≤ 40) && decide (c ≤ 12)))) []
def S_hold : DSp := fun as R => ∃ (x : PyData) (op hd : List PyData) (o : Str), as = [.dat x, .own (some 0) (op ++ [.str o]), .own (some 1) hd] ∧ (o.length ≤ 1000 ∧ op.length ≤ 100000 ∧ hd.length ≤ 100000) ∧ R .none [op ++ [.str (o ++ st [97])], hd ++ [x]]
def S_again : DSp := fun as R => ∃ p : Pt, as = [.dat (W p)] ∧ R (W (.again p)) []
def S_pair : DSp := fun as R => ∃ (b : Bool) (p q : Pt), as = [.dat (.str (st (if b then [40, 97, 124, 97] else [40, 97, 97]))), .dat (W p), .dat (W q)] ∧ R (W (.two b p q)) []
def S_follow : DSp := fun as R => ∃ (l : List Nat) (c : Nat), as = [.dat (.str (st l)), .dat (.str (st [c]))] ∧ l.length ≤ 8 ∧ R (.bool (canF l c)) []
theorem mono_is_sign : MonoS S_is_sign := fun as R R' h ⟨p, a, k⟩ => ⟨p, a, h _ _ k⟩
theorem mono_within : MonoS S_within := fun as R R' h ⟨a, b, c, d, k⟩ => ⟨a, b, c, d, h _ _ k⟩
theorem mono_hold : MonoS S_hold := fun as R R' h ⟨x, a, b, o, e, l, k⟩ => ⟨x, a, b, o, e, l, h _ _ k⟩
theorem mono_again : MonoS S_again := fun as R R' h ⟨p, a, k⟩ => ⟨p, a, h _ _ k⟩
theorem mono_pair : MonoS S_pair := fun as R R' h ⟨b, p, q, a, k⟩ => ⟨b, p, q, a, h _ _ k⟩
theorem mono_follow : MonoS S_follow := fun as R R' h ⟨b, p, a, e, k⟩ => ⟨b, p, a, e, h _ _ k⟩
theorem small_ne {c : Nat} (h : small c = true) : 97 ≤ c ∧ c ≤ 122 := by
  unfold small at h
  rw [Bool.and_eq_true, decide_eq_true_iff, decide_eq_true_iff] at h
  exact h
theorem sh_st {l : List Nat} (h : ∀ c ∈ l, c < 1114112) : SeqAt.shaped (.str (st l)) = true := sh_str (strOk_of h)
section
variable {P : Program} {w : World} {K : PySem.W.Frag} {mg : Str → Option Value} {base : Heap}
variable (m_len : mg "len" = none) (m_isinstance : mg "isinstance" = none) (m_str : mg "str" = none) (m_bool : mg "bool" = none) (m_range : mg "range" = none) (m_int : mg "int" = none) (m_max : mg "max" = none) (m_min : mg "min" = none)
  (m_sum : mg "sum" = none) (m_sorted : mg "sorted" = none) (m_set : mg "set" = none) (m_tuple : mg "tuple" = none) (m_repr : mg "repr" = none) (m_ValueError : mg "ValueError" = none)
include m_len m_isinstance m_str m_bool m_range m_int m_max m_min m_sum m_sorted m_set m_tuple m_repr m_ValueError
theorem ok_is_sign {f : Addr} {fd : FuncData} (F : Fun K "is_sign" "is_sign" s_is_sign f fd)  : FnOkG P w K mg base CX0 1 f fd ["thing"] (spD K S_is_sign) := by
  refine fnD F sc_is_sign (fun as R h => by obtain ⟨_, rfl, _⟩ := h; rfl) fun cdv A outer s H E hr => ?_
  have nd := sc_is_sign.nd
  have hu := hr.units
  have hu1 := hr.units1
  refine ⟨_, _, (dss_one (ds_ret (de_and (de_isi (T := "str") m_isinstance m_str (by decide +kernel) (de_var 0)) (de_and (de_cmp (op_eqD hu) ro_eq (nomark _) (de_len (ps := default) m_len (de_var 0)) de_int) (de_one (de_chain op_le_str ro_S op_le_str ro_S de_str (de_var 0) de_str)))))), ?_⟩
  rintro as R ⟨c, rfl, hR⟩
  simp [dRet, dRetNew, dAndV, dIsi, dVar, dOp, dEq, dNe, dLen, dC, dChain, dS, dI, dIC, dB, dIxV, slL, dSlScr, dCat, dLst, dCons, dNil, dPart, dNoPart, dIxL, dIxS, dAsg, dgName, dSeq, dIfS, dSetI, dTest, dInt1, cS, cD, cNil, dNext, tyD, kb_ss, kb_bb, sh_int, sh_bool, ev_ii, ev_bb, endsOf, endsNew, dAnd, dOr, dNot, cps_a, cps_z, lt_one', le_one', cps_one, at0, at1, ix20, ix21]
  refine ⟨nat_le_size (by show 1 ≤ 16777216; decide), ?_⟩
  have e1 : ((Str.mk #[c]).length : Int) = 1 := rfl
  rw [if_pos e1]
  unfold small at hR
  by_cases h1 : 97 ≤ c
  · rw [if_pos h1]
    rw [decide_eq_true h1, Bool.true_and] at hR
    have e2 : (!decide (122 < c)) = decide (c ≤ 122) := by
      by_cases h2 : c ≤ 122
      · rw [decide_eq_true h2, decide_eq_false (by omega)]
        rfl
      · rw [decide_eq_false h2, decide_eq_true (by omega)]
        rfl
    rw [e2]
    exact ⟨[], hR, outs0⟩
  · rw [if_neg h1]
    rw [decide_eq_false h1, Bool.false_and] at hR
    exact ⟨[], hR, outs0⟩
theorem ok_is_within {f : Addr} {fd : FuncData} (F : Fun K "is_within" "is_within" s_is_within f fd) (g_LEAVES_MOST : ∃ tk, mg "LEAVES_MOST" = some (.int 11 tk)) (g_PARTS_MOST : ∃ tk, mg "PARTS_MOST" = some (.int 40 tk)) (g_DEEP_MOST : ∃ tk, mg "DEEP_MOST" = some (.int 12 tk)) :
    FnOkG P w K mg base CX0 1 f fd ["leaves", "parts", "deep"] (spD K S_within) := by
  refine fnD F sc_is_within (fun as R h => by obtain ⟨_, _, _, rfl, _⟩ := h; rfl) fun cdv A outer s H E hr => ?_
  refine ⟨_, _, (dss_one (ds_ret (de_and (de_cmp op_le ro_B (nomark _) (de_var 0) (de_gint rfl g_LEAVES_MOST)) (de_and (de_cmp op_le ro_B (nomark _) (de_var 1) (de_gint rfl g_PARTS_MOST)) (de_one (de_cmp op_le ro_B (nomark _) (de_var 2) (de_gint rfl g_DEEP_MOST))))))), ?_⟩
  rintro as R ⟨a, b, c, rfl, hR⟩
  by_cases h1 : a ≤ 11
  · by_cases h2 : b ≤ 40
    · simp [dRet, dAndV, dOp, dVar, dC, dB, endsOf, h1, h2]
      simp [h1, h2] at hR
      exact ⟨[], hR, outs0⟩
    · simp [dRet, dAndV, dOp, dVar, dC, dB, endsOf, h1, h2]
      simp [h1, h2] at hR
      exact ⟨[], hR, outs0⟩
  · simp [dRet, dAndV, dOp, dVar, dC, dB, endsOf, h1]
    simp [h1] at hR
    exact ⟨[], hR, outs0⟩
theorem ok_hold {f : Addr} {fd : FuncData} (F : Fun K "hold" "hold" s_hold f fd) : FnOkG P w K mg base CX0 1 f fd ["whole", "opened", "held"] (spD K S_hold) := by
  refine fnD F sc_hold (fun as R h => by obtain ⟨_, _, _, _, rfl, _⟩ := h; rfl) fun cdv A outer s H E hr => ?_
  refine ⟨_, _, (dss_cons (ds_augI 1 (de_un un_neg r1_neg de_int) de_str)
    (dss_one (ds_app 2 (de_var 0) (pe_bm PySem.F.plainAttrs_list PySem.F.slot_list_append PySem.F.type_list_append mt_append (pv 2) (pa_cons (DE.pe (de_var 0)) pa_nil))))), ?_⟩
  rintro as R ⟨x, op, hd, o, rfl, ⟨b1, b2, b3⟩, hR⟩
  refine ⟨rfl, ?_⟩
  show (match ixN (op ++ [PyData.str o]).length (-1) with
    | some j => _
    | none => False)
  rw [at_last]
  show (match (op ++ [PyData.str o])[op.length]? with
    | some old => _
    | none => False)
  rw [get_last]
  refine ⟨?_, ?_⟩
  · rw [show (Str.ofString "a").length = 1 by decide +kernel]
    exact nat_le_size (by omega)
  show (match ixN (op ++ [PyData.str o]).length (-1) with
    | some j2 => _
    | none => False)
  rw [at_last]
  show dApp 2 (dVar 0) _ [.dat x, .own (some 0) ((op ++ [PyData.str o]).set op.length (.str (o ++ Str.ofString "a"))), .own (some 1) hd]
  rw [set_last, c_a]
  refine ⟨rfl, ?_⟩
  refine var_at (d := x) rfl ⟨by rw [sizeLine_eq]; omega, ?_⟩
  refine ⟨_, hR, ?_⟩
  intro j cs hj
  rcases j with _ | _ | j
  · exact ⟨1, by rw [show (op ++ [.str (o ++ st [97])]) = cs by simpa using hj]; rfl⟩
  · exact ⟨2, by rw [show (hd ++ [x]) = cs by simpa using hj]; rfl⟩
  · simp at hj
theorem ok_again_of {f : Addr} {fd : FuncData} (F : Fun K "again_of" "again_of" s_again_of f fd) : FnOkG P w K mg base CX0 1 f fd ["whole"] (spD K S_again) := by
  refine fnD F sc_again_of (fun as R h => by obtain ⟨_, rfl, _⟩ := h; rfl) fun cdv A outer s H E hr => ?_
  have nd := sc_again_of.nd
  refine ⟨_, _, (dss_cons (ds_setTup (de_var 0) (dg_tup rfl (dgs_cons (dg_name 1 nd) (dgs_cons (dg_name 2 nd) (dgs_cons (dg_name 3 nd) (dgs_cons (dg_name 4 nd) dgs_nil))))))
    (dss_one (ds_ret (de_tup (da_cons (de_tup (da_cons de_str (da_cons (de_var 1) da_nil))) (da_cons (de_var 2) (da_cons (de_op op_add ro_I (de_var 3) de_int) (da_cons (de_op op_add ro_I (de_var 4) de_int) da_nil)))))))), ?_⟩
  rintro as R ⟨p, rfl, hR⟩
  refine ⟨rfl, nat_le_size (by show 2 ≤ 16777216; decide), nat_le_size (by show 4 ≤ 16777216; decide), [], ?_, outs0⟩
  exact hR
theorem ok_pair_of {f : Addr} {fd : FuncData} (F : Fun K "pair_of" "pair_of" s_pair_of f fd) : FnOkG P w K mg base CX0 1 f fd ["stood", "one", "other"] (spD K S_pair) := by
  refine fnD F sc_pair_of (fun as R h => by obtain ⟨_, _, _, rfl, _⟩ := h; rfl) fun cdv A outer s H E hr => ?_
  have nd := sc_pair_of.nd
  refine ⟨_, _, (dss_cons (ds_set 3 nd (de_if (dt_cmp op_inS ro_inS rfl de_str (de_var 0)) de_str de_str))
    (dss_one (ds_ret (de_tup (da_cons (de_tup (da_cons (de_var 3) (da_cons (de_ix ix_tup ro_ixT (de_var 1) de_int) (da_cons (de_ix ix_tup ro_ixT (de_var 2) de_int) da_nil)))) (da_cons (de_op op_add ro_I (de_ix ix_tup ro_ixT (de_var 1) de_int) (de_ix ix_tup ro_ixT (de_var 2) de_int)) (da_cons (de_op op_add ro_I (de_op op_add ro_I (de_ix ix_tup ro_ixT (de_var 1) de_int) (de_ix ix_tup ro_ixT (de_var 2) de_int)) de_int) (da_cons (de_op op_add ro_I (de_max2 m_max (de_ix ix_tup ro_ixT (de_var 1) de_int) (de_ix ix_tup ro_ixT (de_var 2) de_int)) de_int) da_nil)))))))), ?_⟩
  rintro as R ⟨b, p, q, rfl, hR⟩
  have mx : (if ((q.deep : Nat) : Int) > ((p.deep : Nat) : Int) then ((q.deep : Nat) : Int) else ((p.deep : Nat) : Int)) = ((max p.deep q.deep : Nat) : Int) := by
    split <;> omega
  cases b with
  | false =>
    refine ⟨nat_le_size (by show 3 ≤ 16777216; decide), nat_le_size (by show 4 ≤ 16777216; decide), [], ?_, outs0⟩
    show R (.tuple [.tuple [.str (Str.ofString "then"), p.d, q.d], .int ((p.leaves : Nat) + (q.leaves : Nat)), .int ((p.parts : Nat) + (q.parts : Nat) + 1), .int ((if ((q.deep : Nat) : Int) > ((p.deep : Nat) : Int) then ((q.deep : Nat) : Int) else ((p.deep : Nat) : Int)) + 1)]) []
    rw [mx]
    exact hR
  | true =>
    refine ⟨nat_le_size (by show 3 ≤ 16777216; decide), nat_le_size (by show 4 ≤ 16777216; decide), [], ?_, outs0⟩
    show R (.tuple [.tuple [.str (Str.ofString "or"), p.d, q.d], .int ((p.leaves : Nat) + (q.leaves : Nat)), .int ((p.parts : Nat) + (q.parts : Nat) + 1), .int ((if ((q.deep : Nat) : Int) > ((p.deep : Nat) : Int) then ((q.deep : Nat) : Int) else ((p.deep : Nat) : Int)) + 1)]) []
    rw [mx]
    exact hR
theorem ok_can_follow {f : Addr} {fd : FuncData} (F : Fun K "can_follow" "can_follow" s_can_follow f fd) (g_LETTERS_MOST : ∃ tk, mg "LETTERS_MOST" = some (.int 8 tk)) (k_is_sign : Kn P w K mg base 1 "is_sign" S_is_sign) : FnOkG P w K mg base CX0 2 f fd ["letters", "sign"] (spD K S_follow) := by
  refine fnD F sc_can_follow (fun as R h => by obtain ⟨_, _, rfl, _⟩ := h; rfl) fun cdv A outer s H E hr => ?_
  have nd := sc_can_follow.nd
  have hu := hr.units
  refine ⟨_, _, (dss_cons (ds_if (dt_w (dw_or (dt_not (dt_val (de_call k_is_sign hr (by omega) (dca_d (de_var 1) dca_nil)))) (dw_or1 (dt_cmp (op_eqD hu) ro_eq (nomark _) (de_len (ps := default) m_len (de_var 0)) (de_gint rfl g_LETTERS_MOST))))) (dss_one (ds_ret de_bl)) dss_nil)
    (dss_one (ds_ret (de_if (dt_tru (de_var 0)) (de_cmp op_lt_str ro_S (nomark _) (de_ix ix_str ro_ixS (de_var 0) (de_un un_neg r1_neg de_int)) (de_var 1)) (de_cmp op_lt_str ro_S (nomark _) (de_var 1) de_str))))), ?_⟩
  rintro as R ⟨l, c, rfl, f2, hR⟩
  have ll : (st l).length = l.length := st_len l
  dsimp only [dSeq, dIfS, dOr, dNot, dTest]
  refine call_pure [.str (st [c])] (fun Q q => q) ⟨c, rfl, rfl, ?_⟩ (mono_is_sign _)
  unfold canF at hR
  cases f1 : small c with
  | false =>
    rw [f1] at hR
    exact ⟨[], hR, outs0⟩
  | true =>
    rw [f1, Bool.true_and] at hR
    show (st l).length ≤ sizeLine ∧ _
    refine ⟨nat_le_size (by omega), rfl, rfl, ?_⟩
    rw [ev_ii]
    show if (((st l).length : Int) == 8) = true then _ else _
    by_cases e8 : l.length = 8
    · rw [if_pos (by rw [beq_iff_eq]; omega)]
      rw [decide_eq_true e8] at hR
      exact ⟨[], hR, outs0⟩
    rw [if_neg (by rw [beq_iff_eq]; omega)]
    rw [decide_eq_false e8, Bool.not_false, Bool.true_and] at hR
    dsimp only [dNext, dRet, dIf, dTru]
    refine var_at (d := .str (st l)) rfl ?_
    refine ⟨nat_le_size (by omega), ?_⟩
    rcases List.eq_nil_or_concat l with e | ⟨a, b, e⟩
    · subst e
      rw [if_neg (by decide)]
      show endsOf R |>.rt (.bool (decide ((st [c]).cps.toList < (Str.ofString "z").cps.toList))) _
      have e2 : decide ((st [c]).cps.toList < (Str.ofString "z").cps.toList) = decide (c < 122) := by
        rw [cps_z]
        exact lt_one
      rw [e2]
      exact ⟨[], hR, outs0⟩
    · rw [List.concat_eq_append] at e
      subst e
      rw [if_pos (by rw [bne_iff_ne, ll, List.length_append, List.length_singleton]; omega)]
      show (st (a ++ [b])).length ≤ sizeLine ∧ (match atI (a ++ [b]) (-1) with
        | some c => _
        | none => False)
      have e3 : atI (a ++ [b]) (-1) = some b := by
        unfold atI ixN
        rw [if_neg (by decide), if_pos (by rw [List.length_append, List.length_singleton]; omega)]
        rw [List.length_append, List.length_singleton, show (-1 + ((a.length + 1 : Nat) : Int)).toNat = a.length by omega]
        simp
      rw [e3]
      refine ⟨nat_le_size (by omega), ?_⟩
      show endsOf R |>.rt (.bool (decide ((st [b]).cps.toList < (st [c]).cps.toList))) _
      have e2 : decide ((st [b]).cps.toList < (st [c]).cps.toList) = decide (b < c) := lt_one
      rw [e2]
      rw [show (a ++ [b]).getLast? = some b by simp] at hR
      exact ⟨[], hR, outs0⟩
end
end K05

set_option Elab.async false
set_option linter.all false
set_option maxRecDepth 100000
set_option maxHeartbeats 4000000
/-! K05g: letters in brackets; a call that may refuse and changes two lists -/
namespace K05
open PySem PySem.Spec L2 TL
theorem one_shaped {c : Nat} (h : c < 1114112) : SeqAt.shaped (.str (st [c])) = true := sh_str (strOk_of (okC_one h))
/-- letters from here on: what stands behind them, or where it can't -/
def lrun : List Nat → List Nat → Nat → Except Nat (List Nat)
  | [], _, p => .error p
  | c :: r, ls, p => if c = 93 ∧ 1 < ls.length then .ok ls else if canF ls c = true then lrun r (ls ++ [c]) (p + 1) else .error p
def lRes {α : Type} (f : List Nat → α) (g : Nat → α) : Except Nat (List Nat) → α
  | .ok ls => f ls
  | .error p => g p
abbrev errA (cN : Addr) (d : PyData) : PyData := errD cN [Str.ofString "at"] [d]
def S_letters_at (cN : Addr) : DSx := fun as R Xr => ∃ (l : List Nat) (a : Nat), as = [.dat (.str (st l)), .dat (.int (a : Nat))] ∧ (∀ c ∈ l, c < 1114112) ∧ l.length ≤ 100000 ∧ a < l.length ∧
  lRes (fun ls => R (.str (st ls)) []) (fun p => Xr (errA cN (.int (p : Nat))) []) (lrun (l.drop (a + 1)) [] (a + 1))
theorem lRes_mono {f f' : List Nat → Prop} {g g' : Nat → Prop} (h : ∀ l, f l → f' l) (k : ∀ p, g p → g' p) : ∀ {r : Except Nat (List Nat)}, lRes f g r → lRes f' g' r
  | .ok _, q => h _ q
  | .error _, q => k _ q
abbrev MonoX (S : DSx) : Prop := ∀ as R R' X X', (∀ d o, R d o → R' d o) → (∀ d o, X d o → X' d o) → S as R X → S as R' X'
theorem monox_letters_at (c : Addr) : MonoX (S_letters_at c) := fun as R R' X X' h h' ⟨l, a, e, b, d, f, k⟩ => ⟨l, a, e, b, d, f, lRes_mono (fun _ q => h _ _ q) (fun _ q => h' _ _ q) k⟩
theorem call_x [XW] {S : DSx} {ua : DCA} {δ δ' : List Sl} {R : DQ} (ds : List PyData) (hu : ∀ Q : List CA → List Sl → Prop, Q (ds.map CA.d) δ' → ua δ Q) (mono : MonoX S)
    (k : S (ds.map Sl.dat) (fun d outs => outs = [] ∧ R d δ') fun e outs => outs = [] ∧ XW.xr e δ') : dCallX S ua δ R := by
  refine hu _ ?_
  rw [muts_d, asOf_d]
  refine ⟨List.nodup_nil, mono _ _ _ _ _ (fun d o h => ?_) (fun d o h => ?_) k⟩
  · obtain ⟨rfl, h⟩ := h
    exact ⟨rfl, h⟩
  · obtain ⟨rfl, h⟩ := h
    exact ⟨rfl, h⟩
theorem call_own2x [XW] {S : DSx} {ua : DCA} {δ δ' : List Sl} {R : DQ} {i j : Nat} {t1 t2 : Option Nat} {c1 c2 : List PyData} (ds : List PyData) (hu : ∀ Q : List CA → List Sl → Prop, Q (ds.map CA.d ++ [.s i, .s j]) δ' → ua δ Q) (hij : i ≠ j) (hi : δ'[i]? = some (.own t1 c1)) (hj : δ'[j]? = some (.own t2 c2)) (mono : MonoX S)
    (k : S (ds.map Sl.dat ++ [.own (some 0) c1, .own (some 1) c2]) (fun d outs => ∃ o1 o2, outs = [o1, o2] ∧ R d ((δ'.set i (.own t1 o1)).set j (.own t2 o2))) fun e outs => ∃ o1 o2, outs = [o1, o2] ∧ XW.xr e ((δ'.set i (.own t1 o1)).set j (.own t2 o2))) : dCallX S ua δ R := by
  have m1 : muts δ' [.s i, .s j] = [i, j] := by
    show (match δ'[i]? with
      | some (.own _ _) => i :: muts δ' [.s j]
      | _ => muts δ' [.s j]) = _
    rw [hi]
    show i :: (match δ'[j]? with
      | some (.own _ _) => j :: muts δ' []
      | _ => muts δ' []) = _
    rw [hj]
    rfl
  have a1 : asOf δ' [.s i, .s j] 0 = [.own (some 0) c1, .own (some 1) c2] := by
    show (match δ'[i]? with
      | some (.own _ ds) => Sl.own (some 0) ds :: asOf δ' [.s j] 1
      | some (.scr ds) => .scr ds :: asOf δ' [.s j] 0
      | _ => .no :: asOf δ' [.s j] 0) = _
    rw [hi]
    show Sl.own (some 0) c1 :: (match δ'[j]? with
      | some (.own _ ds) => Sl.own (some 1) ds :: asOf δ' [] 2
      | some (.scr ds) => .scr ds :: asOf δ' [] 1
      | _ => .no :: asOf δ' [] 1) = _
    rw [hj]
    rfl
  have e : ∀ o1 o2 : List PyData, setOuts δ' [i, j] [o1, o2] = (δ'.set i (.own t1 o1)).set j (.own t2 o2) := fun o1 o2 => by
    show setOut (setOut δ' i o1) j o2 = _
    have e1 : setOut δ' i o1 = δ'.set i (.own t1 o1) := by
      unfold setOut
      rw [hi]
    have e2 : (δ'.set i (.own t1 o1))[j]? = some (.own t2 c2) := by rw [List.getElem?_set_ne hij, hj]
    rw [e1]
    unfold setOut
    rw [e2]
  refine hu _ ?_
  rw [muts_app, asOf_app, m1, a1]
  refine ⟨by simp [hij], mono _ _ _ _ _ (fun d o h => ?_) (fun d o h => ?_) k⟩
  · obtain ⟨o1, o2, rfl, h⟩ := h
    exact ⟨rfl, by rw [e]; exact h⟩
  · obtain ⟨o1, o2, rfl, h⟩ := h
    exact ⟨rfl, by rw [e]; exact h⟩
theorem drop_cons {l : List Nat} {p c : Nat} {r : List Nat} (h : l.drop p = c :: r) : atI l ((p : Nat) : Int) = some c ∧ l.drop (p + 1) = r ∧ p < l.length := by
  have hp : p < l.length := by
    rcases Nat.lt_or_ge p l.length with k | k
    · exact k
    · rw [List.drop_eq_nil_of_le k] at h
      cases h
  rw [List.drop_eq_getElem_cons hp] at h
  obtain ⟨h1, h2⟩ := List.cons.inj h
  refine ⟨?_, h2, hp⟩
  unfold atI ixN
  rw [if_pos (by omega), if_pos (by omega)]
  show l[((p : Nat) : Int).toNat]? = some c
  rw [Int.toNat_natCast, List.getElem?_eq_getElem hp, h1]
abbrev s_letters_at : Stmt := top 31
theorem sc_letters_at : FnScope ["text", "at", "letters", "place", "sign"] ["text", "at"] (defScope s_letters_at) := ⟨rfl, rfl, rfl, by decide +kernel, rfl, by decide +kernel, by decide +kernel⟩
section
variable {P : Program} {w : World} {K : PySem.W.Frag} {mg : Str → Option Value} {base : Heap}
variable (m_len : mg "len" = none) (m_isinstance : mg "isinstance" = none) (m_str : mg "str" = none) (m_bool : mg "bool" = none) (m_range : mg "range" = none) (m_int : mg "int" = none) (m_max : mg "max" = none) (m_min : mg "min" = none)
  (m_sum : mg "sum" = none) (m_sorted : mg "sorted" = none) (m_set : mg "set" = none) (m_tuple : mg "tuple" = none) (m_repr : mg "repr" = none) (m_ValueError : mg "ValueError" = none)
include m_len m_isinstance m_str m_bool m_range m_int m_max m_min m_sum m_sorted m_set m_tuple m_repr m_ValueError
theorem ok_letters_at {f : Addr} {fd : FuncData} (F : Fun K "letters_at" "letters_at" s_letters_at f fd) {cN : Addr} (k_can_follow : Kn P w K mg base 2 "can_follow" S_follow) (kn_NoPattern : KnE P w K mg base "NoPattern" cN ["at"]) : FnOkG P w K mg base (L2.CX P w) 3 f fd ["text", "at"] (spX K (S_letters_at cN)) := by
  refine fnX F sc_letters_at (fun as R Xr h => by obtain ⟨_, _, rfl, _⟩ := h; rfl) fun cdv A outer s H E hr xw tk => ?_
  have nd := sc_letters_at.nd
  have hu := hr.units
  have hu1 := hr.units1
  refine ⟨_, _, (dss_cons (ds_set 2 nd de_str)
    (dss_cons (ds_for (passes_of rfl) rfl (di_r2 m_range (de_op op_add ro_I (de_var 1) de_int) (de_len (ps := default) m_len (de_var 0))) (dg_name 3 nd)
    (dss_cons (ds_set 4 nd (de_ix ix_str ro_ixS (de_var 0) (de_var 3)))
    (dss_cons (ds_if (dt_w (dw_and (dt_cmp (op_eqD hu) ro_eq (nomark _) (de_var 4) de_str) (dw_and1 (dt_cmp op_gt ro_B (nomark _) (de_len (ps := default) m_len (de_var 2)) de_int)))) (dss_one (ds_ret (de_var 2))) dss_nil)
    (dss_cons (ds_if (dt_not (dt_val (de_call k_can_follow hr (by omega) (dca_d (de_var 2) (dca_d (de_var 4) dca_nil))))) (dss_one (ds_raise rfl tk kn_NoPattern hr (by omega) (da_cons (de_var 3) da_nil))) dss_nil)
    (dss_one (ds_augT 2 nd (de_var 4)))))))
    (dss_one (ds_raise rfl tk kn_NoPattern hr (by omega) (da_cons (de_len (ps := default) m_len (de_var 0)) da_nil))))), ?_⟩
  rintro as R Xr ⟨l, a, rfl, hc, hl, ha, hR⟩ hx
  have sT : (st l).length = l.length := st_len l
  generalize hU : dSeq (dAsg (dOp dIxS (dVar 0) (dVar 3)) (dgName 4)) _ = U
  dsimp only [dSeq, dAsg, dC, dgName]
  rw [c_e]
  show dFor _ _ _ _ [.dat (.str (st l)), .dat (.int (a : Nat)), .dat (.str (st [])), .no, .no]
  refine ⟨nat_le_size (by omega), ⟨by omega, by omega, by omega, by omega⟩, ?_⟩
  have lo : ((a : Nat) : Int) + 1 = ((a + 1 : Nat) : Int) := by omega
  rw [lo]
  have bad : ∀ (q : Nat) (δ : List Sl), Xr (errA cN (.int (q : Nat))) [] → xw.xr (errD cN ([Str.ofString "at"] : List Str).reverse [PyData.int (q : Nat)].reverse) δ := fun q δ h => by
    rw [hx]
    exact ⟨[], h, outs0⟩
  have body : ∀ (E' : DEnds) (done : List Nat) (p c : Nat) (s4 : Sl), E'.rt = (endsOf R).rt → c < 1114112 → done.length ≤ 8 → atI l ((p : Nat) : Int) = some c →
      (if c = 93 ∧ 1 < done.length then R (.str (st done)) [] else if canF done c = true then E'.nx [.dat (.str (st l)), .dat (.int (a : Nat)), .dat (.str (st (done ++ [c]))), .dat (.int (p : Nat)), .dat (.str (st [c]))] else Xr (errA cN (.int (p : Nat))) []) →
      U E' [.dat (.str (st l)), .dat (.int (a : Nat)), .dat (.str (st done)), .dat (.int (p : Nat)), s4] := by
    intro E' done p c s4 hE hcc h8 at_ h
    have sd : (st done).length = done.length := st_len done
    rw [← hU]
    show (st l).length ≤ sizeLine ∧ (match atI l ((p : Nat) : Int) with
      | some c => _
      | none => False)
    rw [at_]
    refine ⟨nat_le_size (by omega), ?_⟩
    show dSeq _ _ _ [.dat (.str (st l)), .dat (.int (a : Nat)), .dat (.str (st done)), .dat (.int (p : Nat)), .dat (.str (st [c]))]
    refine ⟨one_shaped hcc, by decide +kernel, ?_⟩
    rw [ev_ss, c_rb, st_eq]
    have tail : ¬ (c = 93 ∧ 1 < done.length) → dSeq (dIfS (dNot (dTest (dCall S_follow (cD (dVar 2) (cD (dVar 4) cNil))))) (dRaise cN ["at"] (dCons (dVar 3) dNil)) dNext) (dAugT 2 (dVar 4)) E'
        [.dat (.str (st l)), .dat (.int (a : Nat)), .dat (.str (st done)), .dat (.int (p : Nat)), .dat (.str (st [c]))] := fun hne => by
      rw [if_neg hne] at h
      simp only [dSeq, dIfS, dNot, dTest]
      refine call_pure [.str (st done), .str (st [c])] (fun Q q => q) ⟨done, c, rfl, h8, rfl, ?_⟩ (mono_follow _)
      cases hf : canF done c with
      | false =>
        rw [hf, if_neg (by decide)] at h
        show dRaise cN ["at"] (dCons (dVar 3) dNil) E' _
        exact ⟨rfl, by decide, bad p _ h⟩
      | true =>
        rw [hf, if_pos rfl] at h
        simp only [Bool.not_true, Bool.false_eq_true, if_false, dNext]
        show (match (PyData.str (st [c])) with
          | .str b => (st done).length + b.length ≤ sizeLine ∧ _
          | _ => False)
        refine ⟨nat_le_size (by show (st done).length + 1 ≤ 16777216; omega), ?_⟩
        rw [st_app]
        exact h
    by_cases h93 : c = 93
    · subst h93
      show if (decide ([93] = [93]) : Bool) = true then _ else _
      rw [if_pos (by decide)]
      show (st done).length ≤ sizeLine ∧ _
      refine ⟨nat_le_size (by omega), ?_⟩
      show if (decide (((st done).length : Int) > 1)) = true then _ else _
      by_cases h1 : 1 < done.length
      · rw [if_pos (decide_eq_true (by omega))]
        rw [if_pos ⟨rfl, h1⟩] at h
        show E'.rt _ _
        rw [hE]
        exact ⟨[], h, outs0⟩
      · rw [if_neg (by rw [decide_eq_true_iff]; omega)]
        exact tail fun q => h1 q.2
    · rw [show decide ([c] = [93]) = false from decide_eq_false fun e => h93 (List.cons.inj e).1]
      exact tail fun q => h93 q.1
  clear hU
  have turns : ∀ (todo done : List Nat) (p m : Nat) (s3 s4 : Sl), l.drop p = todo → m = todo.length → p + m = l.length → done.length ≤ 8 → lRes (fun ls => R (.str (st ls)) []) (fun p => Xr (errA cN (.int (p : Nat))) []) (lrun todo done p) →
      forW (dgName 3) U { endsOf R with nx := dRaise cN [Str.ofString "at"] (dCons (dLen (dVar 0)) dNil) (endsOf R) } (iotaD (p : Nat) m) [.dat (.str (st l)), .dat (.int (a : Nat)), .dat (.str (st done)), s3, s4] := by
    intro todo
    induction todo with
    | nil =>
      intro done p m s3 s4 hd hm hp h8 h
      subst hm
      have e : ((st l).length : Int) = ((p : Nat) : Int) := by
        rw [sT]
        simp at hp
        omega
      have z : dRaise cN [Str.ofString "at"] (dCons (dLen (dVar 0)) dNil) (endsOf R) [.dat (.str (st l)), .dat (.int (a : Nat)), .dat (.str (st done)), s3, s4] := by
        refine ⟨nat_le_size (by omega), rfl, by decide, ?_⟩
        show xw.xr (errD cN _ [PyData.int ((st l).length : Int)].reverse) _
        rw [e]
        exact bad p _ h
      exact z
    | cons c r ih =>
      intro done p m s3 s4 hd hm hp h8 h
      obtain ⟨m, rfl⟩ : ∃ k, m = k + 1 := ⟨m - 1, by rw [hm, List.length_cons]; omega⟩
      obtain ⟨at_, hd2, hpl⟩ := drop_cons hd
      rw [List.length_cons] at hm
      have hm := Nat.succ.inj hm
      have h : lRes (fun ls => R (.str (st ls)) []) (fun p => Xr (errA cN (.int (p : Nat))) []) (if c = 93 ∧ 1 < done.length then .ok done else if canF done c = true then lrun r (done ++ [c]) (p + 1) else .error p) := h
      have hcc : c < 1114112 := hc c (List.mem_of_mem_drop (i := p) (by rw [hd]; exact List.mem_cons_self))
      rw [iota_cons]
      refine body _ done p c s4 rfl hcc h8 at_ ?_
      by_cases h1 : c = 93 ∧ 1 < done.length
      · rw [if_pos h1] at h ⊢
        exact h
      · rw [if_neg h1] at h ⊢
        by_cases hf : canF done c = true
        · rw [if_pos hf] at h ⊢
          have d8 : done.length ≠ 8 := fun e => by
            unfold canF at hf
            rw [decide_eq_true e] at hf
            simp at hf
          have e : ((p : Nat) : Int) + 1 = ((p + 1 : Nat) : Int) := by omega
          show forW _ _ _ (iotaD (((p : Nat) : Int) + 1) m) _
          rw [e]
          exact ih (done ++ [c]) (p + 1) m _ _ hd2 hm (by omega) (by rw [List.length_append, List.length_singleton]; omega) h
        · rw [if_neg hf] at h ⊢
          exact h
  have hn : (((st l).length : Int) - ((a + 1 : Nat) : Int)).toNat = (l.drop (a + 1)).length := by
    rw [List.length_drop]
    omega
  rw [hn]
  exact turns (l.drop (a + 1)) [] (a + 1) _ .no .no rfl rfl (by rw [List.length_drop]; omega) (by show 0 ≤ 8; decide) hR
end
end K05

set_option Elab.async false
set_option linter.all false
set_option maxRecDepth 100000
set_option maxHeartbeats 4000000
/-! K05h: one more thing read -/
namespace K05
open PySem PySem.Spec L2 TL
inductive O where
  | e | a | o | oa | oaa | ob | oba
def O.s : O → List Nat
  | .e => []
  | .a => [97]
  | .o => [40]
  | .oa => [40, 97]
  | .oaa => [40, 97, 97]
  | .ob => [40, 97, 124]
  | .oba => [40, 97, 124, 97]
def O.nx : O → List Nat
  | .e => [97]
  | .a => [42]
  | .o => [97]
  | .oa => [97, 42, 124]
  | .oaa => [42, 41]
  | .ob => [97]
  | .oba => [42, 41]
def Fr.sh : Fr → O
  | .b0 => .e
  | .bA _ => .a
  | .o => .o
  | .oA _ => .oa
  | .oAA _ _ => .oaa
  | .oB _ => .ob
  | .oBA _ _ => .oba
theorem Fr.sh_tx (f : Fr) : f.sh.s = f.tx := by cases f <;> rfl
def nextD (z : Str) : Option PyData := (([.e, .a, .o, .oa, .oaa, .ob, .oba] : List O).find? fun o => st o.s == z).map fun o => .str (st o.nx)
theorem next_of : ∀ o : O, nextD (st o.s) = some (.str (st o.nx))
  | .e => by rfl
  | .a => by rfl
  | .o => by rfl
  | .oa => by rfl
  | .oaa => by rfl
  | .ob => by rfl
  | .oba => by rfl
theorem kmap_next {K : PySem.W.Frag} {d : Addr} (h : ∀ o : O, ∃ t, PySem.W.nsIn K d (st o.s) = some (some (.str (st o.nx) t))) : KMap K d nextD := by
  intro z x hz
  unfold nextD at hz
  cases q : (([.e, .a, .o, .oa, .oaa, .ob, .oba] : List O).find? fun o => st o.s == z) with
  | none =>
    rw [q] at hz
    cases hz
  | some o =>
    rw [q] at hz
    have e := List.find?_some q
    have e := beq_iff_eq.mp e
    have hx := Option.some.inj hz
    subst e hx
    obtain ⟨t, ht⟩ := h o
    exact ⟨.str (st o.nx) t, .str (st o.nx), ht, ⟨t, rfl⟩, fun G => .str _⟩
/-- whether something whole begins with the sign -/
def begs (c : Nat) : Bool := decide (c ∈ [95, 40, 91]) || small c
theorem begs_not {c : Nat} (h : begs c = true) : c ≠ 42 ∧ c ≠ 124 ∧ c ≠ 41 := by
  refine ⟨?_, ?_, ?_⟩ <;> (intro e; subst e; revert h; decide)
theorem begs_is {c : Nat} : begs c = true ↔ c = 40 ∨ c = 91 ∨ c = 95 ∨ small c = true := by
  unfold begs
  rw [Bool.or_eq_true, decide_eq_true_iff]
  simp only [List.mem_cons, List.not_mem_nil, or_false]
  constructor
  · rintro ((h | h | h) | h) <;> simp [h]
  · rintro (h | h | h | h) <;> simp [h]
theorem nx_beg (f : Fr) : (97 ∈ f.sh.nx) ↔ f.beg = true := by cases f <;> simp [Fr.sh, O.nx, Fr.beg]
/-- just what may come is taken -/
theorem allow {f : Fr} {fs : List Fr} {c : Nat} (h : okFs (f :: fs) = true) : (stp c (f :: fs)).isSome = decide ((if begs c = true then 97 else c) ∈ f.sh.nx) := by
  rw [stp_cons]
  by_cases c1 : c = 42
  · subst c1
    rw [if_pos rfl, if_neg (by decide)]
    cases f <;> rfl
  rw [if_neg c1]
  by_cases c2 : c = 124
  · subst c2
    rw [if_pos rfl, if_neg (by decide)]
    cases f <;> rfl
  rw [if_neg c2]
  by_cases c3 : c = 41
  · subst c3
    rw [if_pos rfl, if_neg (by decide)]
    cases fs with
    | nil =>
      cases f <;> first
        | rfl
        | (have h : false = true := h; cases h)
    | cons g r => cases f <;> rfl
  rw [if_neg c3]
  by_cases hb : begs c = true
  · rw [if_pos hb, decide_eq_decide.mpr (nx_beg f)]
    have hb := begs_is.mp hb
    by_cases c4 : f.beg = true
    · rw [if_pos c4, decide_eq_true c4]
      by_cases c5 : c = 40
      · rw [if_pos c5]
        rfl
      rw [if_neg c5]
      by_cases c6 : c = 91
      · rw [if_pos c6]
        rfl
      rw [if_neg c6]
      by_cases c7 : c = 95
      · rw [if_pos c7]
        rfl
      rw [if_neg c7, if_pos (by simpa [c5, c6, c7] using hb)]
      rfl
    · rw [if_neg c4, decide_eq_false c4]
      rfl
  · rw [if_neg hb]
    have h97 : c ≠ 97 := fun e => hb (by rw [e]; decide)
    have nn : c ∉ f.sh.nx := by
      cases f <;> simp [Fr.sh, O.nx, c1, c2, c3, h97]
    rw [decide_eq_false nn]
    have hb' : ¬ (c = 40 ∨ c = 91 ∨ c = 95 ∨ small c = true) := fun z => hb (begs_is.mpr z)
    simp only [not_or] at hb'
    split
    · rw [if_neg hb'.1, if_neg hb'.2.1, if_neg hb'.2.2.1, if_neg hb'.2.2.2]
      rfl
    · rfl
/-- what the program does with the sign at a place -/
def pstep (l : List Nat) (a : Nat) (fs : List Fr) (c : Nat) : Except Nat (Nat × List Fr) := match stp c fs with
  | none => .error a
  | some (fs', none) => .ok (a + 1, fs')
  | some (fs', some _) => match lrun (l.drop (a + 1)) [] (a + 1), fs' with
    | .ok ls, f :: r => .ok (a + 2 + ls.length, f.put (.sgn (st ls)) :: r)
    | .ok _, [] => .error a
    | .error p, _ => .error p
def pRes {α : Type} (f : Nat → List Fr → α) (g : Nat → α) : Except Nat (Nat × List Fr) → α
  | .ok (n, fs) => f n fs
  | .error p => g p
theorem pRes_mono {f f' : Nat → List Fr → Prop} {g g' : Nat → Prop} (h : ∀ n l, f n l → f' n l) (k : ∀ p, g p → g' p) : ∀ {r : Except Nat (Nat × List Fr)}, pRes f g r → pRes f' g' r
  | .ok (_, _), q => h _ _ q
  | .error _, q => k _ q
/-- as many letters at most as stand there -/
theorem lrun_len : ∀ (r ls : List Nat) (p : Nat) {n : Nat} {out : List Nat}, lrun r ls p = .ok out → r.length + ls.length ≤ n → out.length ≤ n
  | [], _, _, _, _, h, _ => nomatch h
  | c :: r, ls, p, n, out, h, hn => by
    have h : (if c = 93 ∧ 1 < ls.length then Except.ok ls else if canF ls c = true then lrun r (ls ++ [c]) (p + 1) else .error p) = .ok out := h
    rw [List.length_cons] at hn
    split at h
    · cases h
      omega
    · split at h
      · exact lrun_len r (ls ++ [c]) (p + 1) h (by rw [List.length_append, List.length_singleton]; omega)
      · cases h
def S_on (cN : Addr) : DSx := fun as R Xr => ∃ (l : List Nat) (a c : Nat) (fs : List Fr), as = [.dat (.str (st l)), .dat (.int (a : Nat)), .own (some 0) (opnF fs), .own (some 1) (hldF fs)] ∧ (atI l ((a : Nat) : Int) = some c ∧ a < l.length) ∧ (∀ c ∈ l, c < 1114112) ∧ (l.length ≤ 30000 ∧ fs.length ≤ 40000) ∧ okFs fs = true ∧
  pRes (fun n fs' => R (.int (n : Nat)) [opnF fs', hldF fs']) (fun p => Xr (errA cN (.int (p : Nat))) [opnF fs, hldF fs]) (pstep l a fs c)
theorem monox_on (c : Addr) : MonoX (S_on c) := fun as R R' X X' h h' ⟨l, a, e, b, d, f, g, i, j, k⟩ => ⟨l, a, e, b, d, f, g, i, j, pRes_mono (fun _ _ q => h _ _ q) (fun _ q => h' _ _ q) k⟩
theorem if_sign {c d : Nat} {u u' : DTS} {E : DEnds} {δ : List Sl} {x : Str} (hs : δ[4]? = some (.dat (.str (st [c])))) (hc : c < 1114112) (hx : x = st [d]) (hd : d < 1114112) (k : if c = d then u E δ else u' E δ) : dIfS (dTest (dOp dEq (dVar 4) (dC (.str x)))) u u' E δ := by
  subst hx
  dsimp only [dIfS, dTest, dOp]
  refine var_at hs ?_
  refine ⟨one_shaped hc, one_shaped hd, ?_⟩
  rw [ev_ss, st_eq]
  by_cases h : c = d
  · rw [if_pos h] at k
    rw [show decide ([c] = [d]) = true from decide_eq_true (by rw [h])]
    exact k
  · rw [if_neg h] at k
    rw [show decide ([c] = [d]) = false from decide_eq_false fun e => h (List.cons.inj e).1]
    exact k
theorem call_holdF {u : DTE} {δ δ' : List Sl} {R : DQ} {x : PyData} {op hd : List PyData} {o : List Nat} {t1 t2 : Option Nat} (hu : ∀ Q : DQ, Q x δ' → u δ Q) (h2 : δ'[2]? = some (.own t1 (op ++ [.str (st o)]))) (h3 : δ'[3]? = some (.own t2 hd)) (ho : o.length ≤ 4) (hl : op.length ≤ 100000 ∧ hd.length ≤ 100000)
    (k : R .none ((δ'.set 2 (.own t1 (op ++ [.str (st (o ++ [97]))]))).set 3 (.own t2 (hd ++ [x])))) : dCall S_hold (cD u (cS 2 (cS 3 cNil))) δ R := by
  refine call_own2 [x] (fun Q q => hu _ ?_) (by decide) h2 h3 mono_hold ⟨x, op, hd, st o, rfl, ⟨by rw [st_len]; omega, hl.1, hl.2⟩, _, _, rfl, ?_⟩
  · refine ⟨by rw [h2]; rfl, by rw [h3]; rfl, q⟩
  · rw [st_app]
    exact k
theorem opn_put {f : Fr} (h : f.beg = true) (x : Pt) (fs : List Fr) : opnF (f.put x :: fs) = opnF fs ++ [.str (st (f.tx ++ [97]))] := by
  show opnF fs ++ [.str (st (f.put x).tx)] = _
  rw [Fr.put_tx h]
theorem hld_put {f : Fr} (h : f.beg = true) (x : Pt) (fs : List Fr) : hldF (f.put x :: fs) = hldF (f :: fs) ++ [W x] := by
  show hldF fs ++ (f.put x).ps.map W = hldF fs ++ f.ps.map W ++ [W x]
  rw [Fr.put_ps h, List.map_append, List.append_assoc]
  rfl
theorem star_ps {f g : Fr} (h : f.star = some g) : ∃ (r : List Pt) (p : Pt), f.ps = r ++ [p] ∧ g.ps = r ++ [.again p] ∧ g.tx = f.tx := by
  cases f <;> cases h
  · exact ⟨[], _, rfl, rfl, rfl⟩
  · exact ⟨[], _, rfl, rfl, rfl⟩
  · exact ⟨[_], _, rfl, rfl, rfl⟩
  · exact ⟨[_], _, rfl, rfl, rfl⟩
theorem close_ps {f : Fr} {x : Pt} (h : f.close = some x) : ∃ (b : Bool) (p q : Pt), x = .two b p q ∧ f.ps = [p, q] ∧ f.tx = (if b = true then [40, 97, 124, 97] else [40, 97, 97]) := by
  cases f <;> cases h
  · exact ⟨false, _, _, rfl, rfl, rfl⟩
  · exact ⟨true, _, _, rfl, rfl, rfl⟩
abbrev s_read_on : Stmt := top 27
theorem sc_read_on : FnScope ["text", "at", "opened", "held", "sign", "begins", "other", "one", "letters"] ["text", "at", "opened", "held"] (defScope s_read_on) := ⟨rfl, rfl, rfl, by decide +kernel, rfl, by decide +kernel, by decide +kernel⟩
section
variable {P : Program} {w : World} {K : PySem.W.Frag} {mg : Str → Option Value} {base : Heap}
variable (m_len : mg "len" = none) (m_isinstance : mg "isinstance" = none) (m_str : mg "str" = none) (m_bool : mg "bool" = none) (m_range : mg "range" = none) (m_int : mg "int" = none) (m_max : mg "max" = none) (m_min : mg "min" = none)
  (m_sum : mg "sum" = none) (m_sorted : mg "sorted" = none) (m_set : mg "set" = none) (m_tuple : mg "tuple" = none) (m_repr : mg "repr" = none) (m_ValueError : mg "ValueError" = none)
include m_len m_isinstance m_str m_bool m_range m_int m_max m_min m_sum m_sorted m_set m_tuple m_repr m_ValueError
theorem ok_read_on {f : Addr} {fd : FuncData} (F : Fun K "read_on" "read_on" s_read_on f fd) {cN : Addr} {dN : Addr} {es : Array DictEntry} {nN : Nat} (kd_NEXT : KDict K w dN es nN) (km_NEXT : KMap K dN nextD) (mx_NEXT : mg "NEXT" = some (.ref dN)) (k_is_sign : Kn P w K mg base 1 "is_sign" S_is_sign) (k_hold : Kn P w K mg base 1 "hold" S_hold) (k_again_of : Kn P w K mg base 1 "again_of" S_again) (k_pair_of : Kn P w K mg base 1 "pair_of" S_pair) (k_letters_at : KnX P w K mg base 3 "letters_at" (S_letters_at cN)) (kn_NoPattern : KnE P w K mg base "NoPattern" cN ["at"]) : FnOkG P w K mg base (L2.CX P w) 4 f fd ["text", "at", "opened", "held"] (spX K (S_on cN)) := by
  refine fnX F sc_read_on (fun as R Xr h => by obtain ⟨_, _, _, _, rfl, _⟩ := h; rfl) fun cdv A outer s H E hr xw tk => ?_
  have nd := sc_read_on.nd
  have hu := hr.units
  have hu1 := hr.units1
  refine ⟨_, _, (dss_cons (ds_set 4 nd (de_ix ix_str ro_ixS (de_var 0) (de_var 1)))
    (dss_cons (ds_set 5 nd (de_or (de_cmp op_inS ro_inS rfl (de_var 4) de_str) (de_one (de_call k_is_sign hr (by omega) (dca_d (de_var 4) dca_nil)))))
    (dss_cons (ds_if (dt_cmp op_notInS ro_notInS rfl (de_if (dt_val (de_var 5)) de_str (de_var 4)) (de_getK kd_NEXT km_NEXT mx_NEXT (de_ixV 2 (de_un un_neg r1_neg de_int)))) (dss_one (ds_raise rfl tk kn_NoPattern hr (by omega) (da_cons (de_var 1) da_nil))) dss_nil)
    (dss_cons (ds_if (dt_cmp (op_eqD hu) ro_eq (nomark _) (de_var 4) de_str) (dss_one (ds_app 2 de_str (pe_bm PySem.F.plainAttrs_list PySem.F.slot_list_append PySem.F.type_list_append mt_append (pv 2) (pa_cons (DE.pe de_str) pa_nil)))) (dss_one (ds_if (dt_cmp (op_eqD hu) ro_eq (nomark _) (de_var 4) de_str) (dss_one (ds_augI 2 (de_un un_neg r1_neg de_int) de_str)) (dss_one (ds_if (dt_cmp (op_eqD hu) ro_eq (nomark _) (de_var 4) de_str) (dss_one (ds_app 3 (de_call k_again_of hr (by omega) (dca_d (de_pop 3 (pe_bm0 PySem.F.plainAttrs_list PySem.F.slot_list_pop PySem.F.type_list_pop mt_pop (pv 3))) dca_nil)) (pe_bm PySem.F.plainAttrs_list PySem.F.slot_list_append PySem.F.type_list_append mt_append (pv 3) (pa_cons (DE.pe (de_call k_again_of hr (by omega) (dca_d (de_pop 3 (pe_bm0 PySem.F.plainAttrs_list PySem.F.slot_list_pop PySem.F.type_list_pop mt_pop (pv 3))) dca_nil))) pa_nil)))) (dss_one (ds_if (dt_cmp (op_eqD hu) ro_eq (nomark _) (de_var 4) de_str) (dss_cons (ds_set 6 nd (de_pop 3 (pe_bm0 PySem.F.plainAttrs_list PySem.F.slot_list_pop PySem.F.type_list_pop mt_pop (pv 3))))
    (dss_cons (ds_set 7 nd (de_pop 3 (pe_bm0 PySem.F.plainAttrs_list PySem.F.slot_list_pop PySem.F.type_list_pop mt_pop (pv 3))))
    (dss_one (ds_expr (de_call k_hold hr (by omega) (dca_d (de_call k_pair_of hr (by omega) (dca_d (de_pop 2 (pe_bm0 PySem.F.plainAttrs_list PySem.F.slot_list_pop PySem.F.type_list_pop mt_pop (pv 2))) (dca_d (de_var 7) (dca_d (de_var 6) dca_nil)))) (dca_s 2 (dca_s 3 dca_nil)))))))) (dss_one (ds_if (dt_cmp (op_eqD hu) ro_eq (nomark _) (de_var 4) de_str) (dss_one (ds_expr (de_call k_hold hr (by omega) (dca_d (de_tup (da_cons (de_tup (da_cons de_str da_nil)) (da_cons de_int (da_cons de_int (da_cons de_int da_nil))))) (dca_s 2 (dca_s 3 dca_nil)))))) (dss_cons (ds_set 8 nd (de_if (dt_cmp (op_eqD hu) ro_eq (nomark _) (de_var 4) de_str) (de_callX tk k_letters_at hr (by omega) (dca_d (de_var 0) (dca_d (de_var 1) dca_nil))) (de_var 4)))
    (dss_cons (ds_expr (de_call k_hold hr (by omega) (dca_d (de_tup (da_cons (de_tup (da_cons de_str (da_cons (de_var 8) da_nil))) (da_cons de_int (da_cons de_int (da_cons de_int da_nil))))) (dca_s 2 (dca_s 3 dca_nil)))))
    (dss_one (ds_ret (de_op op_add ro_I (de_var 1) (de_if (dt_cmp (op_eqD hu) ro_eq (nomark _) (de_var 4) de_str) (de_op op_add ro_I de_int (de_len (ps := default) m_len (de_var 8))) de_int)))))))))))))))
    (dss_one (ds_ret (de_op op_add ro_I (de_var 1) de_int))))))), ?_⟩
  rintro as R Xr ⟨l, a, c, fs, rfl, ⟨at_, ha⟩, hcs, ⟨b1, b2⟩, hok, hR⟩ hx
  have sT : (st l).length = l.length := st_len l
  obtain ⟨f, fs, rfl⟩ : ∃ f r, fs = f :: r := by
    cases fs with
    | nil => cases hok
    | cons f r => exact ⟨f, r, rfl⟩
  have hc : c < 1114112 := by
    refine hcs c ?_
    obtain ⟨j, _, hj⟩ := Option.bind_eq_some_iff.mp at_
    exact List.mem_of_getElem? hj
  have lo := opnF_len fs
  have lh := hldF_len (f :: fs)
  have lh2 := hldF_len fs
  rw [List.length_cons] at b2 lh
  generalize hB : dSeq (dIfS (dTest (dOp dEq (dVar 4) (dC (.str (Str.ofString "("))))) _ _) _ = B
  have bad : ∀ (q : Nat) (δ : List Sl), δ[2]? = some (.own (some 0) (opnF (f :: fs))) → δ[3]? = some (.own (some 1) (hldF (f :: fs))) → Xr (errA cN (.int (q : Nat))) [opnF (f :: fs), hldF (f :: fs)] → xw.xr (errD cN ([Str.ofString "at"] : List Str).reverse [PyData.int (q : Nat)].reverse) δ := fun q δ h2 h3 h => by
    rw [hx]
    exact ⟨_, h, outs2 2 3 h2 h3⟩
  -- up to the tests
  have pref : ((stp c (f :: fs)).isSome = true → B (endsOf R) [.dat (.str (st l)), .dat (.int (a : Nat)), .own (some 0) (opnF (f :: fs)), .own (some 1) (hldF (f :: fs)), .dat (.str (st [c])), .dat (.bool (begs c)), .no, .no, .no]) →
      dSeq (dAsg (dOp dIxS (dVar 0) (dVar 1)) (dgName 4)) (dSeq (dAsg (dOrV (dOp (dInT false) (dVar 4) (dC (.str (Str.ofString "_([")))) (dCall S_is_sign (cD (dVar 4) cNil))) (dgName 5))
        (dSeq (dIfS (dTest (dOp (dInT true) (dIf (dTest (dVar 5)) (dC (.str (Str.ofString "a"))) (dVar 4)) (dGetK nextD (dIxV 2 (dUn (fun d R => match d with
          | .int i => R (.int (-i))
          | _ => False) (dC (.int 1))))))) (dRaise cN ["at"] (dCons (dVar 1) dNil)) dNext) B)) (endsOf R) [.dat (.str (st l)), .dat (.int (a : Nat)), .own (some 0) (opnF (f :: fs)), .own (some 1) (hldF (f :: fs)), .no, .no, .no, .no, .no] := by
    intro kB
    show (st l).length ≤ sizeLine ∧ (match atI l ((a : Nat) : Int) with
      | some c => _
      | none => False)
    rw [at_]
    refine ⟨nat_le_size (by omega), ?_⟩
    generalize hB3 : dSeq (dIfS (dTest (dOp (dInT true) _ _)) (dRaise cN ["at"] (dCons (dVar 1) dNil)) dNext) B = B3
    have k3 : B3 (endsOf R) [.dat (.str (st l)), .dat (.int (a : Nat)), .own (some 0) (opnF (f :: fs)), .own (some 1) (hldF (f :: fs)), .dat (.str (st [c])), .dat (.bool (begs c)), .no, .no, .no] := by
      rw [← hB3]
      have top : atI (opnF (f :: fs)) (-1) = some (.str (st f.sh.s)) := by
        rw [Fr.sh_tx]
        exact atI_last _ _
      have al := allow (c := c) hok
      have fin : ∀ x : Nat, x = (if begs c = true then 97 else c) → (dIxV 2 (dUn (fun d R => match d with
          | .int i => R (.int (-i))
          | _ => False) (dC (.int 1)))) [.dat (.str (st l)), .dat (.int (a : Nat)), .own (some 0) (opnF (f :: fs)), .own (some 1) (hldF (f :: fs)), .dat (.str (st [c])), .dat (.bool (begs c)), .no, .no, .no] (fun d δ1 => match d with
        | .str z => (match nextD z with
          | some y => (dInT true (.str (st [x])) y fun d => (match d with
            | .bool b => if b = true then dRaise cN ["at"] (dCons (dVar 1) dNil) { endsOf R with nx := B (endsOf R) } δ1 else dNext { endsOf R with nx := B (endsOf R) } δ1
            | _ => False))
          | none => False)
        | _ => False) := fun x hx => by
        refine ⟨rfl, ?_⟩
        show (match atI (opnF (f :: fs)) (-1) with
          | some x => _
          | none => False)
        rw [top]
        show (match nextD (st f.sh.s) with
          | some y => _
          | none => False)
        rw [next_of]
        show if (!decide (x ∈ f.sh.nx)) = true then _ else _
        rw [hx, ← al]
        cases hs : stp c (f :: fs) with
        | none =>
          rw [if_pos (show (!(none : Option State).isSome) = true from rfl)]
          refine ⟨rfl, by decide, bad a _ rfl rfl ?_⟩
          have hR := hR
          unfold pstep at hR
          rw [hs] at hR
          exact hR
        | some y =>
          rw [if_neg (show ¬ ((!(some y).isSome) = true) from fun e => nomatch e)]
          exact kB (by rw [hs]; rfl)
      by_cases h1 : begs c = true
      · show if begs c = true then _ else _
        rw [if_pos h1, c_a]
        exact fin 97 (by rw [if_pos h1])
      · show if begs c = true then _ else _
        rw [if_neg h1]
        exact fin c (by rw [if_neg h1])
    show if decide (c ∈ (Str.ofString "_([").cps.toList) = true then _ else _
    rw [c_three]
    show if decide (c ∈ [95, 40, 91]) = true then _ else _
    have hbeg : begs c = (decide (c ∈ [95, 40, 91]) || small c) := rfl
    by_cases h : c ∈ [95, 40, 91]
    · rw [if_pos (decide_eq_true h)]
      rw [decide_eq_true h, Bool.true_or] at hbeg
      rw [hbeg] at k3
      exact k3
    · rw [if_neg (by rw [decide_eq_false h]; decide)]
      rw [decide_eq_false h, Bool.false_or] at hbeg
      refine call_pure [.str (st [c])] (fun Q q => q) ⟨c, rfl, rfl, ?_⟩ (mono_is_sign _)
      rw [hbeg] at k3
      exact k3
  refine pref fun hs => ?_
  rw [← hB]
  have ret1 : ∀ (δ : List Sl) (fs' : List Fr), R (.int ((a + 1 : Nat) : Int)) [opnF fs', hldF fs'] → δ[1]? = some (.dat (.int (a : Nat))) → δ[2]? = some (.own (some 0) (opnF fs')) → δ[3]? = some (.own (some 1) (hldF fs')) → dRet (dOp (dI fun i j => i + j) (dVar 1) (dC (.int 1))) (endsOf R) δ := fun δ fs' hR a1 a2 a3 => by
    dsimp only [dRet, dOp]
    exact var_at a1 ⟨_, hR, outs2 2 3 a2 a3⟩
  have hR0 := hR
  unfold pstep at hR
  rw [stp_cons] at hR hs
  dsimp only [dSeq]
  refine if_sign (d := 40) rfl hc c_opn (by decide) ?_
  by_cases e40 : c = 40
  · subst e40
    rw [if_pos rfl]
    rw [if_neg (by decide), if_neg (by decide), if_neg (by decide)] at hR hs
    by_cases fb : f.beg = true
    · rw [if_pos fb, if_pos rfl] at hR
      refine ⟨rfl, by rw [sizeLine_eq]; have := opnF_len (f :: fs); rw [List.length_cons] at this; omega, ?_⟩
      rw [c_opn]
      dsimp only
      refine ret1 _ _ hR ?_ ?_ ?_
      · rfl
      · rfl
      · show some (Sl.own (some 1) (hldF (f :: fs))) = some (.own (some 1) (hldF (f :: fs) ++ []))
        rw [List.append_nil]
    · rw [if_neg fb] at hs
      cases hs
  rw [if_neg e40]
  refine if_sign (d := 124) rfl hc c_bar (by decide) ?_
  by_cases e124 : c = 124
  · subst e124
    rw [if_pos rfl]
    rw [if_neg (by decide), if_pos rfl] at hR hs
    cases f with
    | oA p =>
      refine ⟨rfl, ?_⟩
      show (match ixN (opnF fs ++ [PyData.str (st [40, 97])]).length (-1) with
        | some j => _
        | none => False)
      rw [at_last]
      show (match (opnF fs ++ [PyData.str (st [40, 97])])[(opnF fs).length]? with
        | some old => _
        | none => False)
      rw [get_last]
      refine ⟨nat_le_size (by decide +kernel), ?_⟩
      show (match ixN (opnF fs ++ [PyData.str (st [40, 97])]).length (-1) with
        | some j2 => _
        | none => False)
      rw [at_last]
      dsimp only
      refine ret1 _ _ hR ?_ ?_ ?_
      · rfl
      rotate_left
      · rfl
      show some (Sl.own (some 0) ((opnF fs ++ [PyData.str (st [40, 97])]).set (opnF fs).length (PyData.str (st [40, 97] ++ Str.ofString "|")))) = _
      rw [set_last, c_bar, st_app]
      rfl
    | b0 => cases hs
    | bA p => cases hs
    | o => cases hs
    | oAA p q => cases hs
    | oB p => cases hs
    | oBA p q => cases hs
  rw [if_neg e124]
  refine if_sign (d := 42) rfl hc c_star (by decide) ?_
  by_cases e42 : c = 42
  · subst e42
    rw [if_pos rfl]
    rw [if_pos rfl] at hR hs
    cases hst : f.star with
    | none =>
      rw [hst] at hs
      cases hs
    | some g =>
      rw [hst] at hR
      obtain ⟨r, p, e1, e2, e3⟩ := star_ps hst
      have eh : hldF (f :: fs) = (hldF fs ++ r.map W) ++ [W p] := by
        show hldF fs ++ f.ps.map W = _
        rw [e1, List.map_append, List.append_assoc]
        rfl
      have eg : hldF (g :: fs) = (hldF fs ++ r.map W) ++ [W (.again p)] := by
        show hldF fs ++ g.ps.map W = _
        rw [e2, List.map_append, List.append_assoc]
        rfl
      have eo : opnF (g :: fs) = opnF (f :: fs) := by
        show opnF fs ++ [.str (st g.tx)] = opnF fs ++ [.str (st f.tx)]
        rw [e3]
      refine ⟨rfl, ?_⟩
      refine call_pure2 (δ' := [.dat (.str (st l)), .dat (.int (a : Nat)), .own (some 0) (opnF (f :: fs)), .own (some 1) (hldF fs ++ r.map W), .dat (.str (st [42])), .dat (.bool (begs 42)), .no, .no, .no]) [W p] ?_ mono_again ⟨p, rfl, rfl, ?_⟩
      · intro Q q
        refine pop_at (l := hldF fs ++ r.map W) (x := W p) ?_ q
        show some (Sl.own (some 1) (hldF (f :: fs))) = _
        rw [eh]
      have lr : (hldF fs ++ r.map W).length ≤ 100000 := by
        have := congrArg List.length eh
        rw [List.length_append, List.length_singleton] at this
        omega
      refine ⟨by rw [sizeLine_eq]; omega, ?_⟩
      dsimp only
      refine ret1 _ _ hR ?_ ?_ ?_
      · rfl
      · rw [eo]
        rfl
      · rw [eg]
        rfl
  rw [if_neg e42]
  rw [if_neg e42, if_neg e124] at hR hs
  refine if_sign (d := 41) rfl hc c_cls (by decide) ?_
  by_cases e41 : c = 41
  · subst e41
    rw [if_pos rfl]
    rw [if_pos rfl] at hR hs
    cases hcl : f.close with
    | none =>
      rw [hcl] at hs
      cases hs
    | some x =>
      cases fs with
      | nil =>
        rw [hcl] at hs
        cases hs
      | cons g gs =>
        rw [hcl] at hR
        obtain ⟨_, gb, gok⟩ := okFs_under hok
        obtain ⟨b, p, q, rfl, e1, e2⟩ := close_ps hcl
        have eh : hldF (f :: g :: gs) = (hldF (g :: gs) ++ [W p]) ++ [W q] := by
          show hldF (g :: gs) ++ f.ps.map W = _
          rw [e1, List.append_assoc]
          rfl
        have eo : opnF (f :: g :: gs) = opnF (g :: gs) ++ [.str (st (if b then [40, 97, 124, 97] else [40, 97, 97]))] := by
          show opnF (g :: gs) ++ [.str (st f.tx)] = _
          rw [e2]
        dsimp only [dSeq, dAsg, dgName]
        refine pop_at (l := hldF (g :: gs) ++ [W p]) (x := W q) (by rw [← eh]; rfl) ?_
        refine pop_at (l := hldF (g :: gs)) (x := W p) rfl ?_
        dsimp only [dDrop]
        refine call_holdF (δ' := [.dat (.str (st l)), .dat (.int (a : Nat)), .own (some 0) (opnF (g :: gs)), .own (some 1) (hldF (g :: gs)), .dat (.str (st [41])), .dat (.bool (begs 41)), .dat (W q), .dat (W p), .no]) (x := W (.two b p q)) (op := opnF gs) (o := g.tx) (hd := hldF (g :: gs)) (t1 := some 0) (t2 := some 1) ?_ ?_ ?_ (Fr.tx_le g) ?_ ?_
        · intro Q z
          refine call_pure2 (δ' := [.dat (.str (st l)), .dat (.int (a : Nat)), .own (some 0) (opnF (g :: gs)), .own (some 1) (hldF (g :: gs)), .dat (.str (st [41])), .dat (.bool (begs 41)), .dat (W q), .dat (W p), .no]) [.str (st (if b then [40, 97, 124, 97] else [40, 97, 97])), W p, W q] ?_ mono_pair ⟨b, p, q, rfl, rfl, z⟩
          intro Q2 z2
          refine pop_at (l := opnF (g :: gs)) (x := .str (st (if b then [40, 97, 124, 97] else [40, 97, 97]))) ?_ z2
          show some (Sl.own (some 0) (opnF (f :: g :: gs))) = _
          rw [eo]
        · rfl
        · rfl
        · have := opnF_len gs
          rw [List.length_cons] at b2 lo lh2
          exact ⟨by omega, by omega⟩
        · refine ret1 _ (g.put (.two b p q) :: gs) hR ?_ ?_ ?_
          · rfl
          · rw [opn_put gb]
            rfl
          · rw [hld_put gb]
            rfl
  rw [if_neg e41]
  rw [if_neg e41] at hR hs
  have fb : f.beg = true := by
    by_cases fb : f.beg = true
    · exact fb
    · rw [if_neg fb] at hs
      cases hs
  rw [if_pos fb, if_neg e40] at hR hs
  have lf : opnF (f :: fs) = opnF fs ++ [.str (st f.tx)] := rfl
  refine if_sign (d := 95) rfl hc c_und (by decide) ?_
  by_cases e95 : c = 95
  · subst e95
    rw [if_pos rfl]
    rw [if_neg (by decide), if_pos rfl] at hR
    dsimp only [dDrop]
    refine call_holdF (x := W .non) (op := opnF fs) (o := f.tx) (hd := hldF (f :: fs)) (t1 := some 0) (t2 := some 1) (δ' := [.dat (.str (st l)), .dat (.int (a : Nat)), .own (some 0) (opnF (f :: fs)), .own (some 1) (hldF (f :: fs)), .dat (.str (st [95])), .dat (.bool (begs 95)), .no, .no, .no]) ?_ ?_ ?_ (Fr.tx_le f) ⟨by omega, by omega⟩ ?_
    · exact fun Q q => ⟨nat_le_size (by show 1 ≤ 16777216; decide), nat_le_size (by show 4 ≤ 16777216; decide), q⟩
    · rfl
    · rfl
    · refine ret1 _ (f.put .non :: fs) hR ?_ ?_ ?_
      · rfl
      · rw [opn_put fb]
        rfl
      · rw [hld_put fb]
        rfl
  rw [if_neg e95]
  rw [if_neg e95] at hR hs
  by_cases e91 : c = 91
  · subst e91
    rw [if_pos rfl] at hR
    have v91 : PyData.eqv (.str (st [91])) (.str (Str.ofString "[")) = true := by
      rw [ev_ss, c_lb, st_eq]
      decide
    dsimp only [dSeq, dAsg, dIf, dTest, dOp, dgName]
    refine ⟨one_shaped (by decide), by decide +kernel, ?_⟩
    rw [v91]
    simp only [↓reduceIte, dDrop]
    refine call_x (δ' := [.dat (.str (st l)), .dat (.int (a : Nat)), .own (some 0) (opnF (f :: fs)), .own (some 1) (hldF (f :: fs)), .dat (.str (st [91])), .dat (.bool (begs 91)), .no, .no, .no]) [.str (st l), .int (a : Nat)] (fun Q q => q) (monox_letters_at cN) ⟨l, a, rfl, hcs, by omega, ha, ?_⟩
    revert hR
    cases hl : lrun (l.drop (a + 1)) [] (a + 1) with
    | error p => exact fun hR => ⟨rfl, bad p _ rfl rfl hR⟩
    | ok ls =>
      intro hR
      refine ⟨rfl, ?_⟩
      refine call_holdF (x := W (.sgn (st ls))) (op := opnF fs) (o := f.tx) (hd := hldF (f :: fs)) (t1 := some 0) (t2 := some 1) (δ' := [.dat (.str (st l)), .dat (.int (a : Nat)), .own (some 0) (opnF (f :: fs)), .own (some 1) (hldF (f :: fs)), .dat (.str (st [91])), .dat (.bool (begs 91)), .no, .no, .dat (.str (st ls))]) ?_ ?_ ?_ (Fr.tx_le f) ⟨by omega, by omega⟩ ?_
      · exact fun Q q => ⟨nat_le_size (by show 2 ≤ 16777216; decide), nat_le_size (by show 4 ≤ 16777216; decide), q⟩
      · rfl
      · rfl
      · dsimp only [dRet]
        refine var_at (d := .int (a : Nat)) rfl ?_
        refine ⟨one_shaped (by decide), by decide +kernel, ?_⟩
        rw [v91]
        simp only [↓reduceIte]
        have sl : (st ls).length = ls.length := st_len ls
        have ll : ls.length ≤ 30000 := lrun_len _ _ _ hl (by rw [List.length_drop]; simp; omega)
        refine ⟨nat_le_size (by omega), [opnF (f.put (.sgn (st ls)) :: fs), hldF (f.put (.sgn (st ls)) :: fs)], ?_, outs2 2 3 ?_ ?_⟩
        · have e : ((a + 2 + ls.length : Nat) : Int) = ((a : Nat) : Int) + (2 + ((st ls).length : Int)) := by
            rw [sl]
            omega
          have hR : R (.int ((a + 2 + ls.length : Nat) : Int)) _ := hR
          rw [e] at hR
          exact hR
        · rw [opn_put fb]
          rfl
        · rw [hld_put fb]
          rfl
  rw [if_neg e91] at hR hs
  have sm : small c = true := by
    by_cases sm : small c = true
    · exact sm
    · rw [if_neg sm] at hs
      cases hs
  rw [if_pos sm] at hR
  have v91 : PyData.eqv (.str (st [c])) (.str (Str.ofString "[")) = false := by
    rw [ev_ss, c_lb, st_eq]
    exact decide_eq_false fun e => e91 (List.cons.inj e).1
  dsimp only [dSeq, dAsg, dIf, dTest, dOp, dgName]
  refine ⟨one_shaped hc, by decide +kernel, ?_⟩
  rw [v91]
  simp only [Bool.false_eq_true, if_false, dDrop]
  refine call_holdF (x := W (.sgn (st [c]))) (op := opnF fs) (o := f.tx) (hd := hldF (f :: fs)) (t1 := some 0) (t2 := some 1) (δ' := [.dat (.str (st l)), .dat (.int (a : Nat)), .own (some 0) (opnF (f :: fs)), .own (some 1) (hldF (f :: fs)), .dat (.str (st [c])), .dat (.bool (begs c)), .no, .no, .dat (.str (st [c]))]) ?_ ?_ ?_ (Fr.tx_le f) ⟨by omega, by omega⟩ ?_
  · exact fun Q q => ⟨nat_le_size (by show 2 ≤ 16777216; decide), nat_le_size (by show 4 ≤ 16777216; decide), q⟩
  · rfl
  · rfl
  · dsimp only [dRet]
    refine var_at (d := .int (a : Nat)) rfl ?_
    refine ⟨one_shaped hc, by decide +kernel, ?_⟩
    rw [v91]
    simp only [Bool.false_eq_true, if_false]
    refine ⟨[opnF (f.put (.sgn (st [c])) :: fs), hldF (f.put (.sgn (st [c])) :: fs)], hR, outs2 2 3 ?_ ?_⟩
    · rw [opn_put fb]
      rfl
    · rw [hld_put fb]
      rfl
end
end K05

set_option Elab.async false
set_option linter.all false
set_option maxRecDepth 100000
set_option maxHeartbeats 4000000
/-! K05i: the program's read -/
namespace K05
open PySem PySem.Spec L2 TL
/-- what comes of all signs: where it stopped, or the open brackets -/
def fin (n : Nat) : Except Nat State → Except Nat (List Fr)
  | .error p => .error p
  | .ok (fs, none) => .ok fs
  | .ok (_, some _) => .error n
def ofFin (n : Nat) : Except Nat (List Fr) → Out
  | .error p => .bad p
  | .ok [.bA p] => if inB p = true then .told p else .big
  | .ok _ => .bad n
theorem out_fin (l : List Nat) : out l = ofFin l.length (fin l.length (run l ([.b0], none) 0)) := by
  unfold out
  cases run l ([.b0], none) 0 with
  | error p => rfl
  | ok s =>
    obtain ⟨fs, o⟩ := s
    cases o with
    | some ls =>
      rcases fs with _ | ⟨f, _ | ⟨g, r⟩⟩ <;> first
        | rfl
        | (cases f <;> rfl)
    | none =>
      rcases fs with _ | ⟨f, _ | ⟨g, r⟩⟩ <;> first
        | rfl
        | (cases f <;> rfl)
theorem lrun_cons (c : Nat) (r ls : List Nat) (p : Nat) : lrun (c :: r) ls p = if c = 93 ∧ 1 < ls.length then .ok ls else if canF ls c = true then lrun r (ls ++ [c]) (p + 1) else .error p := rfl
theorem lrun_ge : ∀ (r ls : List Nat) (p : Nat) {out : List Nat}, lrun r ls p = .ok out → ls.length ≤ out.length ∧ out.length + 1 ≤ ls.length + r.length ∧ (rises ls = true → rises out = true) ∧ 1 < out.length
  | [], _, _, _, h => nomatch h
  | c :: r, ls, p, out, h => by
    rw [lrun_cons] at h
    split at h
    · rename_i hc
      cases h
      exact ⟨Nat.le_refl _, by rw [List.length_cons]; omega, id, hc.2⟩
    · split at h
      · rename_i hf
        have z := lrun_ge r (ls ++ [c]) (p + 1) h
        rw [List.length_append, List.length_singleton] at z
        exact ⟨by omega, by rw [List.length_cons]; omega, fun q => z.2.2.1 (rises_app q hf), z.2.2.2⟩
      · cases h
/-- reading letters sign by sign, and at once -/
theorem run_letters : ∀ (r ls : List Nat) (p n : Nat) (f : Fr) (fs : List Fr), p + r.length = n → fin n (run r (f :: fs, some ls) p) = (match lrun r ls p with
    | .error q => .error q
    | .ok out => fin n (run (r.drop (out.length - ls.length + 1)) (f.put (.sgn (st out)) :: fs, none) (p + (out.length - ls.length) + 1)))
  | [], ls, p, n, f, fs, h => by
    show Except.error n = Except.error p
    rw [← h]
    rfl
  | c :: r, ls, p, n, f, fs, h => by
    rw [lrun_cons]
    show fin n (match (if c = 93 ∧ 1 < ls.length then some (f.put (.sgn (st ls)) :: fs, none) else if canF ls c = true then some (f :: fs, some (ls ++ [c])) else none : Option State) with
      | none => .error p
      | some s' => run r s' (p + 1)) = _
    by_cases h1 : c = 93 ∧ 1 < ls.length
    · rw [if_pos h1, if_pos h1]
      show fin n (run r _ (p + 1)) = fin n (run ((c :: r).drop (ls.length - ls.length + 1)) _ (p + (ls.length - ls.length) + 1))
      rw [Nat.sub_self]
      rfl
    · rw [if_neg h1, if_neg h1]
      by_cases h2 : canF ls c = true
      · rw [if_pos h2, if_pos h2]
        show fin n (run r (f :: fs, some (ls ++ [c])) (p + 1)) = _
        rw [List.length_cons] at h
        rw [run_letters r (ls ++ [c]) (p + 1) n f fs (by omega)]
        cases hl : lrun r (ls ++ [c]) (p + 1) with
        | error q => rfl
        | ok out =>
          have z := lrun_ge r (ls ++ [c]) (p + 1) hl
          rw [List.length_append, List.length_singleton] at z
          rw [List.length_append, List.length_singleton]
          have e1 : out.length - ls.length + 1 = (out.length - (ls.length + 1) + 1) + 1 := by omega
          have e2 : p + (out.length - ls.length) + 1 = p + 1 + (out.length - (ls.length + 1)) + 1 := by omega
          show fin n (run (r.drop (out.length - (ls.length + 1) + 1)) _ (p + 1 + (out.length - (ls.length + 1)) + 1)) = fin n (run ((c :: r).drop (out.length - ls.length + 1)) _ (p + (out.length - ls.length) + 1))
          rw [e1, e2]
          rfl
      · rw [if_neg h2, if_neg h2]
        rfl
/-- one turn of the program's loop -/
theorem run_step {l : List Nat} {a c : Nat} {r : List Nat} {fs : List Fr} (hd : l.drop a = c :: r) (hs : fs ≠ []) : fin l.length (run (l.drop a) (fs, none) a) = (match pstep l a fs c with
    | .error p => .error p
    | .ok (n, fs') => fin l.length (run (l.drop n) (fs', none) n)) := by
  obtain ⟨_, hd2, hl⟩ := drop_cons hd
  rw [hd]
  show fin _ (match stp c fs with
    | none => .error a
    | some s' => run r s' (a + 1)) = _
  unfold pstep
  cases h : stp c fs with
  | none => rfl
  | some s =>
    obtain ⟨fs', o⟩ := s
    cases o with
    | none =>
      show fin _ (run r (fs', none) (a + 1)) = fin _ (run (l.drop (a + 1)) (fs', none) (a + 1))
      rw [hd2]
    | some ls =>
      -- letters begin
      obtain ⟨f, fs0, rfl⟩ : ∃ f r, fs = f :: r := by
        cases fs with
        | nil => exact absurd rfl hs
        | cons f r => exact ⟨f, r, rfl⟩
      have e : fs' = f :: fs0 ∧ ls = [] := by
        rw [stp_cons] at h
        split at h
        · obtain ⟨g, _, e⟩ := Option.map_eq_some_iff.mp h
          cases e
        · split at h
          · obtain ⟨g, _, e⟩ := Option.map_eq_some_iff.mp h
            cases e
          · split at h
            · split at h <;> cases h
            · split at h
              · split at h
                · cases h
                · split at h
                  · cases h
                    exact ⟨rfl, rfl⟩
                  · split at h
                    · cases h
                    · split at h <;> cases h
              · cases h
      obtain ⟨rfl, rfl⟩ := e
      show fin _ (run r (f :: fs0, some []) (a + 1)) = _
      have hr : a + 1 + r.length = l.length := by
        rw [← hd2, List.length_drop]
        omega
      rw [run_letters r [] (a + 1) _ f fs0 hr, hd2]
      cases lrun r [] (a + 1) with
      | error q => rfl
      | ok out =>
        show fin _ (run (r.drop (out.length - 0 + 1)) _ (a + 1 + (out.length - 0) + 1)) = fin _ (run (l.drop (a + 2 + out.length)) _ (a + 2 + out.length))
        rw [← hd2, List.drop_drop]
        have e : a + 1 + (out.length - 0 + 1) = a + 2 + out.length := by omega
        have e2 : a + 1 + (out.length - 0) + 1 = a + 2 + out.length := by omega
        rw [e, e2]
/-- what stays true of the program's state -/
theorem pstep_ok {l : List Nat} {a c n : Nat} {r : List Nat} {fs fs' : List Fr} {b : Nat} (hd : l.drop a = c :: r) (g : Good b (fs, none)) (hb : 1 ≤ b) (h : pstep l a fs c = .ok (n, fs')) :
    Good (b + 1) (fs', none) ∧ fs'.length ≤ fs.length + 1 ∧ a < n ∧ n ≤ l.length := by
  obtain ⟨_, hd2, hl⟩ := drop_cons hd
  unfold pstep at h
  cases hs : stp c fs with
  | none =>
    rw [hs] at h
    cases h
  | some s =>
    rw [hs] at h
    obtain ⟨fs1, o⟩ := s
    have hn : nxt c (fs, none) = some (fs1, o) := hs
    have g1 := g.nxt hb hn
    have l1 := nxt_len hn
    have le : b + (if isOp c = true then 1 else 0) ≤ b + 1 := by split <;> omega
    cases o with
    | none =>
      have h : Except.ok (a + 1, fs1) = Except.ok (n, fs') := h
      cases h
      exact ⟨g1.le le, l1, Nat.lt_succ_self a, hl⟩
    | some ls =>
      dsimp only at h
      cases hl2 : lrun (l.drop (a + 1)) [] (a + 1) with
      | error q =>
        rw [hl2] at h
        cases fs1 <;> cases h
      | ok out =>
        rw [hl2] at h
        have z := lrun_ge _ _ _ hl2
        rw [List.length_drop] at z
        cases fs1 with
        | nil => cases h
        | cons f r1 =>
          cases h
          obtain ⟨_, f0, fs0, e0, fb⟩ := g1.ls ls rfl
          cases e0
          refine ⟨(g1.put fb (x := .sgn (st out)) ⟨good_rises (z.2.2.1 rfl) (by omega), by show 1 ≤ _; omega⟩).le le, l1, by omega, ?_⟩
          have z2 := z.2.1
          have : (l.drop (a + 1)).length = l.length - (a + 1) := List.length_drop
          show a + 2 + out.length ≤ l.length
          have z3 : ([] : List Nat).length = 0 := rfl
          omega
theorem eqvAll_len : ∀ {xs ys : List PyData}, PyData.eqvAll xs ys = true → xs.length = ys.length
  | [], [], _ => rfl
  | [], _ :: _, h => by simp [PyData.eqvAll] at h
  | _ :: _, [], h => by simp [PyData.eqvAll] at h
  | x :: xs, y :: ys, h => by
    rw [PyData.eqvAll, Bool.and_eq_true] at h
    rw [List.length_cons, List.length_cons, eqvAll_len h.2]
theorem opn_eq {fs : List Fr} (h : okFs fs = true) : PyData.eqv (.list (opnF fs)) (.list [.str (st [97])]) = true ↔ ∃ p, fs = [.bA p] := by
  rw [PyData.eqv]
  constructor
  · intro e
    have l := eqvAll_len e
    rw [opnF_len] at l
    match fs, l with
    | [f], _ =>
      have e : PyData.eqvAll [.str (st f.tx)] [.str (st [97])] = true := e
      rw [PyData.eqvAll, Bool.and_eq_true, ev_ss, st_eq, decide_eq_true_iff] at e
      have e := e.1
      cases f with
      | bA p => exact ⟨p, rfl⟩
      | b0 => cases e
      | o => cases e
      | oA p => cases e
      | oAA p q => cases e
      | oB p => cases e
      | oBA p q => cases e
  · rintro ⟨p, rfl⟩
    show PyData.eqvAll [.str (st [97])] [.str (st [97])] = true
    decide +kernel
theorem opn_lay : ∀ fs : List Fr, PyData.canLayAll0 (opnF fs) = true ∧ PyData.depthAll (opnF fs) = 0
  | [] => ⟨rfl, rfl⟩
  | f :: fs => by
    have ih := opn_lay fs
    have app : ∀ (xs : List PyData) (z : PyData), PyData.canLayAll0 xs = true → PyData.depthAll xs = 0 → z.canLay0 = true → PyData.depth z = 0 → PyData.canLayAll0 (xs ++ [z]) = true ∧ PyData.depthAll (xs ++ [z]) = 0 := by
      intro xs z
      induction xs with
      | nil => exact fun _ _ h3 h4 => ⟨by show (z.canLay0 && true) = true; rw [h3]; rfl, by show max (PyData.depth z) 0 = 0; rw [h4]; rfl⟩
      | cons x r ih =>
        intro h1 h2 h3 h4
        have h1 : (x.canLay0 && PyData.canLayAll0 r) = true := h1
        have h2 : max (PyData.depth x) (PyData.depthAll r) = 0 := h2
        rw [Bool.and_eq_true] at h1
        have q := ih h1.2 (by omega) h3 h4
        refine ⟨by show (x.canLay0 && PyData.canLayAll0 (r ++ [z])) = true; rw [h1.1, q.1]; rfl, ?_⟩
        show max (PyData.depth x) (PyData.depthAll (r ++ [z])) = 0
        rw [q.2]
        omega
    refine app (opnF fs) (.str (st f.tx)) ih.1 ih.2 ?_ rfl
    rw [← Fr.sh_tx]
    cases f.sh <;> decide +kernel
theorem sh_opn (fs : List Fr) : SeqAt.shaped (.list (opnF fs)) = true := by
  obtain ⟨h1, h2⟩ := opn_lay fs
  unfold SeqAt.shaped
  rw [Bool.and_eq_true]
  refine ⟨h1, decide_eq_true ?_⟩
  show PyData.depthAll (opnF fs) + 1 ≤ 64
  omega
/-- what read tells -/
def oRes {α : Type} (f : Pt → α) (g : PyData → α) : Out → α
  | .told p => f p
  | .bad n => g (.int (n : Nat))
  | .big => g .none
theorem oRes_mono {f f' : Pt → Prop} {g g' : PyData → Prop} (h : ∀ p, f p → f' p) (k : ∀ p, g p → g' p) : ∀ {r : Out}, oRes f g r → oRes f' g' r
  | .told _, q => h _ q
  | .bad _, q => k _ q
  | .big, q => k _ q
def due : PyData → Out
  | .str z => out z.cps.toList
  | _ => .big
/-- what may be handed in -/
def okIn : PyData → Bool
  | .str z => (z.cps.toList.all fun c => decide (c < 1114112)) && decide (z.length ≤ 30000)
  | .dict ds => !isErr ds
  | _ => true
def S_read (cN : Addr) : DSx := fun as R Xr => ∃ d : PyData, as = [.dat d] ∧ okIn d = true ∧ oRes (fun p => R p.d []) (fun e => Xr (errA cN e) []) (due d)
theorem monox_read (c : Addr) : MonoX (S_read c) := fun as R R' X X' h h' ⟨d, a, b, k⟩ => ⟨d, a, b, oRes_mono (fun _ q => h _ _ q) (fun _ q => h' _ _ q) k⟩
theorem wh_one {tt : DTT} {u : DTS} {E : DEnds} {n : Nat} {δ : List Sl} {b : Bool} (hT : ∀ N : Bool → List Sl → Prop, N b δ → tt δ N) (k : if b = true then u { E with nx := whW tt u E n, ct := whW tt u E n, bk := E.nx } δ else E.nx δ) : whW tt u E (n + 1) δ := hT _ k
abbrev s_read : Stmt := top 26
theorem sc_read : FnScope ["text", "opened", "held", "at", "pattern", "leaves", "parts", "deep"] ["text"] (defScope s_read) := ⟨rfl, rfl, rfl, by decide +kernel, rfl, by decide +kernel, by decide +kernel⟩
section
variable {P : Program} {w : World} {K : PySem.W.Frag} {mg : Str → Option Value} {base : Heap}
variable (m_len : mg "len" = none) (m_isinstance : mg "isinstance" = none) (m_str : mg "str" = none) (m_bool : mg "bool" = none) (m_range : mg "range" = none) (m_int : mg "int" = none) (m_max : mg "max" = none) (m_min : mg "min" = none)
  (m_sum : mg "sum" = none) (m_sorted : mg "sorted" = none) (m_set : mg "set" = none) (m_tuple : mg "tuple" = none) (m_repr : mg "repr" = none) (m_ValueError : mg "ValueError" = none)
include m_len m_isinstance m_str m_bool m_range m_int m_max m_min m_sum m_sorted m_set m_tuple m_repr m_ValueError
theorem ok_read {f : Addr} {fd : FuncData} (F : Fun K "read" "read" s_read f fd) {cN : Addr} (k_read_on : KnX P w K mg base 4 "read_on" (S_on cN)) (k_is_within : Kn P w K mg base 1 "is_within" S_within) (kn_NoPattern : KnE P w K mg base "NoPattern" cN ["at"]) : FnOkG P w K mg base (L2.CX P w) 5 f fd ["text"] (spX K (S_read cN)) := by
  refine fnX F sc_read (fun as R Xr h => by obtain ⟨_, rfl, _⟩ := h; rfl) fun cdv A outer s H E hr xw tk => ?_
  have nd := sc_read.nd
  have hu := hr.units
  have hu1 := hr.units1
  refine ⟨_, _, (dss_cons (ds_if (dt_not (dt_val (de_isi (T := "str") m_isinstance m_str (by decide +kernel) (de_var 0)))) (dss_one (ds_raise rfl tk kn_NoPattern hr (by omega) (da_cons de_non da_nil))) dss_nil)
    (dss_cons (ds_own 1 nd (da_cons de_str da_nil))
    (dss_cons (ds_own 2 nd da_nil)
    (dss_cons (ds_set 3 nd de_int)
    (dss_cons (ds_while (passes_of rfl) (dt_cmp op_lt ro_B (nomark _) (de_var 3) (de_len (ps := default) m_len (de_var 0))) (dss_one (ds_set 3 nd (de_callX tk k_read_on hr (by omega) (dca_d (de_var 0) (dca_d (de_var 3) (dca_s 1 (dca_s 2 dca_nil))))))))
    (dss_cons (ds_if (dt_cmp (op_neD hu) ro_ne (nomark _) (de_var 1) (de_lst (da_cons de_str da_nil))) (dss_one (ds_raise rfl tk kn_NoPattern hr (by omega) (da_cons (de_len (ps := default) m_len (de_var 0)) da_nil))) dss_nil)
    (dss_cons (ds_setTup (de_ixV 2 de_int) (dg_tup rfl (dgs_cons (dg_name 4 nd) (dgs_cons (dg_name 5 nd) (dgs_cons (dg_name 6 nd) (dgs_cons (dg_name 7 nd) dgs_nil))))))
    (dss_cons (ds_if (dt_not (dt_val (de_call k_is_within hr (by omega) (dca_d (de_var 5) (dca_d (de_var 6) (dca_d (de_var 7) dca_nil)))))) (dss_one (ds_raise rfl tk kn_NoPattern hr (by omega) (da_cons de_non da_nil))) dss_nil)
    (dss_one (ds_ret (de_var 4))))))))))), ?_⟩
  rintro as R Xr ⟨d, rfl, hd, hR⟩ hx
  have bad : ∀ (q : PyData) (δ : List Sl), Xr (errA cN q) [] → xw.xr (errD cN ([Str.ofString "at"] : List Str).reverse [q].reverse) δ := fun q δ h => by
    rw [hx]
    exact ⟨[], h, outs0⟩
  generalize hW : dWhile _ _ = WW
  by_cases hz : ∃ z, d = .str z
  rotate_left
  · -- what is no text
    have hk : kitB (tyD d) "str" = some false ∧ due d = .big := by
      cases d with
      | str z => exact absurd ⟨_, rfl⟩ hz
      | none => exact ⟨kb_ns, rfl⟩
      | bool b => exact ⟨kb_bs, rfl⟩
      | int i => exact ⟨kb_is, rfl⟩
      | list ds => exact ⟨kb_ls, rfl⟩
      | tuple ds => exact ⟨kb_ts, rfl⟩
      | dict ds =>
        refine ⟨?_, rfl⟩
        have hd : (!isErr ds) = true := hd
        show kitB (if isErr ds = true then "" else "dict") "str" = some false
        rw [if_neg (by intro e; rw [e] at hd; cases hd)]
        exact kb_ds
    dsimp only [dSeq, dIfS, dNot, dTest, dIsi]
    refine var_at (d := d) rfl ?_
    rw [hk.1]
    rw [hk.2] at hR
    exact ⟨rfl, by decide, bad .none _ hR⟩
  obtain ⟨z, rfl⟩ := hz
  obtain ⟨l, rfl⟩ : ∃ l, z = st l := ⟨z.cps.toList, (st_of z).symm⟩
  have hd : (l.all (fun c => decide (c < 1114112)) && decide ((st l).length ≤ 30000)) = true := hd
  rw [Bool.and_eq_true, decide_eq_true_iff, List.all_eq_true] at hd
  have hcs : ∀ c ∈ l, c < 1114112 := fun c hc => by simpa using hd.1 c hc
  have hl := hd.2
  have sT : (st l).length = l.length := st_len l
  rw [sT] at hl
  have hR : oRes (fun p => R p.d []) (fun e => Xr (errA cN e) []) (out l) := hR
  rw [out_fin] at hR
  dsimp only [dSeq, dIfS, dNot, dTest, dIsi]
  refine var_at (d := .str (st l)) rfl ?_
  show (match kitB "str" "str" with
    | some b => _
    | none => False)
  rw [kb_ss]
  show dNext _ _
  refine ⟨nat_le_size (by show 1 ≤ 16777216; decide), nat_le_size (by show 0 ≤ 16777216; decide), ?_⟩
  rw [← hW]
  refine ⟨l.length + 1, ?_⟩
  rw [c_e]
  generalize hE : DEnds.mk _ _ _ _ _ = EE
  -- the turns
  have turns : ∀ (n a b : Nat) (fs : List Fr), l.length - a ≤ n → a ≤ l.length → Good b (fs, none) → 1 ≤ b → fs.length ≤ a + 1 →
      (match fin l.length (run (l.drop a) (fs, none) a) with
        | .error p => Xr (errA cN (.int (p : Nat))) []
        | .ok fs' => okFs fs' = true → EE.nx [.dat (.str (st l)), .own none (opnF fs'), .own none (hldF fs'), .dat (.int (l.length : Nat)), .no, .no, .no, .no]) →
      whW (dTest (dOp (dB fun i j => decide (i < j)) (dVar 3) (dLen (dVar 0)))) (dAsg (dCallX (S_on cN) (cD (dVar 0) (cD (dVar 3) (cS 1 (cS 2 cNil))))) (dgName 3)) EE (n + 1)
        [.dat (.str (st l)), .own none (opnF fs), .own none (hldF fs), .dat (.int (a : Nat)), .no, .no, .no, .no] := by
    have test : ∀ (a : Nat) (x1 x2 : Sl) (N : Bool → List Sl → Prop), N (decide (a < l.length)) [.dat (.str (st l)), x1, x2, .dat (.int (a : Nat)), .no, .no, .no, .no] →
        dTest (dOp (dB fun i j => decide (i < j)) (dVar 3) (dLen (dVar 0))) [.dat (.str (st l)), x1, x2, .dat (.int (a : Nat)), .no, .no, .no, .no] N := fun a x1 x2 N h => by
      dsimp only [dTest, dOp, dLen]
      refine var_at (d := .int (a : Nat)) rfl ?_
      refine var_at (d := .str (st l)) rfl ⟨nat_le_size (by omega), ?_⟩
      rw [sT]
      have e : decide (((a : Nat) : Int) < ((l.length : Nat) : Int)) = decide (a < l.length) := decide_eq_decide.mpr (by omega)
      show (match (PyData.bool (decide (((a : Nat) : Int) < ((l.length : Nat) : Int)))) with
        | .bool b => N b _
        | _ => False)
      rw [e]
      exact h
    intro n
    induction n with
    | zero =>
      intro a b fs hn ha g hb hf h
      have ea : a = l.length := by omega
      subst ea
      rw [List.drop_length] at h
      refine wh_one (b := false) (fun N k => test _ _ _ N (by rw [decide_eq_false (Nat.lt_irrefl _)]; exact k)) ?_
      rw [if_neg (by decide)]
      exact h g.ok
    | succ n ih =>
      intro a b fs hn ha g hb hf h
      cases hd : l.drop a with
      | nil =>
        have ea : a = l.length := by
          have := congrArg List.length hd
          rw [List.length_drop] at this
          simp at this
          omega
        subst ea
        rw [List.drop_length] at h
        refine wh_one (b := false) (fun N k => test _ _ _ N (by rw [decide_eq_false (Nat.lt_irrefl _)]; exact k)) ?_
        rw [if_neg (by decide)]
        exact h g.ok
      | cons c r =>
        obtain ⟨at_, _, lt⟩ := drop_cons hd
        have ne : fs ≠ [] := fun e => by
          have := g.ok
          rw [e] at this
          cases this
        rw [run_step hd ne] at h
        refine wh_one (b := true) (fun N k => test _ _ _ N (by rw [decide_eq_true lt]; exact k)) ?_
        rw [if_pos rfl]
        dsimp only [dAsg, dgName]
        refine call_own2x (δ' := [.dat (.str (st l)), .own none (opnF fs), .own none (hldF fs), .dat (.int (a : Nat)), .no, .no, .no, .no]) [.str (st l), .int (a : Nat)] (fun Q q => ?_) (i := 1) (j := 2) (by decide) rfl rfl (monox_on cN) ⟨l, a, c, fs, rfl, ⟨at_, lt⟩, hcs, ⟨by omega, by omega⟩, g.ok, ?_⟩
        · exact ⟨rfl, rfl, q⟩
        · cases hp : pstep l a fs c with
          | error p =>
            rw [hp] at h
            exact ⟨_, _, rfl, by
              show xw.xr _ _
              exact bad (.int (p : Nat)) _ h⟩
          | ok q =>
            obtain ⟨m, fs'⟩ := q
            rw [hp] at h
            obtain ⟨g', l', m1, m2⟩ := pstep_ok hd g hb hp
            exact ⟨_, _, rfl, ih m (b + 1) fs' (by omega) m2 g' (by omega) (by omega) h⟩
  refine turns l.length 0 1 [.b0] (by omega) (Nat.zero_le _) (Good.zero 1) (Nat.le_refl 1) (by decide) ?_
  rw [List.drop_zero]
  cases hf : fin l.length (run l ([.b0], none) 0) with
  | error p =>
    rw [hf] at hR
    exact hR
  | ok fs =>
    rw [hf] at hR
    intro hok
    rw [← hE]
    dsimp only [dOp, dLst, dCons, dNil, dC]
    show (_ ∧ _)
    refine ⟨nat_le_size (by decide), ?_⟩
    rw [c_a]
    have sh1 : SeqAt.shaped (.list [.str (st [97])]) = true := by decide +kernel
    refine ⟨sh_opn fs, sh1, ?_⟩
    show if (!PyData.eqv (.list (opnF fs)) (.list [.str (st [97])])) = true then _ else _
    by_cases he : PyData.eqv (.list (opnF fs)) (.list [.str (st [97])]) = true
    · obtain ⟨p, rfl⟩ := (opn_eq hok).mp he
      rw [he]
      simp only [Bool.not_true, Bool.false_eq_true, if_false]
      refine ⟨rfl, ?_⟩
      show (match atI [W p] 0 with
        | some x => _
        | none => False)
      rw [at0]
      refine ⟨rfl, ?_⟩
      dsimp only [dgCons, dgName, dgNil, dSeq, dIfS, dNot, dTest]
      refine call_pure [.int (p.leaves : Nat), .int (p.parts : Nat), .int (p.deep : Nat)] (fun Q q => q) ⟨_, _, _, rfl, rfl, ?_⟩ (mono_within _)
      have eb : (decide (((p.leaves : Nat) : Int) ≤ 11) && (decide (((p.parts : Nat) : Int) ≤ 40) && decide (((p.deep : Nat) : Int) ≤ 12))) = inB p := by
        unfold inB
        rw [show decide (((p.leaves : Nat) : Int) ≤ 11) = decide (p.leaves ≤ 11) from decide_eq_decide.mpr (by omega), show decide (((p.parts : Nat) : Int) ≤ 40) = decide (p.parts ≤ 40) from decide_eq_decide.mpr (by omega), show decide (((p.deep : Nat) : Int) ≤ 12) = decide (p.deep ≤ 12) from decide_eq_decide.mpr (by omega)]
      rw [eb]
      have hR : oRes (fun p => R p.d []) (fun e => Xr (errA cN e) []) (if inB p = true then .told p else .big) := hR
      cases hb : inB p with
      | true =>
        rw [hb, if_pos rfl] at hR
        simp only [Bool.not_true, Bool.false_eq_true, if_false]
        exact ⟨[], hR, outs0⟩
      | false =>
        rw [hb, if_neg (by decide)] at hR
        simp only [Bool.not_false, if_true]
        exact ⟨rfl, by decide, bad .none _ hR⟩
    · rw [Bool.not_eq_true] at he
      rw [he]
      simp only [Bool.not_false, if_true]
      refine ⟨nat_le_size (by omega), rfl, by decide, ?_⟩
      have eb : ofFin l.length (.ok fs) = .bad l.length := by
        rcases fs with _ | ⟨f, _ | ⟨g, r⟩⟩ <;> first
          | rfl
          | (cases f <;> rfl)
          | skip
        cases f with
        | bA p =>
          rw [(opn_eq hok).mpr ⟨p, rfl⟩] at he
          cases he
        | b0 => rfl
        | o => rfl
        | oA p => rfl
        | oAA p q => rfl
        | oB p => rfl
        | oBA p q => rfl
      rw [eb] at hR
      show xw.xr (errD cN _ [PyData.int ((st l).length : Int)].reverse) _
      rw [sT]
      exact bad (.int (l.length : Nat)) _ hR
end
end K05

set_option Elab.async false
set_option linter.all false
set_option maxRecDepth 100000
set_option maxHeartbeats 4000000
/-! K05j: the law's signs and letters -/
namespace K05
open PySem PySem.Spec L2 TL
/-! ### places, tests -/
abbrev nI : R1D := fun d R => match d with
  | .int i => R (.int (-i))
  | _ => False
theorem atI_back {l r : List PyData} {x : PyData} {n : Nat} (h : r.length + 1 = n) : atI (l ++ x :: r) (-(n : Int)) = some x := by
  unfold atI ixN
  have e : (l ++ x :: r).length = l.length + n := by rw [List.length_append, List.length_cons]; omega
  rw [if_neg (by omega), e, if_pos (by omega)]
  show (l ++ x :: r)[(-(n : Int) + ((l.length + n : Nat) : Int)).toNat]? = some x
  rw [show (-(n : Int) + ((l.length + n : Nat) : Int)).toNat = l.length by omega]
  simp
theorem atI_bk {l m : List PyData} {n : Nat} (hn : 0 < n) (h : n ≤ m.length) : atI (l ++ m) (-(n : Int)) = m[m.length - n]? := by
  unfold atI ixN
  have e : (l ++ m).length = l.length + m.length := List.length_append
  rw [if_neg (by omega), e, if_pos (by omega)]
  show (l ++ m)[(-(n : Int) + ((l.length + m.length : Nat) : Int)).toNat]? = _
  rw [show (-(n : Int) + ((l.length + m.length : Nat) : Int)).toNat = l.length + (m.length - n) by omega]
  rw [List.getElem?_append_right (by omega)]
  congr 1
  omega
theorem cut_back {l r : List PyData} {n : Nat} (h : r.length = n) (hn : 0 < n) : cutP (l ++ r) none (some (-(n : Int))) = l := by
  unfold cutP
  have e : (l ++ r).length = l.length + n := by rw [List.length_append, h]
  have e1 : HT.sIx (l ++ r).length 0 none = 0 := rfl
  have e2 : HT.sIx (l ++ r).length (l ++ r).length (some (-(n : Int))) = l.length := by
    rw [e]
    show (if -(n : Int) < 0 then (-(n : Int) + ((l.length + n : Nat) : Int)).toNat else _) = _
    rw [if_pos (by omega)]
    omega
  rw [e1, e2, List.drop_zero, Nat.sub_zero, List.take_left']
  rfl
theorem cut_tail (a : Nat) (ls : List Nat) : cutS (st (a :: ls)) (some 1) none = st ls := by
  have e : (st (a :: ls)).length = ls.length + 1 := st_len _
  unfold cutS
  rw [e]
  have e1 : HT.sIx (ls.length + 1) 0 (some 1) = 1 := by
    show (if (1 : Int) < 0 then ((1 : Int) + ((ls.length + 1 : Nat) : Int)).toNat else min (1 : Int).toNat (ls.length + 1)) = 1
    rw [if_neg (by decide)]
    show min 1 (ls.length + 1) = 1
    omega
  rw [e1]
  show st (((a :: ls).drop 1).take (ls.length + 1 - 1)) = st ls
  rw [List.drop_succ_cons, List.drop_zero, Nat.add_sub_cancel, List.take_length]
theorem ixV_at {i : Nat} {k : Int} {ds : List PyData} {x : PyData} {ub : DTE} {δ : List Sl} {R : DQ} (hs : δ[i]? = some (.dat (.list ds))) (hb : ub = dC (.int k) ∨ ∃ m : Int, k = -m ∧ ub = dUn nI (dC (.int m))) (h : atI ds k = some x) (q : R x δ) : dIxV i ub δ R := by
  have e : slL δ[i]? = some ds := by rw [hs]; rfl
  unfold dIxV
  refine ⟨by rw [e]; rfl, ?_⟩
  have fin : (match slL δ[i]?, PyData.int k with
    | some ds, .int k => (match atI ds k with
      | some x => R x δ
      | none => False)
    | _, _ => False) := by
    rw [e]
    show (match atI ds k with
      | some x => R x δ
      | none => False)
    rw [h]
    exact q
  rcases hb with rfl | ⟨m, rfl, rfl⟩
  · exact fin
  · exact fin
theorem op_at {rd : R2D} {ua ub : DTE} {δ : List Sl} {R : DQ} {a b : PyData} (hu : ∀ Q : DQ, Q a δ → ua δ Q) (hv : ∀ Q : DQ, Q b δ → ub δ Q) (k : rd a b fun d => R d δ) : dOp rd ua ub δ R := by
  dsimp only [dOp]
  exact hu _ (hv _ k)
theorem tst_op {rd : R2D} {ua ub : DTE} {δ : List Sl} {N : Bool → List Sl → Prop} {a b : PyData} (hu : ∀ Q : DQ, Q a δ → ua δ Q) (hv : ∀ Q : DQ, Q b δ → ub δ Q) (k : rd a b fun d => match d with
    | .bool b => N b δ
    | _ => False) : dTest (dOp rd ua ub) δ N := by
  dsimp only [dTest, dOp]
  exact hu _ (hv _ k)
theorem call_p {S : DSp} {ua : DCA} {δ : List Sl} {R : DQ} (ds : List PyData) (hu : ∀ Q : List CA → List Sl → Prop, Q (ds.map CA.d) δ → ua δ Q) (k : S (ds.map Sl.dat) fun d outs => outs = [] ∧ R d δ) (mono : MonoS S) : dCall S ua δ R := call_pure ds hu k (mono _)
/-- row[:-n] + [x] -/
theorem ret_cut {l r : List PyData} {x : PyData} {m : Int} {n : Nat} {δ : List Sl} {uc : DTE} {R : DQ} (hs : δ[0]? = some (.dat (.list (l ++ r)))) (hm : m = (n : Nat)) (hr : r.length = n) (hn : 0 < n) (hl : l.length ≤ 2000000) (hx : ∀ Q : DQ, Q x δ → uc δ Q) (k : R (.list (l ++ [x])) δ) :
    dOp dCat (dSl dSlL (dVar 0) dNoPart (dPart (dUn nI (dC (.int m))))) (dLst (dCons uc dNil)) δ R := by
  subst hm
  refine op_at (a := .list l) (b := .list [x]) (fun Q q => ?_) (fun Q q => ?_) ?_
  · dsimp only [dSl]
    refine var_at hs ?_
    dsimp only [dNoPart, dPart, dUn, dC, dSlL]
    show Q (.list (cutP (l ++ r) none (some (-(n : Int))))) δ
    rw [cut_back hr hn]
    exact q
  · dsimp only [dLst, dCons, dNil]
    exact hx _ ⟨nat_le_size (by show 1 ≤ 16777216; decide), q⟩
  exact ⟨nat_le_size (by show l.length + 1 ≤ _; omega), k⟩
/-- row + [x] -/
theorem ret_add {l : List PyData} {x : PyData} {δ : List Sl} {uc : DTE} {R : DQ} (hs : δ[0]? = some (.dat (.list l))) (hl : l.length ≤ 2000000) (hx : ∀ Q : DQ, Q x δ → uc δ Q) (k : R (.list (l ++ [x])) δ) : dOp dCat (dVar 0) (dLst (dCons uc dNil)) δ R := by
  refine op_at (a := .list l) (b := .list [x]) (fun Q q => var_at hs q) (fun Q q => ?_) ⟨nat_le_size (by show l.length + 1 ≤ _; omega), k⟩
  dsimp only [dLst, dCons, dNil]
  exact hx _ ⟨nat_le_size (by show 1 ≤ 16777216; decide), q⟩
theorem tup_at {i : Nat} {z : Str} {x : PyData} {δ : List Sl} {Q : DQ} (hv : δ[i]? = some (.dat x)) (q : Q (.tuple [.str z, x]) δ) : dTup (dCons (dC (.str z)) (dCons (dVar i) dNil)) δ Q := by
  dsimp only [dTup, dCons, dNil, dC]
  exact var_at hv ⟨nat_le_size (by show 2 ≤ 16777216; decide), q⟩
theorem ifs {t : DTT} {u u' : DTS} {E : DEnds} {δ : List Sl} {b : Bool} (ht : ∀ N : Bool → List Sl → Prop, N b δ → t δ N) (k : if b = true then u E δ else u' E δ) : dIfS t u u' E δ := ht _ k
/-- sign == "d" -/
theorem tst_sg {c d : Nat} {x : Str} {δ : List Sl} {N : Bool → List Sl → Prop} (hs : δ[1]? = some (.dat (.str (st [c])))) (hc : c < 1114112) (hx : x = st [d]) (hd : d < 1114112) (k : N (decide (c = d)) δ) : dTest (dOp dEq (dVar 1) (dC (.str x))) δ N := by
  subst hx
  dsimp only [dTest, dOp]
  refine var_at hs ⟨one_shaped hc, one_shaped hd, ?_⟩
  rw [ev_ss, st_eq]
  have e : decide ([c] = [d]) = decide (c = d) := decide_eq_decide.mpr ⟨fun e => (List.cons.inj e).1, fun e => by rw [e]⟩
  rw [e]
  exact k
theorem tst_sgN {c d : Nat} {x : Str} {δ : List Sl} {N : Bool → List Sl → Prop} (hs : δ[1]? = some (.dat (.str (st [c])))) (hc : c < 1114112) (hx : x = st [d]) (hd : d < 1114112) (k : N (!decide (c = d)) δ) : dTest (dOp dNe (dVar 1) (dC (.str x))) δ N := by
  subst hx
  dsimp only [dTest, dOp]
  refine var_at hs ⟨one_shaped hc, one_shaped hd, ?_⟩
  rw [ev_ss, st_eq]
  have e : decide ([c] = [d]) = decide (c = d) := decide_eq_decide.mpr ⟨fun e => (List.cons.inj e).1, fun e => by rw [e]⟩
  rw [e]
  exact k
/-- "a" <= sign <= "z" -/
theorem tst_az {c : Nat} {δ : List Sl} {N : Bool → List Sl → Prop} (hs : δ[1]? = some (.dat (.str (st [c])))) (k : N (small c) δ) : dTest (dChain (dS fun i j => !decide (j.cps.toList < i.cps.toList)) (dS fun i j => !decide (j.cps.toList < i.cps.toList)) (dC (.str (Str.ofString "a"))) (dVar 1) (dC (.str (Str.ofString "z")))) δ N := by
  dsimp only [dTest, dChain, dC]
  refine var_at hs ?_
  have e1 : (!decide ((st [c]).cps.toList < (Str.ofString "a").cps.toList)) = decide (97 ≤ c) := by
    rw [cps_a]
    have : decide ([c] < [97]) = decide (c < 97) := lt_one
    show (!decide ([c] < [97])) = _
    rw [this]
    by_cases h : c < 97
    · rw [decide_eq_true h, decide_eq_false (by omega)]
      rfl
    · rw [decide_eq_false h, decide_eq_true (by omega)]
      rfl
  have e2 : (!decide ((Str.ofString "z").cps.toList < (st [c]).cps.toList)) = decide (c ≤ 122) := by
    rw [cps_z]
    have : decide ([122] < [c]) = decide (122 < c) := lt_one
    show (!decide ([122] < [c])) = _
    rw [this]
    by_cases h : 122 < c
    · rw [decide_eq_true h, decide_eq_false (by omega)]
      rfl
    · rw [decide_eq_false h, decide_eq_true (by omega)]
      rfl
  unfold small at k
  show if (!decide ((st [c]).cps.toList < (Str.ofString "a").cps.toList)) = true then _ else _
  rw [e1]
  by_cases h1 : 97 ≤ c
  · rw [decide_eq_true h1, Bool.true_and] at k
    rw [if_pos (decide_eq_true h1)]
    show N (!decide ((Str.ofString "z").cps.toList < (st [c]).cps.toList)) δ
    rw [e2]
    exact k
  · rw [decide_eq_false h1, Bool.false_and] at k
    rw [if_neg (by rw [decide_eq_false h1]; decide)]
    exact k
/-! ### the sign that begins -/
def begX (c : Nat) : Option PyData := if c = 40 ∨ c = 91 then some (.str (st [c])) else if c = 95 then some (Pt.d .non) else if small c = true then some (Pt.d (.sgn (st [c]))) else none
def bgD (row : List PyData) (c : Nat) : PyData := match begX c with
  | some x => .list (row ++ [x])
  | none => .none
def S_begins : DSp := fun as R => ∃ (row : List PyData) (c : Nat), as = [.dat (.list row), .dat (.str (st [c]))] ∧ c < 1114112 ∧ row.length ≤ 1000000 ∧ R (bgD row c) []
theorem mono_begins : MonoS S_begins := fun as R R' h ⟨l, c, a, e, b, k⟩ => ⟨l, c, a, e, b, h _ _ k⟩
/-- .. that follows letters -/
def ltD (X : List PyData) (ls : List Nat) (c : Nat) : PyData := if c = 93 ∧ 1 < ls.length then .list (X ++ [Pt.d (.sgn (st ls))]) else if canF ls c = true then .list (X ++ [.str (st (91 :: (ls ++ [c])))]) else .none
def S_lettered : DSp := fun as R => ∃ (X : List PyData) (ls : List Nat) (c : Nat), as = [.dat (.list (X ++ [.str (st (91 :: ls))])), .dat (.str (st [c]))] ∧ (c < 1114112 ∧ ∀ a ∈ ls, a < 1114112) ∧ (X.length ≤ 1000000 ∧ ls.length ≤ 8) ∧ R (ltD X ls c) []
theorem mono_lettered : MonoS S_lettered := fun as R R' h ⟨X, l, c, a, e, b, k⟩ => ⟨X, l, c, a, e, b, h _ _ k⟩
def S_is (n : Nat) : DSp := fun as R => ∃ p : Pt, as = [.dat p.d] ∧ p.good = true ∧ p.deep ≤ n ∧ R (.bool (inB p)) []
theorem mono_is (n : Nat) : MonoS (S_is n) := fun as R R' h ⟨p, a, e, b, k⟩ => ⟨p, a, e, b, h _ _ k⟩
abbrev s_law_is : Stmt := top 40
theorem sc_law_is : FnScope ["_law_thing", "_law_sizes_here"] ["_law_thing"] (defScope s_law_is) := ⟨rfl, rfl, rfl, by decide +kernel, rfl, by decide +kernel, by decide +kernel⟩
abbrev s_law_begins : Stmt := top 43
theorem sc_law_begins : FnScope ["_law_row", "_law_sign"] ["_law_row", "_law_sign"] (defScope s_law_begins) := ⟨rfl, rfl, rfl, by decide +kernel, rfl, by decide +kernel, by decide +kernel⟩
abbrev s_law_lettered : Stmt := top 44
theorem sc_law_lettered : FnScope ["_law_row", "_law_sign", "_law_ahead"] ["_law_row", "_law_sign"] (defScope s_law_lettered) := ⟨rfl, rfl, rfl, by decide +kernel, rfl, by decide +kernel, by decide +kernel⟩
section
variable {P : Program} {w : World} {K : PySem.W.Frag} {mg : Str → Option Value} {base : Heap}
variable (m_len : mg "len" = none) (m_isinstance : mg "isinstance" = none) (m_str : mg "str" = none) (m_bool : mg "bool" = none) (m_range : mg "range" = none) (m_int : mg "int" = none) (m_max : mg "max" = none) (m_min : mg "min" = none)
  (m_sum : mg "sum" = none) (m_sorted : mg "sorted" = none) (m_set : mg "set" = none) (m_tuple : mg "tuple" = none) (m_repr : mg "repr" = none) (m_ValueError : mg "ValueError" = none)
include m_len m_isinstance m_str m_bool m_range m_int m_max m_min m_sum m_sorted m_set m_tuple m_repr m_ValueError
theorem ok_law_is {f : Addr} {fd : FuncData} (F : Fun K "_law_is" "_law_is" s_law_is f fd) (n : Nat) (k_law_sizes : Kn P w K mg base (n + 1) "_law_sizes" (S_sizes n)) : FnOkG P w K mg base CX0 (n + 2) f fd ["_law_thing"] (spD K (S_is n)) := by
  refine fnD F sc_law_is (fun as R h => by obtain ⟨_, rfl, _⟩ := h; rfl) fun cdv A outer s H E hr => ?_
  have nd := sc_law_is.nd
  have hu := hr.units
  have hu1 := hr.units1
  refine ⟨_, _, (dss_cons (ds_set 1 nd (de_call k_law_sizes hr (by omega) (dca_d (de_var 0) dca_nil)))
    (dss_one (ds_ret (de_and (de_cmp op_notN ro_notN (nomark _) (de_var 1) de_non) (de_and (de_cmp op_le ro_B (nomark _) (de_ixV 1 de_int) de_int) (de_and (de_cmp op_le ro_B (nomark _) (de_ixV 1 de_int) de_int) (de_one (de_cmp op_le ro_B (nomark _) (de_ixV 1 de_int) de_int)))))))), ?_⟩
  rintro as R ⟨p, rfl, hg, hd, hR⟩
  dsimp only [dSeq, dAsg, dgName]
  refine call_p [p.d] (fun Q q => q) ⟨p, rfl, hg, hd, rfl, ?_⟩ (mono_sizes n)
  have e1 : decide (((p.leaves : Nat) : Int) ≤ 11) = decide (p.leaves ≤ 11) := decide_eq_decide.mpr (by omega)
  have e2 : decide (((p.parts : Nat) : Int) ≤ 40) = decide (p.parts ≤ 40) := decide_eq_decide.mpr (by omega)
  have e3 : decide (((p.deep : Nat) : Int) ≤ 12) = decide (p.deep ≤ 12) := decide_eq_decide.mpr (by omega)
  have e0 : inB p = (decide (((p.leaves : Nat) : Int) ≤ 11) && (decide (((p.parts : Nat) : Int) ≤ 40) && decide (((p.deep : Nat) : Int) ≤ 12))) := by
    rw [e1, e2, e3]
    rfl
  rw [e0] at hR
  have hr1 : ([Sl.dat p.d, Sl.dat p.tri] : List Sl)[1]? = some (.dat (.list (p.nums.map PyData.int))) := rfl
  dsimp only [dRet, dAndV, dOp]
  refine var_at (d := p.tri) rfl ?_
  show dIxV 1 (dC (.int 0)) _ _
  refine ixV_at hr1 (.inl rfl) (nums0 p) ?_
  show if decide (((p.leaves : Nat) : Int) ≤ 11) = true then _ else _
  cases h1 : decide (((p.leaves : Nat) : Int) ≤ 11) with
  | false =>
    rw [h1, Bool.false_and] at hR
    exact ⟨[], hR, outs0⟩
  | true =>
    rw [h1, Bool.true_and] at hR
    show dIxV 1 (dC (.int 1)) _ _
    refine ixV_at hr1 (.inl rfl) (nums1 p) ?_
    show if decide (((p.parts : Nat) : Int) ≤ 40) = true then _ else _
    cases h2 : decide (((p.parts : Nat) : Int) ≤ 40) with
    | false =>
      rw [h2, Bool.false_and] at hR
      exact ⟨[], hR, outs0⟩
    | true =>
      rw [h2, Bool.true_and] at hR
      show dIxV 1 (dC (.int 2)) _ _
      exact ixV_at hr1 (.inl rfl) (nums2 p) ⟨[], hR, outs0⟩
theorem ok_law_begins {f : Addr} {fd : FuncData} (F : Fun K "_law_begins" "_law_begins" s_law_begins f fd)  : FnOkG P w K mg base CX0 1 f fd ["_law_row", "_law_sign"] (spD K S_begins) := by
  refine fnD F sc_law_begins (fun as R h => by obtain ⟨_, _, rfl, _⟩ := h; rfl) fun cdv A outer s H E hr => ?_
  have nd := sc_law_begins.nd
  have hu := hr.units
  have hu1 := hr.units1
  refine ⟨_, _, (dss_cons (ds_if (dt_w (dw_or (dt_cmp (op_eqD hu) ro_eq (nomark _) (de_var 1) de_str) (dw_or1 (dt_cmp (op_eqD hu) ro_eq (nomark _) (de_var 1) de_str)))) (dss_one (ds_ret (de_op op_cat ro_cat (de_var 0) (de_lst (da_cons (de_var 1) da_nil))))) dss_nil)
    (dss_cons (ds_if (dt_cmp (op_eqD hu) ro_eq (nomark _) (de_var 1) de_str) (dss_one (ds_ret (de_op op_cat ro_cat (de_var 0) (de_lst (da_cons (de_tup (da_cons de_str da_nil)) da_nil))))) dss_nil)
    (dss_cons (ds_if (dt_chain op_le_str ro_S op_le_str ro_S de_str (de_var 1) de_str) (dss_one (ds_ret (de_op op_cat ro_cat (de_var 0) (de_lst (da_cons (de_tup (da_cons de_str (da_cons (de_var 1) da_nil))) da_nil))))) dss_nil)
    (dss_one (ds_ret de_non))))), ?_⟩
  rintro as R ⟨row, c, rfl, hc, hl, hR⟩
  unfold bgD begX at hR
  dsimp only [dSeq, dOr]
  have hv : ([Sl.dat (.list row), Sl.dat (.str (st [c]))] : List Sl)[1]? = some (.dat (.str (st [c]))) := rfl
  have h0 : ([Sl.dat (.list row), Sl.dat (.str (st [c]))] : List Sl)[0]? = some (.dat (.list row)) := rfl
  refine ifs (b := decide (c = 40 ∨ c = 91)) (fun N n => ?_) ?_
  · refine tst_sg hv hc c_opn (by decide) ?_
    by_cases h : c = 40
    · rw [decide_eq_true (show c = 40 ∨ c = 91 from .inl h)] at n
      rw [decide_eq_true h]
      exact n
    · rw [decide_eq_false h]
      refine tst_sg hv hc c_lb (by decide) ?_
      rw [show decide (c = 91) = decide (c = 40 ∨ c = 91) from decide_eq_decide.mpr (by simp [h])]
      exact n
  by_cases h1 : c = 40 ∨ c = 91
  · rw [if_pos h1] at hR
    rw [if_pos (decide_eq_true h1)]
    dsimp only [dRet]
    exact ret_add h0 (by omega) (fun Q q => var_at hv q) ⟨[], hR, outs0⟩
  rw [if_neg h1] at hR
  rw [if_neg (by rw [decide_eq_false h1]; decide)]
  dsimp only [dNext]
  refine ifs (b := decide (c = 95)) (fun N n => tst_sg hv hc c_und (by decide) n) ?_
  by_cases h2 : c = 95
  · rw [if_pos h2] at hR
    rw [if_pos (decide_eq_true h2)]
    dsimp only [dRet]
    exact ret_add (x := Pt.d .non) h0 (by omega) (fun Q q => ⟨nat_le_size (by show 1 ≤ 16777216; decide), q⟩) ⟨[], hR, outs0⟩
  rw [if_neg h2] at hR
  rw [if_neg (by rw [decide_eq_false h2]; decide)]
  dsimp only [dNext]
  refine ifs (b := small c) (fun N n => tst_az hv n) ?_
  by_cases h3 : small c = true
  · rw [if_pos h3] at hR
    rw [if_pos h3]
    dsimp only [dRet]
    exact ret_add (x := Pt.d (.sgn (st [c]))) h0 (by omega) (fun Q q => tup_at hv q) ⟨[], hR, outs0⟩
  rw [if_neg h3] at hR
  rw [if_neg h3]
  exact ⟨[], hR, outs0⟩
theorem ok_law_lettered {f : Addr} {fd : FuncData} (F : Fun K "_law_lettered" "_law_lettered" s_law_lettered f fd)  : FnOkG P w K mg base CX0 1 f fd ["_law_row", "_law_sign"] (spD K S_lettered) := by
  refine fnD F sc_law_lettered (fun as R h => by obtain ⟨_, _, _, rfl, _⟩ := h; rfl) fun cdv A outer s H E hr => ?_
  have nd := sc_law_lettered.nd
  have hu := hr.units
  have hu1 := hr.units1
  refine ⟨_, _, (dss_cons (ds_set 2 nd (de_sl sl_str rsl_str (de_ixV 0 (de_un un_neg r1_neg de_int)) (do_some de_int) do_none))
    (dss_cons (ds_if (dt_w (dw_and (dt_cmp (op_eqD hu) ro_eq (nomark _) (de_var 1) de_str) (dw_and1 (dt_cmp op_gt ro_B (nomark _) (de_len (ps := default) m_len (de_var 2)) de_int)))) (dss_one (ds_ret (de_op op_cat ro_cat (de_sl sl_list rsl_list (de_var 0) do_none (do_some (de_un un_neg r1_neg de_int))) (de_lst (da_cons (de_tup (da_cons de_str (da_cons (de_var 2) da_nil))) da_nil))))) dss_nil)
    (dss_cons (ds_if (dt_w (dw_or (dt_not (dt_chain op_le_str ro_S op_le_str ro_S de_str (de_var 1) de_str)) (dw_or (dt_cmp (op_eqD hu) ro_eq (nomark _) (de_len (ps := default) m_len (de_var 2)) de_int) (dw_or1 (dt_w (dw_and (dt_cmp (op_neD hu) ro_ne (nomark _) (de_var 2) de_str) (dw_and1 (dt_cmp op_ge_str ro_S (nomark _) (de_ix ix_str ro_ixS (de_var 2) (de_un un_neg r1_neg de_int)) (de_var 1))))))))) (dss_one (ds_ret de_non)) dss_nil)
    (dss_cons (ds_if (dt_w (dw_and (dt_cmp (op_eqD hu) ro_eq (nomark _) (de_var 2) de_str) (dw_and1 (dt_cmp (op_eqD hu) ro_eq (nomark _) (de_var 1) de_str)))) (dss_one (ds_ret de_non)) dss_nil)
    (dss_one (ds_ret (de_op op_cat ro_cat (de_sl sl_list rsl_list (de_var 0) do_none (do_some (de_un un_neg r1_neg de_int))) (de_lst (da_cons (de_op op_add_str ro_addS (de_ixV 0 (de_un un_neg r1_neg de_int)) (de_var 1)) da_nil))))))))), ?_⟩
  rintro as R ⟨X, ls, c, rfl, ⟨hc, ha⟩, ⟨hl, hl8⟩, hR⟩
  have ll : (st ls).length = ls.length := st_len ls
  have l1 : (st (91 :: ls)).length = ls.length + 1 := st_len _
  dsimp only [dSeq, dAsg, dgName]
  have last : atI (X ++ [PyData.str (st (91 :: ls))]) (-1) = some (.str (st (91 :: ls))) := atI_last _ _
  refine ixV_at rfl (.inr ⟨1, rfl, rfl⟩) last ?_
  show (st (91 :: ls)).length ≤ sizeLine ∧ _
  refine ⟨nat_le_size (by omega), ?_⟩
  rw [cut_tail]
  show dIfS _ _ _ _ [Sl.dat (.list (X ++ [PyData.str (st (91 :: ls))])), Sl.dat (.str (st [c])), Sl.dat (.str (st ls))]
  generalize hδ : ([Sl.dat (.list (X ++ [PyData.str (st (91 :: ls))])), Sl.dat (.str (st [c])), Sl.dat (.str (st ls))] : List Sl) = δ
  have h0 : δ[0]? = some (.dat (.list (X ++ [PyData.str (st (91 :: ls))]))) := by rw [← hδ]; rfl
  have hv : δ[1]? = some (.dat (.str (st [c]))) := by rw [← hδ]; rfl
  have h2 : δ[2]? = some (.dat (.str (st ls))) := by rw [← hδ]; rfl
  have eR : ∀ d, R d [] → (endsOf R).rt d δ := fun d h => ⟨[], h, outs0⟩
  unfold ltD at hR
  have len : ∀ (N : DQ), N (.int (ls.length : Nat)) δ → dLen (dVar 2) δ N := fun N n => by
    refine var_at h2 ⟨nat_le_size (by omega), ?_⟩
    rw [ll]
    exact n
  refine ifs (b := decide (c = 93 ∧ 1 < ls.length)) (fun N n => ?_) ?_
  · refine tst_sg hv hc c_rb (by decide) ?_
    by_cases h : c = 93
    · rw [decide_eq_true h, if_pos rfl]
      refine tst_op (a := .int (ls.length : Nat)) (b := .int 1) (fun Q q => len Q q) (fun Q q => q) ?_
      show N (decide (((ls.length : Nat) : Int) > 1)) δ
      rw [show decide (((ls.length : Nat) : Int) > 1) = decide (c = 93 ∧ 1 < ls.length) from decide_eq_decide.mpr (by omega)]
      exact n
    · rw [decide_eq_false h]
      rw [decide_eq_false (fun e => h e.1)] at n
      exact n
  by_cases h1 : c = 93 ∧ 1 < ls.length
  · rw [if_pos h1] at hR
    rw [if_pos (decide_eq_true h1)]
    dsimp only [dRet]
    exact ret_cut (n := 1) h0 rfl rfl (by decide) (by omega) (fun Q q => tup_at h2 q) (eR _ hR)
  rw [if_neg h1] at hR
  rw [if_neg (by rw [decide_eq_false h1]; decide)]
  dsimp only [dNext, dSeq]
  have lastN : ∀ (N : Bool → List Sl → Prop) (a : List Nat) (b : Nat), ls = a ++ [b] → N (decide (c ≤ b)) δ → dTest (dOp (dS fun i j => !decide (i.cps.toList < j.cps.toList)) (dOp dIxS (dVar 2) (dUn nI (dC (.int 1)))) (dVar 1)) δ N := fun N a b e n => by
    dsimp only [dTest, dOp, dUn, dC]
    refine var_at h2 ⟨nat_le_size (by omega), ?_⟩
    show (match atI ls (-1) with
      | some c => _
      | none => False)
    have e3 : atI ls (-1) = some b := by
      rw [e]
      unfold atI ixN
      rw [if_neg (by decide), if_pos (by rw [List.length_append, List.length_singleton]; omega)]
      rw [List.length_append, List.length_singleton, show (-1 + ((a.length + 1 : Nat) : Int)).toNat = a.length by omega]
      simp
    rw [e3]
    refine var_at hv ?_
    show N (!decide ((st [b]).cps.toList < (st [c]).cps.toList)) δ
    have e4 : decide ((st [b]).cps.toList < (st [c]).cps.toList) = decide (b < c) := lt_one
    rw [e4]
    rw [show (!decide (b < c)) = decide (c ≤ b) by
      by_cases h : b < c
      · rw [decide_eq_true h, decide_eq_false (by omega)]; rfl
      · rw [decide_eq_false h, decide_eq_true (by omega)]; rfl]
    exact n
  have sh2 : SeqAt.shaped (.str (st ls)) = true := sh_st ha
  have she : SeqAt.shaped (.str (Str.ofString "")) = true := by decide +kernel
  have emp : PyData.eqv (.str (st ls)) (.str (Str.ofString "")) = decide (ls = []) := by rw [ev_ss, c_e, st_eq]
  have tS : ∀ N : Bool → List Sl → Prop, N (!small c) δ → dNot (dTest (dChain (dS fun i j => !decide (j.cps.toList < i.cps.toList)) (dS fun i j => !decide (j.cps.toList < i.cps.toList)) (dC (.str (Str.ofString "a"))) (dVar 1) (dC (.str (Str.ofString "z"))))) δ N := fun N n => tst_az hv n
  have t8 : ∀ N : Bool → List Sl → Prop, N (decide (ls.length = 8)) δ → dTest (dOp dEq (dLen (dVar 2)) (dC (.int 8))) δ N := fun N n => tst_op (a := .int (ls.length : Nat)) (b := .int 8) (fun Q q => len Q q) (fun Q q => q) ⟨rfl, rfl, by
    rw [ev_ii]
    have e : (((ls.length : Nat) : Int) == 8) = decide (ls.length = 8) := by
      by_cases h : ls.length = 8
      · rw [decide_eq_true h, h]; rfl
      · rw [decide_eq_false h]
        exact beq_eq_false_iff_ne.mpr (by omega)
    rw [e]
    exact n⟩
  have tE : ∀ N : Bool → List Sl → Prop, N (decide (ls = [])) δ → dTest (dOp dEq (dVar 2) (dC (.str (Str.ofString "")))) δ N := fun N n => tst_op (a := .str (st ls)) (b := .str (Str.ofString "")) (fun Q q => var_at h2 q) (fun Q q => q) ⟨sh2, she, by rw [emp]; exact n⟩
  have tN : ∀ N : Bool → List Sl → Prop, N (!decide (ls = [])) δ → dTest (dOp dNe (dVar 2) (dC (.str (Str.ofString "")))) δ N := fun N n => tst_op (a := .str (st ls)) (b := .str (Str.ofString "")) (fun Q q => var_at h2 q) (fun Q q => q) ⟨sh2, she, by rw [emp]; exact n⟩
  unfold canF at hR
  cases h3 : small c with
  | false =>
    rw [h3] at hR
    refine ifs (b := true) (fun N n => tS _ (by rw [h3]; exact n)) ?_
    exact eR _ hR
  | true =>
    rw [h3, Bool.true_and] at hR
    by_cases h8 : ls.length = 8
    · rw [decide_eq_true h8] at hR
      refine ifs (b := true) (fun N n => tS _ (by rw [h3]; exact t8 _ (by rw [decide_eq_true h8]; exact n))) ?_
      exact eR _ hR
    rw [decide_eq_false h8, Bool.not_false, Bool.true_and] at hR
    have fin : ∀ z : PyData, z = .list (X ++ [.str (st (91 :: (ls ++ [c])))]) → R z [] → dRet (dOp dCat (dSl dSlL (dVar 0) dNoPart (dPart (dUn nI (dC (.int 1))))) (dLst (dCons (dOp dAddS (dIxV 0 (dUn nI (dC (.int 1)))) (dVar 1)) dNil))) (endsOf R) δ := fun z hz hR => by
      subst hz
      dsimp only [dRet]
      refine ret_cut (n := 1) h0 rfl rfl (by decide) (by omega) (fun Q q => ?_) (eR _ hR)
      refine ixV_at h0 (.inr ⟨1, rfl, rfl⟩) last ?_
      refine var_at hv ?_
      have lc : (st [c]).length = 1 := rfl
      refine ⟨nat_le_size (by omega), ?_⟩
      rw [st_app]
      exact q
    rcases List.eq_nil_or_concat ls with e | ⟨a, b, e⟩
    · have hR : R (if decide (c < 122) = true then .list (X ++ [.str (st (91 :: (ls ++ [c])))]) else .none) [] := by
        rw [e] at hR ⊢
        exact hR
      refine ifs (b := false) (fun N n => tS _ (by rw [h3]; exact t8 _ (by rw [decide_eq_false h8]; exact tN _ (by rw [decide_eq_true e]; exact n)))) ?_
      rw [if_neg (by decide)]
      dsimp only [dNext]
      have sm := small_ne h3
      refine ifs (b := decide (c = 122)) (fun N n => tE _ (by rw [decide_eq_true e]; exact tst_sg hv hc c_z (by decide) n)) ?_
      by_cases hz : c = 122
      · rw [if_pos (decide_eq_true hz)]
        rw [if_neg (by rw [decide_eq_false (by omega)]; decide)] at hR
        exact eR _ hR
      · rw [if_neg (by rw [decide_eq_false hz]; decide)]
        rw [if_pos (decide_eq_true (by omega))] at hR
        exact fin _ rfl hR
    · rw [List.concat_eq_append] at e
      have hR : R (if decide (b < c) = true then .list (X ++ [.str (st (91 :: (ls ++ [c])))]) else .none) [] := by
        have e2 : ls.getLast? = some b := by rw [e]; simp
        rw [e2] at hR
        exact hR
      have ne : ls ≠ [] := by rw [e]; simp
      refine ifs (b := decide (c ≤ b)) (fun N n => tS _ (by rw [h3]; exact t8 _ (by rw [decide_eq_false h8]; exact tN _ (by rw [decide_eq_false ne]; exact lastN _ a b e n)))) ?_
      by_cases hb : c ≤ b
      · rw [if_pos (decide_eq_true hb)]
        rw [if_neg (by rw [decide_eq_false (by omega)]; decide)] at hR
        exact eR _ hR
      · rw [if_neg (by rw [decide_eq_false hb]; decide)]
        rw [if_pos (decide_eq_true (by omega))] at hR
        dsimp only [dNext]
        refine ifs (b := false) (fun N n => tE _ (by rw [decide_eq_false ne]; exact n)) ?_
        rw [if_neg (by decide)]
        exact fin _ rfl hR
end
end K05

set_option Elab.async false
set_option linter.all false
set_option maxRecDepth 100000
set_option maxHeartbeats 4000000
/-! K05k: the law's step -/
namespace K05
open PySem PySem.Spec L2 TL
/-! ### rows lie -/
theorem layA : ∀ {a b : List PyData}, PyData.canLayAll0 a = true → PyData.canLayAll0 b = true → PyData.canLayAll0 (a ++ b) = true
  | [], _, _, h => h
  | x :: r, b, h1, h2 => by
    have h1 : (x.canLay0 && PyData.canLayAll0 r) = true := h1
    rw [Bool.and_eq_true] at h1
    show (x.canLay0 && PyData.canLayAll0 (r ++ b)) = true
    rw [h1.1, layA h1.2 h2]
    rfl
theorem lay1 {x : PyData} (h : x.canLay0 = true) : PyData.canLayAll0 [x] = true := by
  show (x.canLay0 && true) = true
  rw [h]
  rfl
theorem lay_opn : Fr.opn.canLay0 = true := by decide +kernel
theorem lay_mid : Fr.mid.canLay0 = true := by decide +kernel
theorem lay_str {l : List Nat} (h : ∀ c ∈ l, c < 1114112) : PyData.canLay0 (.str (st l)) = true := strOk_of h
theorem lay_fr {f : Fr} (h : ∀ p ∈ f.ps, p.good = true) : PyData.canLayAll0 f.row = true := by
  cases f with
  | b0 => rfl
  | bA p => exact lay1 (Pt.lay p (h p (by simp [Fr.ps])))
  | o => exact lay1 lay_opn
  | oA p => exact layA (a := [Fr.opn]) (lay1 lay_opn) (lay1 (Pt.lay p (h p (by simp [Fr.ps]))))
  | oAA p q => exact layA (a := [Fr.opn]) (lay1 lay_opn) (layA (a := [p.d]) (lay1 (Pt.lay p (h p (by simp [Fr.ps])))) (lay1 (Pt.lay q (h q (by simp [Fr.ps])))))
  | oB p => exact layA (a := [Fr.opn]) (lay1 lay_opn) (layA (a := [p.d]) (lay1 (Pt.lay p (h p (by simp [Fr.ps])))) (lay1 lay_mid))
  | oBA p q => exact layA (a := [Fr.opn]) (lay1 lay_opn) (layA (a := [p.d]) (lay1 (Pt.lay p (h p (by simp [Fr.ps])))) (layA (a := [Fr.mid]) (lay1 lay_mid) (lay1 (Pt.lay q (h q (by simp [Fr.ps]))))))
theorem lay_rowF : ∀ {fs : List Fr}, (∀ f ∈ fs, ∀ p ∈ f.ps, p.good = true) → PyData.canLayAll0 (rowF fs) = true
  | [], _ => rfl
  | f :: fs, h => layA (lay_rowF fun g hg => h g (List.mem_cons_of_mem _ hg)) (lay_fr (h f List.mem_cons_self))
theorem rises_small {ls : List Nat} (h : rises ls = true) : ∀ a ∈ ls, a < 1114112 := fun a ha => by
  unfold rises at h
  rw [Bool.and_eq_true, Bool.and_eq_true] at h
  have := small_ne (List.all_eq_true.mp h.1.1 a ha)
  omega
theorem rises_len {ls : List Nat} (h : rises ls = true) : ls.length ≤ 8 := by
  unfold rises at h
  rw [Bool.and_eq_true, decide_eq_true_iff] at h
  exact h.2
theorem lay_row {b : Nat} {s : State} (g : Good b s) : PyData.canLayAll0 (rowS s) = true := by
  obtain ⟨fs, o⟩ := s
  have h1 : PyData.canLayAll0 (rowF fs) = true := lay_rowF fun f hf p hp => (g.ps f hf p hp).1
  cases o with
  | none => exact h1
  | some ls =>
    refine layA h1 (lay1 (lay_str fun c hc => ?_))
    rcases List.mem_cons.mp hc with e | hc
    · rw [e]; decide
    · exact rises_small (g.ls ls rfl).1 c hc
/-! ### the step's tests -/
theorem eqv_nil (row : List PyData) : PyData.eqv (.list row) (.list []) = row.isEmpty := by
  cases row with
  | nil => rfl
  | cons x r =>
    rw [PyData.eqv]
    show PyData.eqvAll (x :: r) [] = false
    rw [PyData.eqvAll]
    all_goals (first | rfl | (intros; simp_all))
theorem tst_w (neg : Bool) {row : List PyData} {δ : List Sl} {N : Bool → List Sl → Prop} (hs : δ[0]? = some (.dat (.list row))) (hl : PyData.canLayAll0 row = true) (k : N (if neg = true then !row.isEmpty else row.isEmpty) δ) : dTest (dOp (dEqW neg) (dVar 0) (dLst dNil)) δ N := by
  dsimp only [dTest, dOp]
  refine var_at hs ⟨nat_le_size (by show 0 ≤ 16777216; decide), ⟨hl, rfl, ?_⟩, ?_⟩
  · show min _ 1 ≤ 64
    omega
  · rw [eqv_nil]
    exact k
theorem depS (z : Str) : PyData.depth (.str z) = 0 := rfl
theorem tst_back {n : Nat} {m : Int} {row : List PyData} {x : PyData} {z : Str} {b : Bool} {δ : List Sl} {N : Bool → List Sl → Prop} (hs : δ[0]? = some (.dat (.list row))) (hm : m = (n : Nat)) (h : atI row (-(n : Int)) = some x) (hl : x.canLay0 = true) (hz : PyData.canLay0 (.str z) = true) (e : PyData.eqv x (.str z) = b) (k : N b δ) :
    dTest (dOp (dEqW false) (dIxV 0 (dUn nI (dC (.int m)))) (dC (.str z))) δ N := by
  subst hm
  refine ixV_at hs (.inr ⟨(n : Int), rfl, rfl⟩) h ⟨⟨hl, hz, ?_⟩, ?_⟩
  · rw [depS]
    omega
  · show N (PyData.eqv x (.str z)) δ
    rw [e]
    exact k
abbrev T1 : DTT := dAnd (dTest (dOp (dEqW true) (dVar 0) (dLst dNil))) (dAnd (dTest (dIsi "str" (dIxV 0 (dUn nI (dC (.int 1)))))) (dTest (dOp dEq (dOp dIxS (dIxV 0 (dUn nI (dC (.int 1)))) (dC (.int 0))) (dC (.str (Str.ofString "["))))))
abbrev T2 : DTT := dOr (dTest (dOp (dEqW false) (dVar 0) (dLst dNil))) (dTest (dOp dInW (dIxV 0 (dUn nI (dC (.int 1)))) (dTup (dCons (dC (.str (Str.ofString "("))) (dCons (dC (.str (Str.ofString "|"))) dNil)))))
theorem ne_app (X : List PyData) (x : PyData) : (X ++ [x]).isEmpty = false := by cases X <;> rfl
theorem t1_nil {δ : List Sl} {N : Bool → List Sl → Prop} (hs : δ[0]? = some (.dat (.list []))) (k : N false δ) : T1 δ N := tst_w true hs rfl k
theorem t1_tup {X ds : List PyData} {δ : List Sl} {N : Bool → List Sl → Prop} (hs : δ[0]? = some (.dat (.list (X ++ [.tuple ds])))) (hl : PyData.canLayAll0 (X ++ [.tuple ds]) = true) (k : N false δ) : T1 δ N := by
  refine tst_w true hs hl ?_
  rw [ne_app]
  show dAnd (dTest (dIsi "str" (dIxV 0 (dUn nI (dC (.int 1)))))) _ δ N
  refine ixV_at hs (.inr ⟨1, rfl, rfl⟩) (atI_last _ _) ?_
  show (match kitB "tuple" "str" with
    | some b => _
    | none => False)
  rw [kb_ts]
  exact k
theorem t1_str {X : List PyData} {d : Nat} {r : List Nat} {δ : List Sl} {N : Bool → List Sl → Prop} (hs : δ[0]? = some (.dat (.list (X ++ [.str (st (d :: r))])))) (hl : PyData.canLayAll0 (X ++ [.str (st (d :: r))]) = true) (hd : d < 1114112) (hr : r.length ≤ 1000) (k : N (decide (d = 91)) δ) : T1 δ N := by
  refine tst_w true hs hl ?_
  rw [ne_app]
  show dAnd (dTest (dIsi "str" (dIxV 0 (dUn nI (dC (.int 1)))))) _ δ N
  refine ixV_at hs (.inr ⟨1, rfl, rfl⟩) (atI_last _ _) ?_
  show (match kitB "str" "str" with
    | some b => _
    | none => False)
  rw [kb_ss]
  show (if true = true then _ else _)
  rw [if_pos rfl]
  dsimp only [dTest, dOp]
  refine ixV_at hs (.inr ⟨1, rfl, rfl⟩) (atI_last _ _) ?_
  have e : (st (d :: r)).length = r.length + 1 := st_len _
  refine ⟨nat_le_size (by omega), ?_⟩
  show (match atI (d :: r) 0 with
    | some c => _
    | none => False)
  rw [at0]
  refine ⟨one_shaped hd, by decide +kernel, ?_⟩
  show N (PyData.eqv (.str (st [d])) (.str (Str.ofString "["))) δ
  rw [c_lb, ev_ss, st_eq]
  rw [show decide ([d] = [91]) = decide (d = 91) from decide_eq_decide.mpr ⟨fun e => (List.cons.inj e).1, fun e => by rw [e]⟩]
  exact k
theorem lay_two : PyData.canLayAll0 [.str (Str.ofString "("), .str (Str.ofString "|")] = true := by decide +kernel
theorem t2_nil {δ : List Sl} {N : Bool → List Sl → Prop} (hs : δ[0]? = some (.dat (.list []))) (k : N true δ) : T2 δ N := tst_w false hs rfl k
theorem t2_last {X : List PyData} {x : PyData} {b : Bool} {δ : List Sl} {N : Bool → List Sl → Prop} (hs : δ[0]? = some (.dat (.list (X ++ [x])))) (hl : PyData.canLayAll0 (X ++ [x]) = true) (hx : x.canLay0 = true) (e : ([.str (Str.ofString "("), .str (Str.ofString "|")].any fun y => PyData.eqv y x) = b) (k : N b δ) : T2 δ N := by
  refine tst_w false hs hl ?_
  rw [ne_app]
  show (if false = true then _ else _)
  rw [if_neg (by decide)]
  dsimp only [dTest, dOp]
  refine ixV_at hs (.inr ⟨1, rfl, rfl⟩) (atI_last _ _) ?_
  refine ⟨nat_le_size (by show 2 ≤ 16777216; decide), ⟨hx, lay_two, ?_⟩, ?_⟩
  · show min 0 _ ≤ 64
    omega
  · show N _ δ
    rw [e]
    exact k
theorem e_tS (ds : List PyData) (z : Str) : PyData.eqv (.tuple ds) (.str z) = false := by
  rw [PyData.eqv]
  all_goals (first | rfl | (intros; simp_all))
theorem e_St (ds : List PyData) (z : Str) : PyData.eqv (.str z) (.tuple ds) = false := by
  rw [PyData.eqv]
  all_goals (first | rfl | (intros; simp_all))
theorem d_tup (p : Pt) : ∃ ds, p.d = .tuple ds := ⟨_, Pt.d_eq p⟩
theorem in_tup (p : Pt) : ([PyData.str (Str.ofString "("), .str (Str.ofString "|")].any fun y => PyData.eqv y p.d) = false := by
  obtain ⟨ds, e⟩ := d_tup p
  rw [e]
  simp [e_St]
theorem in_opn : ([PyData.str (Str.ofString "("), .str (Str.ofString "|")].any fun y => PyData.eqv y Fr.opn) = true := by decide +kernel
theorem in_mid : ([PyData.str (Str.ofString "("), .str (Str.ofString "|")].any fun y => PyData.eqv y Fr.mid) = true := by decide +kernel
theorem eqv_dS (p : Pt) (z : Str) : PyData.eqv p.d (.str z) = false := by
  obtain ⟨ds, e⟩ := d_tup p
  rw [e]
  exact e_tS _ _
/-! ### what the state becomes -/
def oD : Option State → PyData
  | none => .none
  | some s => .list (rowS s)
theorem row_put {f : Fr} (h : f.beg = true) (x : Pt) (fs : List Fr) : rowF (f.put x :: fs) = rowF (f :: fs) ++ [x.d] := by
  show rowF fs ++ (f.put x).row = rowF fs ++ f.row ++ [x.d]
  rw [Fr.put_row h, List.append_assoc]
theorem bg_step {f : Fr} {fs : List Fr} {c : Nat} (hb : f.beg = true) (h1 : c = 42 → f.star = none) (h2 : c = 124 → f.bar = none) : bgD (rowF (f :: fs)) c = oD (stp c (f :: fs)) := by
  rw [stp_cons]
  unfold bgD begX
  by_cases c1 : c = 42
  · subst c1
    rw [if_pos rfl, h1 rfl]
    rfl
  rw [if_neg c1]
  by_cases c2 : c = 124
  · subst c2
    rw [if_pos rfl, h2 rfl]
    rfl
  rw [if_neg c2]
  by_cases c3 : c = 41
  · subst c3
    rw [if_pos rfl]
    have e : f.close = none := by
      cases f <;> first
        | rfl
        | cases hb
    rw [e]
    rfl
  rw [if_neg c3, if_pos hb]
  by_cases c4 : c = 40
  · subst c4
    rw [if_pos (.inl rfl), if_pos rfl]
    show PyData.list (rowF (f :: fs) ++ [.str (st [40])]) = .list (rowF (f :: fs) ++ [.str (Str.ofString "(")])
    rw [c_opn]
  by_cases c5 : c = 91
  · subst c5
    rw [if_pos (.inr rfl), if_neg (by decide), if_pos rfl]
    rfl
  rw [if_neg (by rintro (e | e); exact c4 e; exact c5 e), if_neg c4, if_neg c5]
  by_cases c6 : c = 95
  · rw [if_pos c6, if_pos c6]
    show PyData.list _ = .list (rowF (f.put .non :: fs))
    rw [row_put hb]
  rw [if_neg c6, if_neg c6]
  by_cases c7 : small c = true
  · rw [if_pos c7, if_pos c7]
    show PyData.list _ = .list (rowF (f.put (.sgn (st [c])) :: fs))
    rw [row_put hb]
  · rw [if_neg c7, if_neg c7]
    rfl
theorem lt_step {f : Fr} {fs : List Fr} {ls : List Nat} {c : Nat} (hb : f.beg = true) : ltD (rowF (f :: fs)) ls c = oD (nxt c (f :: fs, some ls)) := by
  show _ = oD (if c = 93 ∧ 1 < ls.length then some (f.put (.sgn (st ls)) :: fs, none) else if canF ls c = true then some (f :: fs, some (ls ++ [c])) else none)
  unfold ltD
  by_cases h1 : c = 93 ∧ 1 < ls.length
  · rw [if_pos h1, if_pos h1]
    show PyData.list _ = .list (rowF (f.put (.sgn (st ls)) :: fs))
    rw [row_put hb]
  · rw [if_neg h1, if_neg h1]
    by_cases h2 : canF ls c = true
    · rw [if_pos h2, if_pos h2]
      rfl
    · rw [if_neg h2, if_neg h2]
      rfl
theorem star_row {f g : Fr} (h : f.star = some g) : ∃ (r : List PyData) (p : Pt), p ∈ f.ps ∧ f.row = r ++ [p.d] ∧ g.row = r ++ [Pt.d (.again p)] := by
  cases f <;> cases h
  · exact ⟨[], _, List.mem_singleton.mpr rfl, rfl, rfl⟩
  · exact ⟨[Fr.opn], _, List.mem_singleton.mpr rfl, rfl, rfl⟩
  · exact ⟨[Fr.opn, _], _, List.mem_cons_of_mem _ List.mem_cons_self, rfl, rfl⟩
  · exact ⟨[Fr.opn, _, Fr.mid], _, List.mem_cons_of_mem _ List.mem_cons_self, rfl, rfl⟩
def S_step : DSp := fun as R => ∃ (s : State) (b c : Nat), as = [.dat (.list (rowS s)), .dat (.str (st [c]))] ∧ Good b s ∧ c < 1114112 ∧ (rowS s).length ≤ 900000 ∧ R (oD (nxt c s)) []
theorem mono_step : MonoS S_step := fun as R R' h ⟨s, b, c, a, e, d, f, k⟩ => ⟨s, b, c, a, e, d, f, h _ _ k⟩
abbrev s_law_step : Stmt := top 45
theorem sc_law_step : FnScope ["_law_row", "_law_sign"] ["_law_row", "_law_sign"] (defScope s_law_step) := ⟨rfl, rfl, rfl, by decide +kernel, rfl, by decide +kernel, by decide +kernel⟩
section
variable {P : Program} {w : World} {K : PySem.W.Frag} {mg : Str → Option Value} {base : Heap}
variable (m_len : mg "len" = none) (m_isinstance : mg "isinstance" = none) (m_str : mg "str" = none) (m_bool : mg "bool" = none) (m_range : mg "range" = none) (m_int : mg "int" = none) (m_max : mg "max" = none) (m_min : mg "min" = none)
  (m_sum : mg "sum" = none) (m_sorted : mg "sorted" = none) (m_set : mg "set" = none) (m_tuple : mg "tuple" = none) (m_repr : mg "repr" = none) (m_ValueError : mg "ValueError" = none)
include m_len m_isinstance m_str m_bool m_range m_int m_max m_min m_sum m_sorted m_set m_tuple m_repr m_ValueError
theorem ok_law_step {f : Addr} {fd : FuncData} (F : Fun K "_law_step" "_law_step" s_law_step f fd) (k_law_begins : Kn P w K mg base 1 "_law_begins" S_begins) (k_law_lettered : Kn P w K mg base 1 "_law_lettered" S_lettered) : FnOkG P w K mg base CX0 2 f fd ["_law_row", "_law_sign"] (spD K S_step) := by
  refine fnD F sc_law_step (fun as R h => by obtain ⟨_, _, _, rfl, _⟩ := h; rfl) fun cdv A outer s H E hr => ?_
  have nd := sc_law_step.nd
  have hu := hr.units
  have hu1 := hr.units1
  refine ⟨_, _, (dss_cons (ds_if (dt_w (dw_and (dt_cmp (op_eqW true hu) (ro_eqW true) (nomark _) (de_var 0) (de_lst da_nil)) (dw_and (dt_val (de_isi (T := "str") m_isinstance m_str (by decide +kernel) (de_ixV 0 (de_un un_neg r1_neg de_int)))) (dw_and1 (dt_cmp (op_eqD hu) ro_eq (nomark _) (de_ix ix_str ro_ixS (de_ixV 0 (de_un un_neg r1_neg de_int)) de_int) de_str))))) (dss_one (ds_ret (de_call k_law_lettered hr (by omega) (dca_d (de_var 0) (dca_d (de_var 1) dca_nil))))) dss_nil)
    (dss_cons (ds_if (dt_w (dw_or (dt_cmp (op_eqW false hu) (ro_eqW false) (nomark _) (de_var 0) (de_lst da_nil)) (dw_or1 (dt_cmp (op_inW hu1) ro_inW rfl (de_ixV 0 (de_un un_neg r1_neg de_int)) (de_tup (da_cons de_str (da_cons de_str da_nil))))))) (dss_one (ds_ret (de_call k_law_begins hr (by omega) (dca_d (de_var 0) (dca_d (de_var 1) dca_nil))))) dss_nil)
    (dss_cons (ds_if (dt_cmp (op_eqD hu) ro_eq (nomark _) (de_var 1) de_str) (dss_one (ds_ret (de_op op_cat ro_cat (de_sl sl_list rsl_list (de_var 0) do_none (do_some (de_un un_neg r1_neg de_int))) (de_lst (da_cons (de_tup (da_cons de_str (da_cons (de_ixV 0 (de_un un_neg r1_neg de_int)) da_nil))) da_nil))))) dss_nil)
    (dss_cons (ds_if (dt_cmp (op_eqD hu) ro_eq (nomark _) (de_lenV 0 m_len) de_int) (dss_one (ds_ret de_non)) dss_nil)
    (dss_cons (ds_if (dt_cmp (op_eqW false hu) (ro_eqW false) (nomark _) (de_ixV 0 (de_un un_neg r1_neg de_int)) de_str) (dss_one (ds_ret (de_if (dt_cmp (op_eqD hu) ro_eq (nomark _) (de_var 1) de_str) (de_op op_cat ro_cat (de_var 0) (de_lst (da_cons de_str da_nil))) (de_call k_law_begins hr (by omega) (dca_d (de_var 0) (dca_d (de_var 1) dca_nil)))))) dss_nil)
    (dss_cons (ds_if (dt_cmp (op_neD hu) ro_ne (nomark _) (de_var 1) de_str) (dss_one (ds_ret de_non)) dss_nil)
    (dss_cons (ds_if (dt_cmp (op_eqW false hu) (ro_eqW false) (nomark _) (de_ixV 0 (de_un un_neg r1_neg de_int)) de_str) (dss_one (ds_ret (de_op op_cat ro_cat (de_sl sl_list rsl_list (de_var 0) do_none (do_some (de_un un_neg r1_neg de_int))) (de_lst (da_cons (de_tup (da_cons de_str (da_cons (de_ixV 0 (de_un un_neg r1_neg de_int)) (da_cons (de_ixV 0 (de_un un_neg r1_neg de_int)) da_nil)))) da_nil))))) dss_nil)
    (dss_one (ds_ret (de_op op_cat ro_cat (de_sl sl_list rsl_list (de_var 0) do_none (do_some (de_un un_neg r1_neg de_int))) (de_lst (da_cons (de_tup (da_cons de_str (da_cons (de_ixV 0 (de_un un_neg r1_neg de_int)) (da_cons (de_ixV 0 (de_un un_neg r1_neg de_int)) da_nil)))) da_nil)))))))))))), ?_⟩
  rintro as R ⟨s, b, c, rfl, g, hc, hl, hR⟩
  obtain ⟨fs, o⟩ := s
  have lay := lay_row g
  obtain ⟨f, fs, rfl⟩ : ∃ f r, fs = f :: r := by
    cases fs with
    | nil => exact absurd g.ok (by simp [okFs])
    | cons f r => exact ⟨f, r, rfl⟩
  show dSeq _ _ _ [Sl.dat (.list (rowS (f :: fs, o))), Sl.dat (.str (st [c]))]
  generalize hδ : ([Sl.dat (.list (rowS (f :: fs, o))), Sl.dat (.str (st [c]))] : List Sl) = δ
  have h0 : δ[0]? = some (.dat (.list (rowS (f :: fs, o)))) := by rw [← hδ]; rfl
  have hv : δ[1]? = some (.dat (.str (st [c]))) := by rw [← hδ]; rfl
  have eR : ∀ d, R d [] → (endsOf R).rt d δ := fun d h => ⟨[], h, outs0⟩
  dsimp only [dSeq]
  cases o with
  | some ls =>
    obtain ⟨hr, f0, fs0, e0, fb⟩ := g.ls ls rfl
    cases e0
    refine ifs (t := T1) (b := true) (fun N n => t1_str h0 lay (by decide) (by have := rises_len hr; omega) n) ?_
    rw [if_pos rfl]
    have X : (rowF (f :: fs)).length ≤ 900000 := by
      have h : (rowF (f :: fs) ++ [PyData.str (st (91 :: ls))]).length ≤ 900000 := hl
      rw [List.length_append] at h
      omega
    have h0 : δ[0]? = some (.dat (.list (rowF (f :: fs) ++ [PyData.str (st (91 :: ls))]))) := h0
    dsimp only [dRet]
    show dCall S_lettered (cD (dVar 0) (cD (dVar 1) cNil)) δ _
    refine call_p [.list (rowF (f :: fs) ++ [PyData.str (st (91 :: ls))]), .str (st [c])] (fun Q q => var_at h0 (var_at hv q)) ⟨rowF (f :: fs), ls, c, rfl, ⟨hc, rises_small hr⟩, ⟨by omega, rises_len hr⟩, rfl, ?_⟩ mono_lettered
    rw [lt_step fb]
    exact eR _ hR
  | none =>
    have h0 : δ[0]? = some (.dat (.list (rowF (f :: fs)))) := h0
    have lay : PyData.canLayAll0 (rowF (f :: fs)) = true := lay
    have hl : (rowF (f :: fs)).length ≤ 900000 := hl
    have hR : R (oD (stp c (f :: fs))) [] := hR
    have bg : f.beg = true → (c = 42 → f.star = none) → (c = 124 → f.bar = none) → dCall S_begins (cD (dVar 0) (cD (dVar 1) cNil)) δ (endsOf R).rt := fun b1 b2 b3 => by
      refine call_p [.list (rowF (f :: fs)), .str (st [c])] (fun Q q => var_at h0 (var_at hv q)) ⟨rowF (f :: fs), c, rfl, hc, by omega, rfl, ?_⟩ mono_begins
      rw [bg_step b1 b2 b3]
      exact eR _ hR
    have ret0 : ∀ (bs : List PyData), R (.list bs) [] → ∀ cs, cs = bs → (endsOf R).rt (.list cs) δ := fun bs h cs e => by
      rw [e]
      exact eR _ h
    cases hst : f.star with
    | none =>
      cases f with
      | bA p => cases hst
      | oA p => cases hst
      | oAA p q => cases hst
      | oBA p q => cases hst
      | b0 =>
        have e : fs = [] := by
          cases fs with
          | nil => rfl
          | cons g2 r =>
            have := (okFs_under g.ok).1
            cases this
        subst e
        refine ifs (t := T1) (b := false) (fun N n => t1_nil h0 n) ?_
        rw [if_neg (by decide)]
        refine ifs (t := T2) (b := true) (fun N n => t2_nil h0 n) ?_
        rw [if_pos rfl]
        dsimp only [dRet]
        exact bg rfl (fun _ => rfl) (fun _ => rfl)
      | o =>
        have eo : Fr.opn = .str (st (40 :: [])) := congrArg PyData.str c_opn
        have er : rowF (.o :: fs) = rowF fs ++ [.str (st (40 :: []))] := by
          show rowF fs ++ [Fr.opn] = _
          rw [eo]
        refine ifs (t := T1) (b := false) (fun N n => t1_str (X := rowF fs) (d := 40) (r := []) (by rw [h0, er]) (by rw [← er]; exact lay) (by decide) (by decide) n) ?_
        rw [if_neg (by decide)]
        refine ifs (t := T2) (b := true) (fun N n => t2_last (X := rowF fs) (x := Fr.opn) h0 lay lay_opn in_opn n) ?_
        rw [if_pos rfl]
        dsimp only [dRet]
        exact bg rfl (fun _ => rfl) (fun _ => rfl)
      | oB p =>
        have eo : Fr.mid = .str (st (124 :: [])) := congrArg PyData.str c_bar
        have er : rowF (.oB p :: fs) = (rowF fs ++ [Fr.opn, p.d]) ++ [Fr.mid] := by
          show rowF fs ++ [Fr.opn, p.d, Fr.mid] = _
          rw [List.append_assoc]
          rfl
        refine ifs (t := T1) (b := false) (fun N n => t1_str (X := rowF fs ++ [Fr.opn, p.d]) (d := 124) (r := []) (by rw [h0, er, eo]) (by rw [← eo, ← er]; exact lay) (by decide) (by decide) n) ?_
        rw [if_neg (by decide)]
        refine ifs (t := T2) (b := true) (fun N n => t2_last (X := rowF fs ++ [Fr.opn, p.d]) (x := Fr.mid) (by rw [h0, er]) (by rw [← er]; exact lay) lay_mid in_mid n) ?_
        rw [if_pos rfl]
        dsimp only [dRet]
        exact bg rfl (fun _ => rfl) (fun _ => rfl)
    | some g' =>
      obtain ⟨r, p0, hp0, e1, e2⟩ := star_row hst
      have hg0 : p0.good = true := (g.ps f List.mem_cons_self p0 hp0).1
      have er : rowF (f :: fs) = (rowF fs ++ r) ++ [p0.d] := by
        show rowF fs ++ f.row = _
        rw [e1, List.append_assoc]
      obtain ⟨ds, ed⟩ := d_tup p0
      have last : atI (rowF (f :: fs)) (-1) = some p0.d := by
        rw [er]
        exact atI_last _ _
      refine ifs (t := T1) (b := false) (fun N n => t1_tup (X := rowF fs ++ r) (ds := ds) (by rw [h0, er, ed]) (by rw [← ed, ← er]; exact lay) n) ?_
      rw [if_neg (by decide)]
      refine ifs (t := T2) (b := false) (fun N n => t2_last (X := rowF fs ++ r) (x := p0.d) (by rw [h0, er]) (by rw [← er]; exact lay) (Pt.lay p0 hg0) (in_tup p0) n) ?_
      rw [if_neg (by decide)]
      refine ifs (b := decide (c = 42)) (fun N n => tst_sg hv hc c_star (by decide) n) ?_
      by_cases c1 : c = 42
      · rw [if_pos (decide_eq_true c1)]
        have hR : R (.list (rowF (g' :: fs))) [] := by
          rw [stp_cons, if_pos c1, hst] at hR
          exact hR
        refine ret_cut (l := rowF fs ++ r) (r := [p0.d]) (x := Pt.d (.again p0)) (n := 1) (by rw [h0, er]) rfl rfl (by decide) ?_ (fun Q q => ixV_at h0 (.inr ⟨1, rfl, rfl⟩) last ⟨nat_le_size (by show 2 ≤ 16777216; decide), q⟩) (eR _ ?_)
        · have := congrArg List.length er
          rw [List.length_append] at this
          omega
        · have e3 : rowF (g' :: fs) = (rowF fs ++ r) ++ [Pt.d (.again p0)] := by
            show rowF fs ++ g'.row = _
            rw [e2, List.append_assoc]
          rw [← e3]
          exact hR
      rw [if_neg (by rw [decide_eq_false c1]; decide)]
      have lenV : ∀ N : Bool → List Sl → Prop, N (decide ((rowF (f :: fs)).length = 1)) δ → dTest (dOp dEq (dLenV 0) (dC (.int 1))) δ N := fun N n => by
        have e : dLenV 0 δ = fun R => R (.int ((rowF (f :: fs)).length : Nat)) δ := by
          unfold dLenV
          rw [h0]
        dsimp only [dTest, dOp]
        rw [e]
        refine ⟨rfl, rfl, ?_⟩
        rw [ev_ii]
        have e : ((((rowF (f :: fs)).length : Nat) : Int) == 1) = decide ((rowF (f :: fs)).length = 1) := by
          by_cases h : (rowF (f :: fs)).length = 1
          · rw [decide_eq_true h, h]; rfl
          · rw [decide_eq_false h]
            exact beq_eq_false_iff_ne.mpr (by omega)
        rw [e]
        exact n
      refine ifs (b := decide ((rowF (f :: fs)).length = 1)) (fun N n => lenV N n) ?_
      rw [stp_cons, if_neg c1] at hR
      cases f with
      | b0 => cases hst
      | o => cases hst
      | oB p => cases hst
      | bA p =>
        have e : fs = [] := by
          cases fs with
          | nil => rfl
          | cons g2 r =>
            have := (okFs_under g.ok).1
            cases this
        subst e
        rw [if_pos (decide_eq_true (by rfl))]
        have : R .none [] := by
          by_cases c2 : c = 124
          · rw [if_pos c2] at hR
            exact hR
          rw [if_neg c2] at hR
          by_cases c3 : c = 41
          · rw [if_pos c3] at hR
            exact hR
          rw [if_neg c3, if_neg (show ¬ Fr.beg (.bA p) = true from Bool.false_ne_true)] at hR
          exact hR
        exact eR _ this
      | oA p =>
        have rw0 : rowF (.oA p :: fs) = rowF fs ++ [Fr.opn, p.d] := rfl
        have l2 : (rowF (.oA p :: fs)).length = (rowF fs).length + 2 := by rw [rw0, List.length_append]; rfl
        rw [if_neg (by rw [decide_eq_false (by omega)]; decide)]
        refine ifs (b := true) (fun N n => tst_back (n := 2) (x := Fr.opn) h0 rfl (by rw [rw0, atI_bk (by decide) (by simp)]; rfl) lay_opn (by decide +kernel) (by decide +kernel) n) ?_
        rw [if_pos rfl]
        dsimp only [dRet, dIf]
        refine tst_sg hv hc c_bar (by decide) ?_
        by_cases c2 : c = 124
        · rw [if_pos (decide_eq_true c2)]
          rw [if_pos c2] at hR
          refine ret_add h0 (by omega) (fun Q q => q) (ret0 _ hR _ ?_)
          show rowF fs ++ [Fr.opn, p.d] ++ [Fr.mid] = rowF fs ++ [Fr.opn, p.d, Fr.mid]
          rw [List.append_assoc]
          rfl
        · rw [if_neg (by rw [decide_eq_false c2]; decide)]
          try dsimp only [dRet]
          exact bg rfl (fun e => absurd e c1) (fun e => absurd e c2)
      | oAA p q =>
        have rw0 : rowF (.oAA p q :: fs) = rowF fs ++ [Fr.opn, p.d, q.d] := rfl
        have l2 : (rowF (.oAA p q :: fs)).length = (rowF fs).length + 3 := by rw [rw0, List.length_append]; rfl
        have hgp : p.good = true := (g.ps _ List.mem_cons_self p (by simp [Fr.ps])).1
        have at2 : atI (rowF (.oAA p q :: fs)) (-2) = some p.d := by rw [rw0]; exact atI_bk (n := 2) (by decide) (by simp)
        have at1 : atI (rowF (.oAA p q :: fs)) (-1) = some q.d := by rw [rw0]; exact atI_bk (n := 1) (by decide) (by simp)
        rw [if_neg (by rw [decide_eq_false (by omega)]; decide)]
        refine ifs (b := false) (fun N n => tst_back (n := 2) (x := p.d) h0 rfl at2 (Pt.lay p hgp) (by decide +kernel) (eqv_dS p _) n) ?_
        rw [if_neg (by decide)]
        refine ifs (b := !decide (c = 41)) (fun N n => tst_sgN hv hc c_cls (by decide) n) ?_
        by_cases c3 : c = 41
        · rw [if_neg (by rw [decide_eq_true c3]; decide)]
          refine ifs (b := false) (fun N n => tst_back (n := 2) (x := p.d) h0 rfl at2 (Pt.lay p hgp) (by decide +kernel) (eqv_dS p _) n) ?_
          rw [if_neg (by decide)]
          rw [if_neg (by omega), if_pos c3] at hR
          cases fs with
          | nil => cases g.ok
          | cons g2 gs =>
            obtain ⟨_, gb, _⟩ := okFs_under g.ok
            have hR : R (.list (rowF (g2.put (.two false p q) :: gs))) [] := hR
            rw [row_put gb] at hR
            exact ret_cut (l := rowF (g2 :: gs)) (r := [Fr.opn, p.d, q.d]) (x := Pt.d (.two false p q)) (n := 3) h0 rfl rfl (by decide) (by omega) (fun Q z => ixV_at h0 (.inr ⟨2, rfl, rfl⟩) at2 (ixV_at h0 (.inr ⟨1, rfl, rfl⟩) at1 ⟨nat_le_size (by show 3 ≤ 16777216; decide), z⟩)) (eR _ hR)
        · rw [if_pos (by rw [decide_eq_false c3]; rfl)]
          have : R .none [] := by
            by_cases c2 : c = 124
            · rw [if_pos c2] at hR
              exact hR
            rw [if_neg c2, if_neg c3, if_neg (show ¬ Fr.beg (.oAA p q) = true from Bool.false_ne_true)] at hR
            exact hR
          exact eR _ this
      | oBA p q =>
        have rw0 : rowF (.oBA p q :: fs) = rowF fs ++ [Fr.opn, p.d, Fr.mid, q.d] := rfl
        have l2 : (rowF (.oBA p q :: fs)).length = (rowF fs).length + 4 := by rw [rw0, List.length_append]; rfl
        have at2 : atI (rowF (.oBA p q :: fs)) (-2) = some Fr.mid := by rw [rw0]; exact atI_bk (n := 2) (by decide) (by simp)
        have at3 : atI (rowF (.oBA p q :: fs)) (-3) = some p.d := by rw [rw0]; exact atI_bk (n := 3) (by decide) (by simp)
        have at1 : atI (rowF (.oBA p q :: fs)) (-1) = some q.d := by rw [rw0]; exact atI_bk (n := 1) (by decide) (by simp)
        rw [if_neg (by rw [decide_eq_false (by omega)]; decide)]
        refine ifs (b := false) (fun N n => tst_back (n := 2) (x := Fr.mid) h0 rfl at2 lay_mid (by decide +kernel) (by decide +kernel) n) ?_
        rw [if_neg (by decide)]
        refine ifs (b := !decide (c = 41)) (fun N n => tst_sgN hv hc c_cls (by decide) n) ?_
        by_cases c3 : c = 41
        · rw [if_neg (by rw [decide_eq_true c3]; decide)]
          refine ifs (b := true) (fun N n => tst_back (n := 2) (x := Fr.mid) h0 rfl at2 lay_mid (by decide +kernel) (by decide +kernel) n) ?_
          rw [if_pos rfl]
          rw [if_neg (by omega), if_pos c3] at hR
          cases fs with
          | nil => cases g.ok
          | cons g2 gs =>
            obtain ⟨_, gb, _⟩ := okFs_under g.ok
            have hR : R (.list (rowF (g2.put (.two true p q) :: gs))) [] := hR
            rw [row_put gb] at hR
            exact ret_cut (l := rowF (g2 :: gs)) (r := [Fr.opn, p.d, Fr.mid, q.d]) (x := Pt.d (.two true p q)) (n := 4) h0 rfl rfl (by decide) (by omega) (fun Q z => ixV_at h0 (.inr ⟨3, rfl, rfl⟩) at3 (ixV_at h0 (.inr ⟨1, rfl, rfl⟩) at1 ⟨nat_le_size (by show 3 ≤ 16777216; decide), z⟩)) (eR _ hR)
        · rw [if_pos (by rw [decide_eq_false c3]; rfl)]
          have : R .none [] := by
            by_cases c2 : c = 124
            · rw [if_pos c2] at hR
              exact hR
            rw [if_neg c2, if_neg c3, if_neg (show ¬ Fr.beg (.oBA p q) = true from Bool.false_ne_true)] at hR
            exact hR
          exact eR _ this
end
end K05

set_option Elab.async false
set_option linter.all false
set_option maxRecDepth 100000
set_option maxHeartbeats 4000000
/-! K05l: the law's read -/
namespace K05
open PySem PySem.Spec L2 TL
def outD : Out → PyData
  | .told p => p.d
  | .bad n => .int (n : Nat)
  | .big => .none
theorem kb_st : kitB "str" "tuple" = some false := by decide +kernel
theorem end_row : ∀ {b : Nat} {s : State}, Good b s → (∃ p, s = ([.bA p], none)) ∨ (rowS s).length ≠ 1 ∨ ∃ z, rowS s = [.str z] := by
  intro b s g
  obtain ⟨fs, o⟩ := s
  cases o with
  | some ls =>
    cases e : rowF fs with
    | nil =>
      refine .inr (.inr ⟨st (91 :: ls), ?_⟩)
      show rowF fs ++ [_] = _
      rw [e]
      rfl
    | cons x r =>
      refine .inr (.inl ?_)
      show (rowF fs ++ [_]).length ≠ 1
      rw [e]
      simp
  | none =>
    cases fs with
    | nil => exact absurd g.ok (by simp [okFs])
    | cons f fs =>
      have l : (rowS (f :: fs, none)).length = (rowF fs).length + f.row.length := by
        show (rowF fs ++ f.row).length = _
        exact List.length_append
      have bot : f.isB = true → fs = [] := fun h => by
        cases fs with
        | nil => rfl
        | cons g2 r =>
          have := (okFs_under g.ok).1
          rw [h] at this
          cases this
      cases f with
      | b0 =>
        have e := bot rfl
        subst e
        exact .inr (.inl (by rw [l]; decide))
      | bA p =>
        have e := bot rfl
        subst e
        exact .inl ⟨p, rfl⟩
      | o =>
        cases e : rowF fs with
        | nil =>
          refine .inr (.inr ⟨Str.ofString "(", ?_⟩)
          show rowF fs ++ [Fr.opn] = _
          rw [e]
          rfl
        | cons x r =>
          refine .inr (.inl ?_)
          rw [l, e]
          show (x :: r).length + 1 ≠ 1
          simp
      | oA p => exact .inr (.inl (by rw [l]; show _ + 2 ≠ 1; omega))
      | oAA p q => exact .inr (.inl (by rw [l]; show _ + 3 ≠ 1; omega))
      | oB p => exact .inr (.inl (by rw [l]; show _ + 3 ≠ 1; omega))
      | oBA p q => exact .inr (.inl (by rw [l]; show _ + 4 ≠ 1; omega))
theorem row_len {b : Nat} {s : State} (g : Good b s) : (rowS s).length ≤ 4 * s.1.length + 1 := by
  obtain ⟨fs, o⟩ := s
  have h := rowF_len fs
  cases o with
  | none => exact Nat.le_succ_of_le h
  | some ls =>
    show (rowF fs ++ [_]).length ≤ 4 * fs.length + 1
    rw [List.length_append]
    show _ + 1 ≤ _
    omega
/-- what all signs come to -/
def ends (n : Nat) : Except Nat State → Out
  | .error q => .bad q
  | .ok s => endOf n s
theorem out_ends (l : List Nat) : out l = ends l.length (run l ([.b0], none) 0) := by
  unfold out
  cases run l ([.b0], none) 0 <;> rfl
theorem cnt_cons (c : Nat) (r : List Nat) : cnt (c :: r) = (if isOp c = true then 1 else 0) + cnt r := by
  unfold cnt
  rw [List.countP_cons]
  omega
def S_lread (n : Nat) : DSp := fun as R => ∃ l : List Nat, as = [.dat (.str (st l))] ∧ (∀ c ∈ l, c < 1114112) ∧ l.length ≤ 200000 ∧ cnt l + 1 ≤ n ∧ R (outD (out l)) []
theorem mono_lread (n : Nat) : MonoS (S_lread n) := fun as R R' h ⟨l, a, e, b, c, k⟩ => ⟨l, a, e, b, c, h _ _ k⟩
abbrev s_law_read : Stmt := top 46
theorem sc_law_read : FnScope ["_law_text_here", "_law_row", "_law_at"] ["_law_text_here"] (defScope s_law_read) := ⟨rfl, rfl, rfl, by decide +kernel, rfl, by decide +kernel, by decide +kernel⟩
section
variable {P : Program} {w : World} {K : PySem.W.Frag} {mg : Str → Option Value} {base : Heap}
variable (m_len : mg "len" = none) (m_isinstance : mg "isinstance" = none) (m_str : mg "str" = none) (m_bool : mg "bool" = none) (m_range : mg "range" = none) (m_int : mg "int" = none) (m_max : mg "max" = none) (m_min : mg "min" = none)
  (m_sum : mg "sum" = none) (m_sorted : mg "sorted" = none) (m_set : mg "set" = none) (m_tuple : mg "tuple" = none) (m_repr : mg "repr" = none) (m_ValueError : mg "ValueError" = none)
include m_len m_isinstance m_str m_bool m_range m_int m_max m_min m_sum m_sorted m_set m_tuple m_repr m_ValueError
theorem ok_law_read {f : Addr} {fd : FuncData} (F : Fun K "_law_read" "_law_read" s_law_read f fd) (n : Nat) (k_law_step : Kn P w K mg base 2 "_law_step" S_step) (k_law_is : Kn P w K mg base (n + 2) "_law_is" (S_is n)) : FnOkG P w K mg base CX0 (n + 3) f fd ["_law_text_here"] (spD K (S_lread n)) := by
  refine fnD F sc_law_read (fun as R h => by obtain ⟨_, rfl, _⟩ := h; rfl) fun cdv A outer s H E hr => ?_
  have nd := sc_law_read.nd
  have hu := hr.units
  have hu1 := hr.units1
  refine ⟨_, _, (dss_cons (ds_set 1 nd (de_lst da_nil))
    (dss_cons (ds_for PassesOwn.never rfl (di_r1 m_range (de_len (ps := default) m_len (de_var 0))) (dg_name 2 nd)
    (dss_cons (ds_set 1 nd (de_call k_law_step hr (by omega) (dca_d (de_var 1) (dca_d (de_ix ix_str ro_ixS (de_var 0) (de_var 2)) dca_nil))))
    (dss_one (ds_if (dt_cmp op_isN ro_isN (nomark _) (de_var 1) de_non) (dss_one (ds_ret (de_var 2))) dss_nil))))
    (dss_cons (ds_if (dt_w (dw_or (dt_cmp (op_neD hu) ro_ne (nomark _) (de_lenV 1 m_len) de_int) (dw_or1 (dt_not (dt_val (de_isi (T := "tuple") m_isinstance m_tuple (by decide +kernel) (de_ixV 1 de_int))))))) (dss_one (ds_ret (de_len (ps := default) m_len (de_var 0)))) dss_nil)
    (dss_one (ds_ret (de_if (dt_val (de_call k_law_is hr (by omega) (dca_d (de_ixV 1 de_int) dca_nil))) (de_ixV 1 de_int) de_non)))))), ?_⟩
  rintro as R ⟨l, rfl, hc, hl, hn, hR⟩
  have sT : (st l).length = l.length := st_len l
  generalize hU : dSeq (dAsg (dCall S_step _) (dgName 1)) _ = U
  generalize hT : dSeq (dIfS (dOr _ _) _ _) (dRet (dIf _ _ _)) = TAIL
  dsimp only [dSeq, dAsg, dgName]
  refine ⟨nat_le_size (by show 0 ≤ 16777216; decide), ?_⟩
  show dFor _ _ _ _ [.dat (.str (st l)), .dat (.list []), .no]
  refine ⟨nat_le_size (by omega), ⟨by omega, by omega⟩, ?_⟩
  have body : ∀ (E' : DEnds) (s : State) (b p c : Nat), E'.rt = (endsOf R).rt → Good b s → s.1.length ≤ l.length + 1 → c < 1114112 → atI l ((p : Nat) : Int) = some c →
      (match nxt c s with
        | none => R (.int (p : Nat)) []
        | some s' => E'.nx [.dat (.str (st l)), .dat (.list (rowS s')), .dat (.int (p : Nat))]) →
      U E' [.dat (.str (st l)), .dat (.list (rowS s)), .dat (.int (p : Nat))] := by
    intro E' s b p c hE g hs hcc at_ h
    rw [← hU]
    have rl := row_len g
    dsimp only [dSeq, dAsg, dgName]
    refine call_p [.list (rowS s), .str (st [c])] (fun Q q => ?_) ⟨s, b, c, rfl, g, hcc, by omega, rfl, ?_⟩ mono_step
    · show (st l).length ≤ sizeLine ∧ (match atI l ((p : Nat) : Int) with
        | some c => _
        | none => False)
      rw [at_]
      exact ⟨nat_le_size (by omega), q⟩
    · cases hx : nxt c s with
      | none =>
        rw [hx] at h
        show E'.rt _ _
        rw [hE]
        exact ⟨[], h, outs0⟩
      | some s' =>
        rw [hx] at h
        exact h
  clear hU
  have tail : ∀ (s : State) (b : Nat) (s2 : Sl), Good b s → b ≤ n → R (outD (endOf l.length s)) [] → TAIL (endsOf R) [.dat (.str (st l)), .dat (.list (rowS s)), s2] := by
    intro s b s2 g hb h
    rw [← hT]
    have lenV : ∀ N : Bool → List Sl → Prop, N (!decide ((rowS s).length = 1)) [.dat (.str (st l)), .dat (.list (rowS s)), s2] → dTest (dOp dNe (dLenV 1) (dC (.int 1))) [.dat (.str (st l)), .dat (.list (rowS s)), s2] N := fun N k => by
      refine ⟨rfl, rfl, ?_⟩
      rw [ev_ii]
      have e : ((((rowS s).length : Nat) : Int) == 1) = decide ((rowS s).length = 1) := by
        by_cases h : (rowS s).length = 1
        · rw [decide_eq_true h, h]; rfl
        · rw [decide_eq_false h]
          exact beq_eq_false_iff_ne.mpr (by omega)
      rw [e]
      exact k
    have retL : R (.int (l.length : Nat)) [] → dRet (dLen (dVar 0)) (endsOf R) [.dat (.str (st l)), .dat (.list (rowS s)), s2] := fun k => by
      refine ⟨nat_le_size (by omega), [], ?_, outs0⟩
      rw [sT]
      exact k
    have isB : (rowS s).length ≠ 1 ∨ (∃ z, rowS s = [.str z]) → endOf l.length s = .bad l.length := fun q => by
      unfold endOf
      split
      · rename_i p
        rcases q with q | ⟨z, q⟩
        · exact absurd rfl q
        · obtain ⟨ds, e⟩ := d_tup p
          have q : [p.d] = [PyData.str z] := q
          rw [e] at q
          cases q
      · rfl
    dsimp only [dSeq]
    rcases end_row g with ⟨p, e⟩ | e | ⟨z, e⟩
    · subst e
      refine ifs (b := false) (fun N k => lenV _ ?_) ?_
      · show dNot (dTest (dIsi "tuple" (dIxV 1 (dC (.int 0))))) _ N
        refine ixV_at (ds := [p.d]) rfl (.inl rfl) (at0 _ _) ?_
        obtain ⟨ds, e⟩ := d_tup p
        rw [e]
        show (match kitB "tuple" "tuple" with
          | some b => _
          | none => False)
        rw [kb_tt]
        exact k
      · rw [if_neg (by decide)]
        have gp := g.ps _ List.mem_cons_self p (by simp [Fr.ps])
        show dRet (dIf (dTest (dCall (S_is n) (cD (dIxV 1 (dC (.int 0))) cNil))) (dIxV 1 (dC (.int 0))) (dC .none)) (endsOf R) [.dat (.str (st l)), .dat (.list [p.d]), s2]
        dsimp only [dRet, dIf, dTest]
        refine call_p [p.d] (fun Q q => ixV_at (ds := [p.d]) rfl (.inl rfl) (at0 _ _) q) ⟨p, rfl, gp.1, by omega, rfl, ?_⟩ (mono_is n)
        have h : R (outD (if inB p = true then .told p else .big)) [] := h
        cases hi : inB p with
        | true =>
          rw [hi, if_pos rfl] at h
          show if true = true then _ else _
          rw [if_pos rfl]
          exact ixV_at (ds := [p.d]) rfl (.inl rfl) (at0 _ _) ⟨[], h, outs0⟩
        | false =>
          rw [hi, if_neg (by decide)] at h
          exact ⟨[], h, outs0⟩
    · rw [isB (.inl e)] at h
      refine ifs (b := true) (fun N k => lenV _ (by rw [decide_eq_false e]; exact k)) ?_
      rw [if_pos rfl]
      exact retL h
    · rw [isB (.inr ⟨z, e⟩)] at h
      refine ifs (b := true) (fun N k => lenV _ ?_) ?_
      · rw [decide_eq_true (by rw [e]; rfl)]
        show dNot (dTest (dIsi "tuple" (dIxV 1 (dC (.int 0))))) _ N
        refine ixV_at (ds := rowS s) (x := .str z) rfl (.inl rfl) (by rw [e]; exact at0 _ _) ?_
        show (match kitB "str" "tuple" with
          | some b => _
          | none => False)
        rw [kb_st]
        exact k
      · rw [if_pos rfl]
        exact retL h
  clear hT
  have turns : ∀ (todo : List Nat) (s : State) (b p m : Nat) (s2 : Sl), l.drop p = todo → m = todo.length → p + m = l.length → Good b s → 1 ≤ b → b + cnt todo ≤ n → s.1.length ≤ p + 1 → R (outD (ends l.length (run todo s p))) [] →
      forW (dgName 2) U { endsOf R with nx := TAIL (endsOf R) } (iotaD (p : Nat) m) [.dat (.str (st l)), .dat (.list (rowS s)), s2] := by
    intro todo
    induction todo with
    | nil =>
      intro s b p m s2 hd hm hp g hb hbn hs h
      subst hm
      exact tail s b s2 g (by unfold cnt at hbn; simpa using hbn) h
    | cons c r ih =>
      intro s b p m s2 hd hm hp g hb hbn hs h
      obtain ⟨m, rfl⟩ : ∃ k, m = k + 1 := ⟨m - 1, by rw [hm, List.length_cons]; omega⟩
      obtain ⟨at_, hd2, hpl⟩ := drop_cons hd
      rw [List.length_cons] at hm
      have hm := Nat.succ.inj hm
      rw [cnt_cons] at hbn
      have hcc : c < 1114112 := hc c (List.mem_of_mem_drop (i := p) (by rw [hd]; exact List.mem_cons_self))
      rw [iota_cons]
      have h : R (outD (ends l.length (match nxt c s with
        | none => .error p
        | some s' => run r s' (p + 1)))) [] := h
      refine body _ s b p c rfl g (by omega) hcc at_ ?_
      cases hx : nxt c s with
      | none =>
        rw [hx] at h
        exact h
      | some s' =>
        rw [hx] at h
        have ln := nxt_len hx
        have e : ((p : Nat) : Int) + 1 = ((p + 1 : Nat) : Int) := by omega
        show forW _ _ _ (iotaD (((p : Nat) : Int) + 1) m) _
        rw [e]
        exact ih s' (b + if isOp c = true then 1 else 0) (p + 1) m _ hd2 hm (by omega) (g.nxt hb hx) (by omega) (by omega) (by omega) h
  rw [out_ends] at hR
  have e : (((st l).length : Int)).toNat = l.length := by rw [sT]; rfl
  rw [e]
  exact turns l ([.b0], none) 1 0 l.length .no rfl rfl (by omega) (Good.zero 1) (Nat.le_refl 1) (by omega) (by show 1 ≤ 1; decide) hR
end
end K05

set_option Elab.async false
set_option linter.all false
set_option maxRecDepth 100000
set_option maxHeartbeats 4000000
/-! K05n: the law's text of a pattern; what it tells -/
namespace K05
open PySem PySem.Spec L2 TL
/-- letters as they are written -/
def lt (l : List Nat) : List Nat := if l.length = 1 then l else 91 :: (l ++ [93])
/-- a pattern as it is written -/
def tx : Pt → List Nat
  | .non => [95]
  | .sgn z => lt z.cps.toList
  | .again p => tx p ++ [42]
  | .two false p q => 40 :: (tx p ++ (tx q ++ [41]))
  | .two true p q => 40 :: (tx p ++ (124 :: (tx q ++ [41])))
theorem lt_len (l : List Nat) : (lt l).length ≤ l.length + 2 := by
  unfold lt
  split
  · omega
  · simp only [List.length_cons, List.length_append, List.length_nil]
    omega
theorem tx_len : ∀ p : Pt, p.good = true → (tx p).length ≤ 10 * p.parts ∧ 0 < (tx p).length
  | .non, _ => by
    show 1 ≤ 10 * 1 ∧ 0 < 1
    omega
  | .sgn z, h => by
    have h1 := good_len h
    have h2 := lt_len z.cps.toList
    refine ⟨by show (lt _).length ≤ 10 * 1; omega, ?_⟩
    show 0 < (lt _).length
    unfold lt
    split
    · omega
    · simp only [List.length_cons]
      omega
  | .again p, h => by
    have ih := tx_len p h
    show (tx p ++ [42]).length ≤ 10 * (p.parts + 1) ∧ 0 < (tx p ++ [42]).length
    simp only [List.length_cons, List.length_append, List.length_nil]
    omega
  | .two false p q, h => by
    have h : (p.good && q.good) = true := h
    rw [Bool.and_eq_true] at h
    have ip := tx_len p h.1
    have iq := tx_len q h.2
    show (40 :: (tx p ++ (tx q ++ [41]))).length ≤ 10 * (p.parts + q.parts + 1) ∧ 0 < (40 :: (tx p ++ (tx q ++ [41]))).length
    simp only [List.length_cons, List.length_append, List.length_nil]
    omega
  | .two true p q, h => by
    have h : (p.good && q.good) = true := h
    rw [Bool.and_eq_true] at h
    have ip := tx_len p h.1
    have iq := tx_len q h.2
    show (40 :: (tx p ++ (124 :: (tx q ++ [41])))).length ≤ 10 * (p.parts + q.parts + 1) ∧ 0 < (40 :: (tx p ++ (124 :: (tx q ++ [41])))).length
    simp only [List.length_cons, List.length_append, List.length_nil]
    omega
theorem showable_d : ∀ p : Pt, PyData.showable p.d = true
  | .non => rfl
  | .sgn x => rfl
  | .again p => by
    show (true && (PyData.showable p.d && true)) = true
    rw [showable_d p]
    rfl
  | .two false p q => by
    show (true && (PyData.showable p.d && (PyData.showable q.d && true))) = true
    rw [showable_d p, showable_d q]
    rfl
  | .two true p q => by
    show (true && (PyData.showable p.d && (PyData.showable q.d && true))) = true
    rw [showable_d p, showable_d q]
    rfl
theorem shown_str {z : Str} (h : ∀ c ∈ z.cps.toList, c < 1114112) : (PyData.shown (.str z)).length ≤ 10 * z.length + 2 := by
  show (reprText z).length ≤ _
  exact PySem.StrLaws.reprText_len z fun c hc => by
    have := h c hc
    have e : (16 : Nat) ^ 8 = 4294967296 := by decide
    omega
theorem shown_len : ∀ p : Pt, p.good = true → (PyData.shown p.d).length ≤ 200 * p.parts
  | .non, _ => by
    have h := tupleText_len_le [PyData.shown (.str (Str.ofString "none"))]
    have h1 : (PyData.shown (.str (Str.ofString "none"))).length = 6 := by decide +kernel
    show (tupleText [PyData.shown (.str (Str.ofString "none"))]).length ≤ 200 * 1
    simp only [List.map_cons, List.map_nil, List.sum_cons, List.sum_nil, List.length_cons, List.length_nil] at h
    omega
  | .sgn x, g => by
    have h := tupleText_len_le [PyData.shown (.str (Str.ofString "sign")), PyData.shown (.str x)]
    have h1 : (PyData.shown (.str (Str.ofString "sign"))).length = 6 := by decide +kernel
    have h2 := shown_str (okC_good g)
    have h3 := (good_len g).2
    have h4 : x.cps.toList.length = x.length := by rw [Array.length_toList]; rfl
    show (tupleText [PyData.shown (.str (Str.ofString "sign")), PyData.shown (.str x)]).length ≤ 200 * 1
    simp only [List.map_cons, List.map_nil, List.sum_cons, List.sum_nil, List.length_cons, List.length_nil] at h
    omega
  | .again p, g => by
    have h := tupleText_len_le [PyData.shown (.str (Str.ofString "again")), PyData.shown p.d]
    have h1 : (PyData.shown (.str (Str.ofString "again"))).length = 7 := by decide +kernel
    have h2 := shown_len p g
    show (tupleText [PyData.shown (.str (Str.ofString "again")), PyData.shown p.d]).length ≤ 200 * (p.parts + 1)
    simp only [List.map_cons, List.map_nil, List.sum_cons, List.sum_nil, List.length_cons, List.length_nil] at h
    omega
  | .two false p q, g => by
    have g : (p.good && q.good) = true := g
    rw [Bool.and_eq_true] at g
    have h := tupleText_len_le [PyData.shown (.str (Str.ofString "then")), PyData.shown p.d, PyData.shown q.d]
    have h1 : (PyData.shown (.str (Str.ofString "then"))).length = 6 := by decide +kernel
    have h2 := shown_len p g.1
    have h3 := shown_len q g.2
    show (tupleText [PyData.shown (.str (Str.ofString "then")), PyData.shown p.d, PyData.shown q.d]).length ≤ 200 * (p.parts + q.parts + 1)
    simp only [List.map_cons, List.map_nil, List.sum_cons, List.sum_nil, List.length_cons, List.length_nil] at h
    omega
  | .two true p q, g => by
    have g : (p.good && q.good) = true := g
    rw [Bool.and_eq_true] at g
    have h := tupleText_len_le [PyData.shown (.str (Str.ofString "or")), PyData.shown p.d, PyData.shown q.d]
    have h1 : (PyData.shown (.str (Str.ofString "or"))).length = 4 := by decide +kernel
    have h2 := shown_len p g.1
    have h3 := shown_len q g.2
    show (tupleText [PyData.shown (.str (Str.ofString "or")), PyData.shown p.d, PyData.shown q.d]).length ≤ 200 * (p.parts + q.parts + 1)
    simp only [List.map_cons, List.map_nil, List.sum_cons, List.sum_nil, List.length_cons, List.length_nil] at h
    omega
theorem inB_of {p : Pt} (h : inB p = true) : p.leaves ≤ 11 ∧ p.parts ≤ 40 ∧ p.deep ≤ 12 := by
  unfold inB at h
  rw [Bool.and_eq_true, Bool.and_eq_true, decide_eq_true_iff, decide_eq_true_iff, decide_eq_true_iff] at h
  exact h
/-! ### stars and brackets of a text -/
theorem cnt_app (a b : List Nat) : cnt (a ++ b) = cnt a + cnt b := List.countP_append
theorem cnt_nil : cnt [] = 0 := rfl
theorem small_op {c : Nat} (h : small c = true) : isOp c = false := by
  have := small_ne h
  unfold isOp
  rw [decide_eq_false (by omega), decide_eq_false (by omega)]
  rfl
theorem cnt_small : ∀ l : List Nat, (∀ c ∈ l, small c = true) → cnt l = 0
  | [], _ => rfl
  | c :: r, h => by
    rw [cnt_cons, small_op (h c List.mem_cons_self), cnt_small r fun d hd => h d (List.mem_cons_of_mem _ hd)]
    rfl
theorem cnt_lt {l : List Nat} (h : ∀ c ∈ l, small c = true) : cnt (lt l) = 0 := by
  unfold lt
  split
  · exact cnt_small l h
  · rw [cnt_cons, cnt_app, cnt_small l h]
    rfl
theorem cnt_tx : ∀ p : Pt, p.good = true → cnt (tx p) = p.ops
  | .non, _ => rfl
  | .sgn z, h => cnt_lt (good_small h)
  | .again p, h => by
    show cnt (tx p ++ [42]) = p.ops + 1
    rw [cnt_app, cnt_tx p h]
    rfl
  | .two false p q, h => by
    have h : (p.good && q.good) = true := h
    rw [Bool.and_eq_true] at h
    show cnt (40 :: (tx p ++ (tx q ++ [41]))) = p.ops + q.ops + 1
    rw [cnt_cons, cnt_app, cnt_app, cnt_tx p h.1, cnt_tx q h.2, show isOp 40 = false from rfl, show cnt [41] = 1 from rfl]
    simp only [Bool.false_eq_true, if_false]
    omega
  | .two true p q, h => by
    have h : (p.good && q.good) = true := h
    rw [Bool.and_eq_true] at h
    show cnt (40 :: (tx p ++ (124 :: (tx q ++ [41])))) = p.ops + q.ops + 1
    rw [cnt_cons, cnt_app, cnt_cons, cnt_app, cnt_tx p h.1, cnt_tx q h.2, show isOp 40 = false from rfl, show isOp 124 = false from rfl, show cnt [41] = 1 from rfl]
    simp only [Bool.false_eq_true, if_false]
    omega
theorem parts_ops : ∀ p : Pt, p.parts ≤ 2 * p.ops + 1
  | .non => Nat.le_refl _
  | .sgn _ => Nat.le_refl _
  | .again p => by
    have := parts_ops p
    show p.parts + 1 ≤ 2 * (p.ops + 1) + 1
    omega
  | .two b p q => by
    have h1 := parts_ops p
    have h2 := parts_ops q
    have e : (Pt.two b p q).parts = p.parts + q.parts + 1 := by cases b <;> rfl
    show (Pt.two b p q).parts ≤ 2 * (p.ops + q.ops + 1) + 1
    omega
theorem tx_code : ∀ p : Pt, p.good = true → ∀ c ∈ tx p, c < 128
  | .non, _ => by decide
  | .sgn z, h => by
    intro c hc
    have sm : ∀ c ∈ z.cps.toList, c < 128 := fun c hc => by
      have := small_ne (good_small h c hc)
      omega
    have hc : c ∈ lt z.cps.toList := hc
    unfold lt at hc
    split at hc
    · exact sm c hc
    · rcases List.mem_cons.mp hc with e | hc
      · omega
      rcases List.mem_append.mp hc with hc | hc
      · exact sm c hc
      · have := List.mem_singleton.mp hc
        omega
  | .again p, h => by
    intro c hc
    have hc : c ∈ tx p ++ [42] := hc
    rcases List.mem_append.mp hc with hc | hc
    · exact tx_code p h c hc
    · have := List.mem_singleton.mp hc
      omega
  | .two false p q, h => by
    intro c hc
    have h : (p.good && q.good) = true := h
    rw [Bool.and_eq_true] at h
    have hc : c ∈ 40 :: (tx p ++ (tx q ++ [41])) := hc
    rcases List.mem_cons.mp hc with e | hc
    · omega
    rcases List.mem_append.mp hc with hc | hc
    · exact tx_code p h.1 c hc
    rcases List.mem_append.mp hc with hc | hc
    · exact tx_code q h.2 c hc
    · have := List.mem_singleton.mp hc
      omega
  | .two true p q, h => by
    intro c hc
    have h : (p.good && q.good) = true := h
    rw [Bool.and_eq_true] at h
    have hc : c ∈ 40 :: (tx p ++ (124 :: (tx q ++ [41]))) := hc
    rcases List.mem_cons.mp hc with e | hc
    · omega
    rcases List.mem_append.mp hc with hc | hc
    · exact tx_code p h.1 c hc
    rcases List.mem_cons.mp hc with e | hc
    · omega
    rcases List.mem_append.mp hc with hc | hc
    · exact tx_code q h.2 c hc
    · have := List.mem_singleton.mp hc
      omega
/-! ### what is told is a pattern within the bounds -/
theorem run_cons (c : Nat) (r : List Nat) (s : State) (a : Nat) : run (c :: r) s a = (match nxt c s with
    | none => .error a
    | some s' => run r s' (a + 1)) := rfl
theorem run_good : ∀ (l : List Nat) (s s' : State) (b a : Nat), Good b s → 1 ≤ b → run l s a = .ok s' → ∃ b', Good b' s'
  | [], s, s', b, a, g, _, h => by
    cases h
    exact ⟨b, g⟩
  | c :: r, s, s', b, a, g, hb, h => by
    rw [run_cons] at h
    cases hx : nxt c s with
    | none =>
      rw [hx] at h
      cases h
    | some s1 =>
      rw [hx] at h
      exact run_good r s1 s' _ _ (g.nxt hb hx) (Nat.le_trans hb (Nat.le_add_right _ _)) h
theorem out_told {l : List Nat} {p : Pt} (h : out l = .told p) : p.good = true ∧ inB p = true := by
  rw [out_ends] at h
  cases hr : run l ([.b0], none) 0 with
  | error q =>
    rw [hr] at h
    cases h
  | ok s =>
    rw [hr] at h
    obtain ⟨b, g⟩ := run_good l _ s 1 0 (Good.zero 1) (Nat.le_refl 1) hr
    have h : endOf l.length s = .told p := h
    unfold endOf at h
    split at h
    · rename_i p0 _
      by_cases hi : inB p0 = true
      · rw [if_pos hi] at h
        cases h
        exact ⟨(g.ps _ List.mem_cons_self p (by simp [Fr.ps])).1, hi⟩
      · rw [if_neg hi] at h
        cases h
    · cases h
theorem run_bad : ∀ (l : List Nat) (s : State) (a q : Nat), run l s a = .error q → q < a + l.length
  | [], s, a, q, h => by cases h
  | c :: r, s, a, q, h => by
    rw [run_cons] at h
    cases hx : nxt c s with
    | none =>
      rw [hx] at h
      cases h
      simp
    | some s1 =>
      rw [hx] at h
      have := run_bad r s1 (a + 1) q h
      rw [List.length_cons]
      omega
theorem out_bad {l : List Nat} {n : Nat} (h : out l = .bad n) : n ≤ l.length := by
  rw [out_ends] at h
  cases hr : run l ([.b0], none) 0 with
  | error q =>
    rw [hr] at h
    cases h
    have := run_bad l _ _ _ hr
    omega
  | ok s =>
    rw [hr] at h
    have h : endOf l.length s = .bad n := h
    unfold endOf at h
    split at h
    · split at h
      · cases h
      · cases h
    · cases h
      exact Nat.le_refl _
/-! ### what the law tells of it -/
def tD : Out → PyData
  | .told p => .list [.str (Str.ofString "told"), p.d]
  | .bad n => .list [.str (Str.ofString "refused"), .int (n : Nat)]
  | .big => .list [.str (Str.ofString "refused"), .none]
def okO : Out → Prop
  | .told p => p.good = true ∧ inB p = true
  | .bad n => n ≤ 30000
  | .big => True
mutual
theorem okD_d : ∀ p : Pt, okD p.d = true
  | .non => rfl
  | .sgn _ => rfl
  | .again p => by
    show (true && (okD p.d && true)) = true
    rw [okD_d p]
    rfl
  | .two false p q => by
    show (true && (okD p.d && (okD q.d && true))) = true
    rw [okD_d p, okD_d q]
    rfl
  | .two true p q => by
    show (true && (okD p.d && (okD q.d && true))) = true
    rw [okD_d p, okD_d q]
    rfl
end
theorem dep_d : ∀ p : Pt, p.d.depth ≤ p.deep + 1
  | .non => by decide
  | .sgn _ => by show max 0 (max 0 0) + 1 ≤ 1 + 1; omega
  | .again p => by
    have := dep_d p
    show max 0 (max p.d.depth 0) + 1 ≤ (p.deep + 1) + 1
    omega
  | .two false p q => by
    have := dep_d p
    have := dep_d q
    show max 0 (max p.d.depth (max q.d.depth 0)) + 1 ≤ (max p.deep q.deep + 1) + 1
    omega
  | .two true p q => by
    have := dep_d p
    have := dep_d q
    show max 0 (max p.d.depth (max q.d.depth 0)) + 1 ≤ (max p.deep q.deep + 1) + 1
    omega
theorem log_lt {n : Nat} (h : n ≤ 30000) : n.log2 < 1920 := by
  by_cases h0 : n = 0
  · subst h0
    decide
  · exact (Nat.log2_lt h0).mpr (Nat.lt_of_lt_of_le (by omega : n < 2 ^ 15) (Nat.pow_le_pow_right (by decide) (by decide)))
theorem tD_ok {r : Out} (h : okO r) : okD (tD r) = true ∧ (tD r).showable = true ∧ (tD r).shown.length ≤ sizeLine ∧ (tD r).depth ≤ 64 := by
  cases r with
  | told p =>
    obtain ⟨h1, h2⟩ := h
    obtain ⟨b1, b2, b3⟩ := inB_of h2
    have dd := dep_d p
    refine ⟨?_, ?_, ?_, ?_⟩
    · show (true && (okD p.d && true)) = true
      rw [okD_d p]; rfl
    · show (true && (p.d.showable && true)) = true
      rw [showable_d p]; rfl
    · have q := listText_len_le [PyData.shown (.str (Str.ofString "told")), PyData.shown p.d]
      have h1 : (PyData.shown (.str (Str.ofString "told"))).length = 6 := by decide +kernel
      have h2 := shown_len p (by assumption)
      refine nat_le_size ?_
      show (listText [PyData.shown (.str (Str.ofString "told")), PyData.shown p.d]).length ≤ 16777216
      simp only [List.map_cons, List.map_nil, List.sum_cons, List.sum_nil, List.length_cons, List.length_nil] at q
      omega
    · show max 0 (max p.d.depth 0) + 1 ≤ 64
      omega
  | bad n =>
    have hn : ((n : Nat) : Int).natAbs = n := rfl
    have h : n ≤ 30000 := h
    refine ⟨rfl, ?_, ?_, by show max 0 (max 0 0) + 1 ≤ 64; omega⟩
    · show (true && (decide ((((n : Nat) : Int).natAbs).log2 < 1920) && true)) = true
      rw [hn, decide_eq_true (log_lt h)]
      rfl
    · have q := listText_len_le [PyData.shown (.str (Str.ofString "refused")), PyData.shown (.int (n : Nat))]
      have h1 : (PyData.shown (.str (Str.ofString "refused"))).length = 9 := by decide +kernel
      have h2 : (PyData.shown (.int (n : Nat))).length ≤ 13 := PyData.shown_int_le (by rw [hn]; exact Nat.lt_of_le_of_lt h (by decide))
      refine nat_le_size ?_
      show (listText [PyData.shown (.str (Str.ofString "refused")), PyData.shown (.int (n : Nat))]).length ≤ 16777216
      simp only [List.map_cons, List.map_nil, List.sum_cons, List.sum_nil, List.length_cons, List.length_nil] at q
      omega
  | big => exact ⟨rfl, rfl, nat_le_size (by decide +kernel), by decide⟩
def S_text (n : Nat) : DSp := fun as R => ∃ p : Pt, as = [.dat p.d] ∧ p.good = true ∧ p.deep ≤ n ∧ p.parts ≤ 1000 ∧ R (.str (st (tx p))) []
theorem mono_text (n : Nat) : MonoS (S_text n) := fun as R R' h ⟨p, a, b, c, d, k⟩ => ⟨p, a, b, c, d, h _ _ k⟩
/-- the fifteen classes; the first is NoPattern -/
structure Cls (K : PySem.W.Frag) (mg : Str → Option Value) (C : Nat → Addr) : Prop where
  ac_NoPattern : mg "NoPattern" = some (.ref (C 0))
  ac_NoMachine : mg "NoMachine" = some (.ref (C 1))
  ac_NoText : mg "NoText" = some (.ref (C 2))
  ac_NoWord : mg "NoWord" = some (.ref (C 3))
  ac_NoRow : mg "NoRow" = some (.ref (C 4))
  ac_NoRoom : mg "NoRoom" = some (.ref (C 5))
  ac_NoNumber : mg "NoNumber" = some (.ref (C 6))
  ac_NoSign : mg "NoSign" = some (.ref (C 7))
  ac_NoWay : mg "NoWay" = some (.ref (C 8))
  ac_NoName : mg "NoName" = some (.ref (C 9))
  ac_TooMany : mg "TooMany" = some (.ref (C 10))
  ac_Doubling : mg "Doubling" = some (.ref (C 11))
  ac_Growing : mg "Growing" = some (.ref (C 12))
  ac_Parted : mg "Parted" = some (.ref (C 13))
  ac_Bare : mg "Bare" = some (.ref (C 14))
  ec : ErrC K (C 0)
  kr : ∀ j, j < 15 → PySem.W.kitOne K (.ref (C 0)) (.ref (C j)) = some (decide (j = 0))
  fa : PySem.W.findIn K (.ref (C 0)) "at" = some none
  xm : PySem.W.exmOne K (.ref (C 0)) (.ref (C 0)) = some true
  kv : PySem.W.kitOne K (.ref (C 0)) (.type "ValueError") = some true
def trues : PyData := .list (.bool true :: List.replicate 14 (.bool false))
def S_kinds (C : Nat → Addr) : DSp := fun as R => ∃ e : PyData, as = [.dat (errA (C 0) e)] ∧ R trues []
theorem mono_kinds (C : Nat → Addr) : MonoS (S_kinds C) := fun as R R' h ⟨e, a, k⟩ => ⟨e, a, h _ _ k⟩
def S_told : DSp := fun as R => ∃ d : PyData, as = [.dat d] ∧ okIn d = true ∧ R (tD (due d)) []
theorem mono_told : MonoS S_told := fun as R R' h ⟨d, a, b, k⟩ => ⟨d, a, b, h _ _ k⟩
def S_right (n : Nat) : DSp := fun as R => ∃ l : List Nat, as = [.dat (.str (st l))] ∧ (∀ c ∈ l, c < 1114112) ∧ l.length ≤ 30000 ∧ cnt l + 1 ≤ n ∧ R (.bool true) []
theorem mono_right (n : Nat) : MonoS (S_right n) := fun as R R' h ⟨l, a, e, b, c, k⟩ => ⟨l, a, e, b, c, h _ _ k⟩
theorem own_iff {K : PySem.W.Frag} {mg : Str → Option Value} {C : Nat → Addr} (tl : Cls K mg C) {e : PyData} (j : Nat) (hj : j < 15) (δ : List Sl) (R : DQ) :
    dIsE K (.ref (C j)) (dVar 0) (.dat (errA (C 0) e) :: δ) R = R (.bool (decide (j = 0))) (.dat (errA (C 0) e) :: δ) := by
  refine propext ⟨fun h => ?_, fun h => ⟨C 0, _, _, _, rfl, tl.ec, tl.kr j hj, h⟩⟩
  obtain ⟨C0, ns, ds, x, e, _, q, r⟩ := h
  obtain ⟨rfl, _, _⟩ := errD_inj e
  rw [tl.kr j hj] at q
  cases q
  exact r
theorem sz1 : 1 ≤ sizeLine := by decide
theorem sz2 : 2 ≤ sizeLine := by decide
theorem sz3 : 3 ≤ sizeLine := by decide
theorem sz6 : 6 ≤ sizeLine := by decide
theorem sz9 : 9 ≤ sizeLine := by decide
theorem sz12 : 12 ≤ sizeLine := by decide
theorem sz15 : 15 ≤ sizeLine := by decide
theorem call_x1 {xw : XW} {S : DSx} {ua : DCA} {δ δ' : List Sl} {R : DQ} (ds : List PyData) (hu : ∀ Q : List CA → List Sl → Prop, Q (ds.map CA.d) δ' → ua δ Q) (mono : ∀ as R R' X X', (∀ d o, R d o → R' d o) → (∀ d o, X d o → X' d o) → S as R X → S as R' X')
    (k : S (ds.map Sl.dat) (fun d outs => outs = [] ∧ R d δ') fun e outs => outs = [] ∧ xw.xr e δ') : @dCallX xw S ua δ R := @call_x xw S ua δ δ' R ds hu mono k
abbrev s_law_text : Stmt := top 41
theorem sc_law_text : FnScope ["_law_pattern_here"] ["_law_pattern_here"] (defScope s_law_text) := ⟨rfl, rfl, rfl, by decide +kernel, rfl, by decide +kernel, by decide +kernel⟩
abbrev s_law_kinds : Stmt := top 42
theorem sc_law_kinds : FnScope ["_law_error", "_law_found"] ["_law_error"] (defScope s_law_kinds) := ⟨rfl, rfl, rfl, by decide +kernel, rfl, by decide +kernel, by decide +kernel⟩
abbrev s_law_told : Stmt := top 47
theorem sc_law_told : FnScope ["_law_text_here", "_law_error", "_law_found", "e"] ["_law_text_here"] (defScope s_law_told) := ⟨rfl, rfl, rfl, by decide +kernel, rfl, by decide +kernel, by decide +kernel⟩
abbrev s_law_right : Stmt := top 48
theorem sc_law_right : FnScope ["_law_text_here", "_law_due"] ["_law_text_here"] (defScope s_law_right) := ⟨rfl, rfl, rfl, by decide +kernel, rfl, by decide +kernel, by decide +kernel⟩
section
variable {P : Program} {w : World} {K : PySem.W.Frag} {mg : Str → Option Value} {base : Heap}
variable (m_len : mg "len" = none) (m_isinstance : mg "isinstance" = none) (m_str : mg "str" = none) (m_bool : mg "bool" = none) (m_range : mg "range" = none) (m_int : mg "int" = none) (m_max : mg "max" = none) (m_min : mg "min" = none)
  (m_sum : mg "sum" = none) (m_sorted : mg "sorted" = none) (m_set : mg "set" = none) (m_tuple : mg "tuple" = none) (m_repr : mg "repr" = none) (m_ValueError : mg "ValueError" = none)
include m_len m_isinstance m_str m_bool m_range m_int m_max m_min m_sum m_sorted m_set m_tuple m_repr m_ValueError
theorem ok_law_text {f : Addr} {fd : FuncData} (F : Fun K "_law_text" "_law_text" s_law_text f fd) (n : Nat) (k_law_text : Kn P w K mg base (n + 1) "_law_text" (S_text n)) : FnOkG P w K mg base CX0 (n + 1 + 1) f fd ["_law_pattern_here"] (spD K (S_text (n + 1))) := by
  refine fnD F sc_law_text (fun as R h => by obtain ⟨_, rfl, _⟩ := h; rfl) fun cdv A outer s H E hr => ?_
  have nd := sc_law_text.nd
  have hu := hr.units
  have hu1 := hr.units1
  refine ⟨_, _, (dss_cons (ds_if (dt_cmp (op_eqD hu) ro_eq (nomark _) (de_ix ix_tup ro_ixT (de_var 0) de_int) de_str) (dss_one (ds_ret de_str)) dss_nil)
    (dss_cons (ds_if (dt_cmp (op_eqD hu) ro_eq (nomark _) (de_ix ix_tup ro_ixT (de_var 0) de_int) de_str) (dss_one (ds_ret (de_op op_add_str ro_addS (de_op op_add_str ro_addS (de_ix ix_list ro_ixL (de_lst (da_cons de_str (da_cons de_str da_nil))) (de_int1 m_int (de_cmp op_gt ro_B (nomark _) (de_len (ps := default) m_len (de_ix ix_tup ro_ixT (de_var 0) de_int)) de_int))) (de_ix ix_tup ro_ixT (de_var 0) de_int)) (de_ix ix_list ro_ixL (de_lst (da_cons de_str (da_cons de_str da_nil))) (de_int1 m_int (de_cmp op_gt ro_B (nomark _) (de_len (ps := default) m_len (de_ix ix_tup ro_ixT (de_var 0) de_int)) de_int)))))) dss_nil)
    (dss_cons (ds_if (dt_cmp (op_eqD hu) ro_eq (nomark _) (de_ix ix_tup ro_ixT (de_var 0) de_int) de_str) (dss_one (ds_ret (de_op op_add_str ro_addS (de_call k_law_text hr (by omega) (dca_d (de_ix ix_tup ro_ixT (de_var 0) de_int) dca_nil)) de_str))) dss_nil)
    (dss_one (ds_ret (de_op op_add_str ro_addS (de_op op_add_str ro_addS (de_op op_add_str ro_addS (de_op op_add_str ro_addS de_str (de_call k_law_text hr (by omega) (dca_d (de_ix ix_tup ro_ixT (de_var 0) de_int) dca_nil))) (de_ix ix_list ro_ixL (de_lst (da_cons de_str (da_cons de_str da_nil))) (de_int1 m_int (de_cmp (op_eqD hu) ro_eq (nomark _) (de_ix ix_tup ro_ixT (de_var 0) de_int) de_str)))) (de_call k_law_text hr (by omega) (dca_d (de_ix ix_tup ro_ixT (de_var 0) de_int) dca_nil))) de_str)))))), ?_⟩
  rintro as R ⟨p, rfl, hg, hn, hp, hR⟩
  have lp := (tx_len p hg).1
  have kid : ∀ {q : Pt} {R' : DQ} {u : DCA} {δ : List Sl}, q.good = true → q.deep ≤ n → q.parts ≤ 1000 → (∀ Q : List CA → List Sl → Prop, Q [.d q.d] δ → u δ Q) → R' (.str (st (tx q))) δ → dCall (S_text n) u δ R' := fun {q R' u δ} a b c h k =>
    call_pure [q.d] h ⟨q, rfl, a, b, c, rfl, k⟩ (mono_text n _)
  generalize hT : dSeq (dIfS (dTest (dOp dEq (dOp dIxT (dVar 0) (dC (.int 0))) (dC (.str (Str.ofString "again"))))) _ _) _ = T
  cases p with
  | non =>
    have e : st (tx .non) = Str.ofString "_" := by decide +kernel
    rw [e] at hR
    simp [dSeq, dIfS, dTest, dOp, dIxT, dVar, dC, dEq, Pt.d, at0, sh_none, ev_ss, t_nn, dRet, endsOf]
    exact ⟨[], hR, outs0⟩
  | sgn z =>
    have gl := good_len hg
    have zl : z.cps.toList.length = z.length := by rw [Array.length_toList]; rfl
    simp [dSeq, dIfS, dTest, dOp, dIxT, dVar, dC, dEq, Pt.d, at0, at1, sh_none, sh_sign, ev_ss, t_sn, t_ss, dRet, endsOf, dNext, dLst, dCons, dNil, dInt1, dLen, dB, dIxL, dAddS]
    have e2 : (2 : Nat) ≤ sizeLine := nat_le_size (by decide)
    refine ⟨e2, nat_le_size (by omega), ?_⟩
    by_cases h1 : z.length = 1
    · rw [if_neg (by omega), at0]
      have e : st (tx (.sgn z)) = Str.ofString "" ++ z ++ Str.ofString "" := by
        show st (lt z.cps.toList) = _
        unfold lt
        rw [if_pos (by omega), c_e]
        conv => rhs; rw [← st_of z]
        rw [st_app, st_app]
        simp
      have l0 : (Str.ofString "").length = 0 := by decide +kernel
      refine ⟨by rw [l0]; exact nat_le_size (by omega), e2, nat_le_size (by omega), ?_⟩
      rw [at0]
      refine ⟨by rw [len_app, l0]; exact nat_le_size (by omega), [], ?_, outs0⟩
      rw [e] at hR
      exact hR
    · rw [if_pos (by omega), at1]
      have e : st (tx (.sgn z)) = Str.ofString "[" ++ z ++ Str.ofString "]" := by
        show st (lt z.cps.toList) = _
        unfold lt
        rw [if_neg (by omega), c_lb, c_rb]
        conv => rhs; rw [← st_of z]
        rw [st_app, st_app]
        simp
      have l0 : (Str.ofString "[").length = 1 := by decide +kernel
      have l1 : (Str.ofString "]").length = 1 := by decide +kernel
      refine ⟨by rw [l0]; exact nat_le_size (by omega), e2, nat_le_size (by omega), ?_⟩
      rw [at1]
      refine ⟨by rw [len_app, l0, l1]; exact nat_le_size (by omega), [], ?_, outs0⟩
      rw [e] at hR
      exact hR
  | again p =>
    have hp' : p.parts + 1 ≤ 1000 := hp
    have lp1 := (tx_len p hg).1
    have l0 : (st (tx p)).length = (tx p).length := st_len _
    simp [dSeq, dIfS, dTest, dOp, dIxT, dVar, dC, dEq, Pt.d, at0, at1, sh_none, sh_sign, sh_again, ev_ss, t_an, t_as, dNext]
    subst hT
    dsimp only [dSeq]
    refine ⟨sh_again, sh_again, ?_⟩
    rw [ev_ss, t_aa]
    simp only [↓reduceIte]
    dsimp only [dRet, dOp]
    refine kid (q := p) hg (Nat.le_of_succ_le_succ hn) (by omega) (fun Q q => q) ?_
    refine ⟨by rw [l0]; exact nat_le_size (by show (tx p).length + 1 ≤ 16777216; omega), [], ?_, outs0⟩
    rw [c_star, st_app]
    exact hR
  | two o p q =>
    have hg' : (p.good && q.good) = true := hg
    rw [Bool.and_eq_true] at hg'
    have hn' : max p.deep q.deep + 1 ≤ n + 1 := hn
    have hp' : p.parts + q.parts + 1 ≤ 1000 := hp
    have lp1 := (tx_len p hg'.1).1
    have lq1 := (tx_len q hg'.2).1
    have l0 : (st (tx p)).length = (tx p).length := st_len _
    have l1 : (st (tx q)).length = (tx q).length := st_len _
    have l2 : (Str.ofString "(").length = 1 := by decide +kernel
    have l3 : (Str.ofString ")").length = 1 := by decide +kernel
    have l4 : (Str.ofString "|").length = 1 := by decide +kernel
    have l5 : (Str.ofString "").length = 0 := by decide +kernel
    have e2 : (2 : Nat) ≤ sizeLine := nat_le_size (by decide)
    cases o with
    | false =>
      simp [dSeq, dIfS, dTest, dOp, dIxT, dVar, dC, dEq, Pt.d, at0, at1, sh_none, sh_sign, sh_then, ev_ss, t_tn, t_ts, dNext]
      subst hT
      dsimp only [dSeq]
      refine ⟨sh_then, sh_again, ?_⟩
      rw [ev_ss, t_ta]
      simp only [Bool.false_eq_true, if_false]
      dsimp only [dNext, dRet, dOp, dC, dInt1, dLst, dCons, dNil]
      refine kid (q := p) hg'.1 (by omega) (by omega) (fun Q q => q) ?_
      refine ⟨by rw [l0, l2]; exact nat_le_size (by omega), e2, sh_then, sh_or, ?_⟩
      rw [ev_ss, t_to]
      show (match atI [PyData.str (Str.ofString ""), PyData.str (Str.ofString "|")] 0 with
        | some d => _
        | none => False)
      rw [at0]
      refine ⟨by rw [len_app, l0, l2, l5]; exact nat_le_size (by omega), ?_⟩
      refine kid (q := q) hg'.2 (by omega) (by omega) (fun Q q => q) ?_
      refine ⟨by rw [len_app, len_app, l0, l1, l2, l5]; exact nat_le_size (by omega), by rw [len_app, len_app, len_app, l0, l1, l2, l3, l5]; exact nat_le_size (by omega), [], ?_, outs0⟩
      rw [c_opn, c_e, c_cls, st_app, st_app, st_app, st_app]
      have e : [40] ++ tx p ++ [] ++ tx q ++ [41] = tx (.two false p q) := by
        show _ = 40 :: (tx p ++ (tx q ++ [41]))
        simp
      rw [e]
      exact hR
    | true =>
      simp [dSeq, dIfS, dTest, dOp, dIxT, dVar, dC, dEq, Pt.d, at0, at1, sh_none, sh_sign, sh_or, ev_ss, t_on, t_os, dNext]
      subst hT
      dsimp only [dSeq]
      refine ⟨sh_or, sh_again, ?_⟩
      rw [ev_ss, t_oa]
      simp only [Bool.false_eq_true, if_false]
      dsimp only [dNext, dRet, dOp, dC, dInt1, dLst, dCons, dNil]
      refine kid (q := p) hg'.1 (by omega) (by omega) (fun Q q => q) ?_
      refine ⟨by rw [l0, l2]; exact nat_le_size (by omega), e2, sh_or, sh_or, ?_⟩
      rw [ev_ss, t_oo]
      show (match atI [PyData.str (Str.ofString ""), PyData.str (Str.ofString "|")] 1 with
        | some d => _
        | none => False)
      rw [at1]
      refine ⟨by rw [len_app, l0, l2, l4]; exact nat_le_size (by omega), ?_⟩
      refine kid (q := q) hg'.2 (by omega) (by omega) (fun Q q => q) ?_
      refine ⟨by rw [len_app, len_app, l0, l1, l2, l4]; exact nat_le_size (by omega), by rw [len_app, len_app, len_app, l0, l1, l2, l3, l4]; exact nat_le_size (by omega), [], ?_, outs0⟩
      rw [c_opn, c_bar, c_cls, st_app, st_app, st_app, st_app]
      have e : [40] ++ tx p ++ [124] ++ tx q ++ [41] = tx (.two true p q) := by
        show _ = 40 :: (tx p ++ (124 :: (tx q ++ [41])))
        simp
      rw [e]
      exact hR
theorem ok_law_kinds {f : Addr} {fd : FuncData} (F : Fun K "_law_kinds" "_law_kinds" s_law_kinds f fd) {C : Nat → Addr} (tl : Cls K mg C) : FnOkG P w K mg base CX0 1 f fd ["_law_error"] (spD K (S_kinds C)) := by
  refine fnD F sc_law_kinds (fun as R h => by obtain ⟨_, rfl, _⟩ := h; rfl) fun cdv A outer s H E hr => ?_
  have nd := sc_law_kinds.nd
  have hu := hr.units
  have hu1 := hr.units1
  have ac_NoPattern := tl.ac_NoPattern
  have ac_NoMachine := tl.ac_NoMachine
  have ac_NoText := tl.ac_NoText
  have ac_NoWord := tl.ac_NoWord
  have ac_NoRow := tl.ac_NoRow
  have ac_NoRoom := tl.ac_NoRoom
  have ac_NoNumber := tl.ac_NoNumber
  have ac_NoSign := tl.ac_NoSign
  have ac_NoWay := tl.ac_NoWay
  have ac_NoName := tl.ac_NoName
  have ac_TooMany := tl.ac_TooMany
  have ac_Doubling := tl.ac_Doubling
  have ac_Growing := tl.ac_Growing
  have ac_Parted := tl.ac_Parted
  have ac_Bare := tl.ac_Bare
  refine ⟨_, _, (dss_cons (ds_set 1 nd (de_lst (da_cons (de_isE m_isinstance (de_var 0) (pe_glob (v := .ref _) rfl ac_NoPattern rfl) ref_is) (da_cons (de_isE m_isinstance (de_var 0) (pe_glob (v := .ref _) rfl ac_NoMachine rfl) ref_is) (da_cons (de_isE m_isinstance (de_var 0) (pe_glob (v := .ref _) rfl ac_NoText rfl) ref_is) da_nil)))))
    (dss_cons (ds_set 1 nd (de_op op_cat ro_cat (de_var 1) (de_lst (da_cons (de_isE m_isinstance (de_var 0) (pe_glob (v := .ref _) rfl ac_NoWord rfl) ref_is) (da_cons (de_isE m_isinstance (de_var 0) (pe_glob (v := .ref _) rfl ac_NoRow rfl) ref_is) (da_cons (de_isE m_isinstance (de_var 0) (pe_glob (v := .ref _) rfl ac_NoRoom rfl) ref_is) da_nil))))))
    (dss_cons (ds_set 1 nd (de_op op_cat ro_cat (de_var 1) (de_lst (da_cons (de_isE m_isinstance (de_var 0) (pe_glob (v := .ref _) rfl ac_NoNumber rfl) ref_is) (da_cons (de_isE m_isinstance (de_var 0) (pe_glob (v := .ref _) rfl ac_NoSign rfl) ref_is) (da_cons (de_isE m_isinstance (de_var 0) (pe_glob (v := .ref _) rfl ac_NoWay rfl) ref_is) da_nil))))))
    (dss_cons (ds_set 1 nd (de_op op_cat ro_cat (de_var 1) (de_lst (da_cons (de_isE m_isinstance (de_var 0) (pe_glob (v := .ref _) rfl ac_NoName rfl) ref_is) (da_cons (de_isE m_isinstance (de_var 0) (pe_glob (v := .ref _) rfl ac_TooMany rfl) ref_is) (da_cons (de_isE m_isinstance (de_var 0) (pe_glob (v := .ref _) rfl ac_Doubling rfl) ref_is) da_nil))))))
    (dss_one (ds_ret (de_op op_cat ro_cat (de_var 1) (de_lst (da_cons (de_isE m_isinstance (de_var 0) (pe_glob (v := .ref _) rfl ac_Growing rfl) ref_is) (da_cons (de_isE m_isinstance (de_var 0) (pe_glob (v := .ref _) rfl ac_Parted rfl) ref_is) (da_cons (de_isE m_isinstance (de_var 0) (pe_glob (v := .ref _) rfl ac_Bare rfl) ref_is) da_nil))))))))))), ?_⟩
  rintro as R ⟨e, rfl, hR⟩
  have q := fun j hj δ R => own_iff (e := e) tl j hj δ R
  dsimp only [cxOf, Cx.nox]
  simp [q 0 (by decide), q 1 (by decide), q 2 (by decide), q 3 (by decide), q 4 (by decide), q 5 (by decide), q 6 (by decide), q 7 (by decide), q 8 (by decide), q 9 (by decide), q 10 (by decide), q 11 (by decide), q 12 (by decide), q 13 (by decide), q 14 (by decide), dRet, dVar, dOp, dC, dCat, dLst, dCons, dNil, dAsg, dgName, dSeq, endsOf, sz3, sz6, sz9, sz12, sz15]
  exact ⟨[], hR, outs0⟩
theorem ok_law_told {f : Addr} {fd : FuncData} (F : Fun K "_law_told" "_law_told" s_law_told f fd) {C : Nat → Addr} (tl : Cls K mg C) (k_read : KnX P w K mg base 5 "read" (S_read (C 0))) (k_law_kinds : Kn P w K mg base 1 "_law_kinds" (S_kinds C)) : FnOkG P w K mg base CX0 6 f fd ["_law_text_here"] (spD K S_told) := by
  refine fnD F sc_law_told (fun as R h => by obtain ⟨_, rfl, _⟩ := h; rfl) fun cdv A outer s H E hr => ?_
  have nd := sc_law_told.nd
  have hu := hr.units
  have hu1 := hr.units1
  have ac_NoPattern := tl.ac_NoPattern
  refine ⟨_, _, (dss_cons (ds_set 1 nd de_non)
    (dss_cons (ds_try rfl rfl (fun xw pn xe tk po => (dss_one (ds_set 2 nd (de_callXI tk k_read hr (by omega) (dca_d (de_var 0) dca_nil)))))
    (dcat_c 3 nd ⟨rfl, by decide, .inl ac_NoPattern⟩ (fun a pn => (dss_one (ds_set 1 nd (de_var 3)))) dcat_nil))
    (dss_cons (ds_if (dt_cmp op_isN ro_isN (nomark _) (de_var 1) de_non) (dss_one (ds_ret (de_lst (da_cons de_str (da_cons (de_var 2) da_nil))))) dss_nil)
    (dss_cons (ds_if (dt_w (dw_or (dt_not (dt_val (de_isE m_isinstance (de_var 1) (pe_bltn (v := .ty "ValueError") rfl m_ValueError (by decide +kernel) rfl (by decide) (by decide)) ty_is))) (dw_or1 (dt_cmp (op_neD hu) ro_ne (nomark _) (de_call k_law_kinds hr (by omega) (dca_d (de_var 1) dca_nil)) (de_op op_cat ro_cat (de_lst (da_cons de_bl da_nil)) (de_op op_rep ro_rep (de_lst (da_cons de_bl da_nil)) de_int)))))) (dss_one (ds_ret (de_lst (da_cons de_str da_nil)))) dss_nil)
    (dss_one (ds_ret (de_lst (da_cons de_str (da_cons (de_ef (de_var 1)) da_nil))))))))), ?_⟩
  rintro as R ⟨d, rfl, hd, hR⟩
  generalize hT : dSeq (dIfS (dTest (dOp dIsN _ _)) _ _) _ = TAIL
  dsimp only [dSeq, dAsg, dC, dgName]
  have told : ∀ p : Pt, R (tD (.told p)) [] → TAIL (endsOf R) [.dat d, .dat .none, .dat p.d, .no] := fun p h => by
    rw [← hT]
    dsimp only [dSeq]
    refine ifs (b := true) (fun N n => tst_op (a := .none) (b := .none) (fun Q q => q) (fun Q q => q) n) ?_
    rw [if_pos rfl]
    exact ⟨sz2, [], h, outs0⟩
  have refused : ∀ e : PyData, R (.list [.str (Str.ofString "refused"), e]) [] → ∀ s2, TAIL (endsOf R) [.dat d, .dat (errA (C 0) e), s2, .no] := fun e h s2 => by
    rw [← hT]
    dsimp only [dSeq]
    refine ifs (b := false) (fun N n => tst_op (a := errA (C 0) e) (b := .none) (fun Q q => q) (fun Q q => q) n) ?_
    rw [if_neg (by decide)]
    dsimp only [dNext]
    refine ifs (b := false) (fun N n => ?_) ?_
    · refine ⟨C 0, ["at"], [e], true, rfl, tl.ec, tl.kv, ?_⟩
      show dTest (dOp dNe (dCall (S_kinds C) (cD (dVar 1) cNil)) (dOp dCat (dLst (dCons (dC (.bool true)) dNil)) (dOp rdRep (dLst (dCons (dC (.bool false)) dNil)) (dC (.int 14))))) [.dat d, .dat (errA (C 0) e), s2, .no] N
      refine tst_op (a := trues) (b := trues) (fun Q q => call_p [errA (C 0) e] (fun Q q => q) ⟨e, rfl, rfl, q⟩ (mono_kinds C)) (fun Q q => ⟨sz1, sz1, by decide, by decide, by decide, by decide, q⟩) ⟨by decide +kernel, by decide +kernel, ?_⟩
      show N (!PyData.eqv trues trues) _
      rw [show PyData.eqv trues trues = true by decide +kernel]
      exact n
    rw [if_neg (by decide)]
    refine ⟨C 0, ["at"], [e], e, rfl, tl.ec, tl.fa, rfl, sz2, [], h, outs0⟩
  refine @call_x1 _ (S_read (C 0)) (cD (dVar 0) cNil) [.dat d, .dat .none, .no, .no] [.dat d, .dat .none, .no, .no] _ [d] (fun Q z => z) (monox_read (C 0)) ⟨d, rfl, hd, ?_⟩
  cases hx : due d with
  | told p =>
    rw [hx] at hR
    exact ⟨rfl, told p hR⟩
  | bad n =>
    rw [hx] at hR
    refine ⟨rfl, C 0, ["at"], _, true, rfl, tl.xm, ?_⟩
    rw [if_pos rfl]
    exact refused _ hR _
  | big =>
    rw [hx] at hR
    refine ⟨rfl, C 0, ["at"], _, true, rfl, tl.xm, ?_⟩
    rw [if_pos rfl]
    exact refused _ hR _
theorem ok_law_right {f : Addr} {fd : FuncData} (F : Fun K "_law_right" "_law_right" s_law_right f fd) (n : Nat) (h10 : 10 ≤ n) (k_law_read : Kn P w K mg base (n + 3) "_law_read" (S_lread n)) (k_law_told : Kn P w K mg base 6 "_law_told" S_told) : FnOkG P w K mg base CX0 (n + 4) f fd ["_law_text_here"] (spD K (S_right n)) := by
  refine fnD F sc_law_right (fun as R h => by obtain ⟨_, rfl, _⟩ := h; rfl) fun cdv A outer s H E hr => ?_
  have nd := sc_law_right.nd
  have hu := hr.units
  have hu1 := hr.units1
  refine ⟨_, _, (dss_cons (ds_set 1 nd (de_call k_law_read hr (by omega) (dca_d (de_var 0) dca_nil)))
    (dss_one (ds_ret (de_cmp op_eq ro_eqT (nomark _) (de_reprX m_repr hr.gd hu1 (de_call k_law_told hr (by omega) (dca_d (de_var 0) dca_nil))) (de_reprX m_repr hr.gd hu1 (de_lst (da_cons (de_ix ix_list ro_ixL (de_lst (da_cons de_str (da_cons de_str da_nil))) (de_int1 m_int (de_isi (T := "tuple") m_isinstance m_tuple (by decide +kernel) (de_var 1)))) (da_cons (de_var 1) da_nil)))))))), ?_⟩
  rintro as R ⟨l, rfl, hc, hl, hn, hR⟩
  have oi : okIn (.str (st l)) = true := by
    show ((l.all fun c => decide (c < 1114112)) && decide ((st l).length ≤ 30000)) = true
    rw [st_len, decide_eq_true hl, Bool.and_true]
    exact List.all_eq_true.mpr fun c h => decide_eq_true (hc c h)
  have oo : okO (out l) := by
    cases h : out l with
    | told p => exact out_told h
    | bad n =>
      have := out_bad h
      show n ≤ 30000
      omega
    | big => trivial
  obtain ⟨t1, t2, t3, t4⟩ := tD_ok oo
  dsimp only [dSeq, dAsg, dgName]
  refine call_p [.str (st l)] (fun Q q => q) ⟨l, rfl, hc, by omega, by omega, rfl, ?_⟩ (mono_lread n)
  show dRet _ _ [.dat (.str (st l)), .dat (outD (out l))]
  dsimp only [dRet, dOp, dReprX]
  refine call_p [.str (st l)] (fun Q q => q) ⟨.str (st l), rfl, oi, rfl, ?_⟩ mono_told
  rw [show due (.str (st l)) = out l by show out (st l).cps.toList = out l; rw [st_cps]]
  refine ⟨t1, t2, t3, t4, ?_⟩
  have fin : ∀ d : PyData, d = tD (out l) → okD d = true ∧ d.showable = true ∧ d.shown.length ≤ sizeLine ∧ d.depth ≤ 64 ∧ (endsOf R).rt (.bool ((tD (out l)).shown == d.shown)) [.dat (.str (st l)), .dat (outD (out l))] := fun d e => by
    subst e
    refine ⟨t1, t2, t3, t4, ?_⟩
    rw [beq_self_eq_true]
    exact ⟨[], hR, outs0⟩
  cases hx : out l with
  | told p =>
    obtain ⟨ds, ed⟩ := d_tup p
    rw [hx] at fin
    refine ⟨sz2, ?_⟩
    show (match kitB (tyD p.d) "tuple" with
      | some b => _
      | none => False)
    rw [ed]
    show (match kitB "tuple" "tuple" with
      | some b => _
      | none => False)
    rw [kb_tt]
    exact ⟨sz2, fin _ rfl⟩
  | bad n =>
    rw [hx] at fin
    refine ⟨sz2, ?_⟩
    show (match kitB "int" "tuple" with
      | some b => _
      | none => False)
    rw [show kitB "int" "tuple" = some false by decide +kernel]
    exact ⟨sz2, fin _ rfl⟩
  | big =>
    rw [hx] at fin
    refine ⟨sz2, ?_⟩
    show (match kitB "NoneType" "tuple" with
      | some b => _
      | none => False)
    rw [show kitB "NoneType" "tuple" = some false by decide +kernel]
    exact ⟨sz2, fin _ rfl⟩
end
end K05

set_option Elab.async false
set_option linter.all false
set_option maxRecDepth 100000
set_option maxHeartbeats 4000000
/-! K05o: texts spoilt; plain ones -/
namespace K05
open PySem PySem.Spec L2 TL
theorem cut_to (l : List Nat) (a : Nat) (h : a ≤ l.length) : cutS (st l) none (some (a : Nat)) = st (l.take a) := by
  have q := HT.sIx_nat (st l).length (st l).length a
  rw [st_len] at q
  unfold cutS
  rw [st_len, q, show HT.sIx l.length 0 none = 0 from rfl, show min a l.length = a by omega]
  show st ((l.drop 0).take (a - 0)) = _
  rw [List.drop_zero, Nat.sub_zero]
theorem cut_from (l : List Nat) (a : Nat) : cutS (st l) (some (a : Nat)) none = st (l.drop a) := by
  have q := HT.sIx_nat (st l).length 0 a
  rw [st_len] at q
  unfold cutS
  rw [st_len, q, show HT.sIx l.length l.length none = l.length from rfl]
  show st ((l.drop (min a l.length)).take (l.length - min a l.length)) = _
  have e : l.drop (min a l.length) = l.drop a := by
    by_cases h : a ≤ l.length
    · rw [show min a l.length = a by omega]
    · rw [List.drop_eq_nil_of_le (by omega), List.drop_eq_nil_of_le (by omega)]
  rw [e, List.take_of_length_le (by rw [List.length_drop]; omega)]
theorem cut_one (l : List Nat) (a : Nat) (h : a ≤ l.length) : cutS (st l) (some (a : Nat)) (some ((a + 1 : Nat) : Int)) = st ((l.drop a).take 1) := by
  have q := HT.sIx_nat (st l).length 0 a
  have q2 := HT.sIx_nat (st l).length (st l).length (a + 1)
  rw [st_len] at q q2
  unfold cutS
  rw [st_len, q, q2]
  show st ((l.drop (min a l.length)).take (min (a + 1) l.length - min a l.length)) = _
  rw [show min a l.length = a by omega]
  by_cases h : a + 1 ≤ l.length
  · rw [show min (a + 1) l.length - a = 1 by omega]
  · rw [List.drop_eq_nil_of_le (by omega), List.take_nil, List.take_nil]
/-- a text, with one sign put in, left out, exchanged, told twice, or cut off -/
def spoil (l : List Nat) (a c : Nat) : Nat → List Nat
  | 0 => l.take a ++ [c] ++ (l.drop a).take 1 ++ l.drop (a + 1)
  | 1 => l.take a ++ l.drop (a + 1)
  | 2 => l.take a ++ [c] ++ l.drop (a + 1)
  | 3 => l.take a ++ ((l.drop a).take 1 ++ (l.drop a).take 1) ++ l.drop (a + 1)
  | _ => l.take a
/-- right texts: few signs, few stars and brackets -/
structure Tx (n m : Nat) (l : List Nat) : Prop where
  code : ∀ c ∈ l, c < 128
  len : l.length ≤ m
  few : cnt l ≤ n
theorem cnt_split (l : List Nat) (a : Nat) : cnt (l.take a) + cnt ((l.drop a).take 1) + cnt (l.drop (a + 1)) = cnt l := by
  have e : l = l.take a ++ ((l.drop a).take 1 ++ (l.drop a).drop 1) := by
    rw [List.take_append_drop, List.take_append_drop]
  have e2 : (l.drop a).drop 1 = l.drop (a + 1) := List.drop_drop
  rw [e2] at e
  have := congrArg cnt e
  rw [cnt_app, cnt_app] at this
  omega
theorem len_split (l : List Nat) (a : Nat) : (l.take a).length + ((l.drop a).take 1).length + (l.drop (a + 1)).length = l.length := by
  have e : l = l.take a ++ ((l.drop a).take 1 ++ (l.drop a).drop 1) := by
    rw [List.take_append_drop, List.take_append_drop]
  have e2 : (l.drop a).drop 1 = l.drop (a + 1) := List.drop_drop
  rw [e2] at e
  have := congrArg List.length e
  rw [List.length_append, List.length_append] at this
  omega
theorem cnt_le (l : List Nat) : cnt l ≤ l.length := List.countP_le_length
theorem Tx.spoil {n m : Nat} {l : List Nat} (h : Tx n m l) (a : Nat) {c : Nat} (hc : c < 128) (k : Nat) : Tx (n + 1) (m + 1) (spoil l a c k) := by
  have h1 := h.len
  have h2 := h.few
  have s1 := cnt_split l a
  have s2 := len_split l a
  have c1 : cnt ((l.drop a).take 1) ≤ 1 := Nat.le_trans (cnt_le _) (by rw [List.length_take]; omega)
  have l1 : ((l.drop a).take 1).length ≤ 1 := by rw [List.length_take]; omega
  have cc : cnt [c] ≤ 1 := cnt_le _
  have t1 : ∀ d ∈ l.take a, d < 128 := fun d hd => h.code d (List.mem_of_mem_take hd)
  have t2 : ∀ d ∈ (l.drop a).take 1, d < 128 := fun d hd => h.code d (List.mem_of_mem_drop (List.mem_of_mem_take hd))
  have t3 : ∀ d ∈ l.drop (a + 1), d < 128 := fun d hd => h.code d (List.mem_of_mem_drop hd)
  have tc : ∀ d ∈ [c], d < 128 := fun d hd => by rw [List.mem_singleton.mp hd]; exact hc
  have ap : ∀ {x y : List Nat}, (∀ d ∈ x, d < 128) → (∀ d ∈ y, d < 128) → ∀ d ∈ x ++ y, d < 128 := fun hx hy d hd => (List.mem_append.mp hd).elim (hx d) (hy d)
  match k with
  | 0 =>
    refine ⟨ap (ap (ap t1 tc) t2) t3, ?_, ?_⟩
    · show (l.take a ++ [c] ++ (l.drop a).take 1 ++ l.drop (a + 1)).length ≤ m + 1
      rw [List.length_append, List.length_append, List.length_append, List.length_singleton]
      omega
    · show cnt (l.take a ++ [c] ++ (l.drop a).take 1 ++ l.drop (a + 1)) ≤ n + 1
      rw [cnt_app, cnt_app, cnt_app]
      omega
  | 1 =>
    refine ⟨ap t1 t3, ?_, ?_⟩
    · show (l.take a ++ l.drop (a + 1)).length ≤ m + 1
      rw [List.length_append]
      omega
    · show cnt (l.take a ++ l.drop (a + 1)) ≤ n + 1
      rw [cnt_app]
      omega
  | 2 =>
    refine ⟨ap (ap t1 tc) t3, ?_, ?_⟩
    · show (l.take a ++ [c] ++ l.drop (a + 1)).length ≤ m + 1
      rw [List.length_append, List.length_append, List.length_singleton]
      omega
    · show cnt (l.take a ++ [c] ++ l.drop (a + 1)) ≤ n + 1
      rw [cnt_app, cnt_app]
      omega
  | 3 =>
    refine ⟨ap (ap t1 (ap t2 t2)) t3, ?_, ?_⟩
    · show (l.take a ++ ((l.drop a).take 1 ++ (l.drop a).take 1) ++ l.drop (a + 1)).length ≤ m + 1
      rw [List.length_append, List.length_append, List.length_append]
      omega
    · show cnt (l.take a ++ ((l.drop a).take 1 ++ (l.drop a).take 1) ++ l.drop (a + 1)) ≤ n + 1
      rw [cnt_app, cnt_app, cnt_app]
      omega
  | _ + 4 =>
    refine ⟨t1, ?_, ?_⟩
    · show (l.take a).length ≤ m + 1
      omega
    · show cnt (l.take a) ≤ n + 1
      omega
theorem Tx.le {n m n' m' : Nat} {l : List Nat} (h : Tx n m l) (hn : n ≤ n') (hm : m ≤ m') : Tx n' m' l := ⟨h.code, Nat.le_trans h.len hm, Nat.le_trans h.few hn⟩
theorem ix14 (r : Int) (h : 0 ≤ r ∧ r < 14) : ∃ c, c < 128 ∧ atI (Str.ofString "()[]|*_abz A.0").cps.toList r = some c := by
  have all : ∀ k : Nat, k < 14 → ∃ c, c < 128 ∧ atI (Str.ofString "()[]|*_abz A.0").cps.toList ((k : Nat) : Int) = some c := by
    intro k hk
    have a : ∀ k, k < 14 → (match atI (Str.ofString "()[]|*_abz A.0").cps.toList ((k : Nat) : Int) with
      | some c => decide (c < 128)
      | none => false) = true := by decide +kernel
    have := a k hk
    split at this
    · rename_i c e
      exact ⟨c, of_decide_eq_true this, e⟩
    · cases this
  have := all r.toNat (by omega)
  rw [show ((r.toNat : Nat) : Int) = r by omega] at this
  exact this
theorem sz14 : (Str.ofString "()[]|*_abz A.0").length ≤ sizeLine := by decide +kernel
theorem dbl (l : List Nat) (h : l.length ≤ 1) : Txt.mul (st l) 2 = st (l ++ l) := by
  match l, h with
  | [], _ => rfl
  | [a], _ => rfl
def S_spoilt : DSp := fun as R => ∃ (x y : Int) (l : List Nat) (n m : Nat), as = [.own (some 0) [.int x, .int y], .dat (.str (st l))] ∧ okH x y ∧ Tx n m l ∧ m ≤ 20000 ∧
  ∀ (l' : List Nat) (x' y' : Int), Tx (n + 3) (m + 3) l' → okH x' y' → R (.str (st l')) [[.int x', .int y']]
theorem mono_spoilt : MonoS S_spoilt := fun as R R' h ⟨x, y, l, n, m, a, b, c, d, k⟩ => ⟨x, y, l, n, m, a, b, c, d, fun l' x' y' e f => h _ _ (k l' x' y' e f)⟩
def okP : PyData → Bool
  | .str z => (z.cps.toList.all fun c => decide (c < 128)) && (decide (z.length ≤ 1000) && decide (cnt z.cps.toList ≤ 214))
  | _ => false
theorem okP_of {d : PyData} (h : okP d = true) : ∃ l : List Nat, d = .str (st l) ∧ Tx 214 1000 l := by
  cases d with
  | str z =>
    have h : ((z.cps.toList.all fun c => decide (c < 128)) && (decide (z.length ≤ 1000) && decide (cnt z.cps.toList ≤ 214))) = true := h
    rw [Bool.and_eq_true, Bool.and_eq_true, decide_eq_true_iff, decide_eq_true_iff] at h
    refine ⟨z.cps.toList, by rw [st_of], fun c hc => of_decide_eq_true (List.all_eq_true.mp h.1 c hc), ?_, h.2.2⟩
    rw [Array.length_toList]
    exact h.2.1
  | _ => cases h
def S_plain : DSp := fun as R => as = [] ∧ ∀ ds : List PyData, (∀ d ∈ ds, okP d = true) → R (.list ds) []
theorem mono_plain : MonoS S_plain := fun as R R' h ⟨a, k⟩ => ⟨a, fun ds q => h _ _ (k ds q)⟩
abbrev s_law_spoilt : Stmt := top 49
theorem sc_law_spoilt : FnScope ["_law_hand_here", "_law_text_here", "_law_turn", "_law_at", "_law_sign", "_law_low", "_law_far", "_law_same"] ["_law_hand_here", "_law_text_here"] (defScope s_law_spoilt) := ⟨rfl, rfl, rfl, by decide +kernel, rfl, by decide +kernel, by decide +kernel⟩
abbrev s_law_plain_ones : Stmt := top 50
theorem sc_law_plain_ones : FnScope ["_law_some", "_law_half", "_law_wide"] [] (defScope s_law_plain_ones) := ⟨rfl, rfl, rfl, by decide +kernel, rfl, by decide +kernel, by decide +kernel⟩
section
variable {P : Program} {w : World} {K : PySem.W.Frag} {mg : Str → Option Value} {base : Heap}
variable (m_len : mg "len" = none) (m_isinstance : mg "isinstance" = none) (m_str : mg "str" = none) (m_bool : mg "bool" = none) (m_range : mg "range" = none) (m_int : mg "int" = none) (m_max : mg "max" = none) (m_min : mg "min" = none)
  (m_sum : mg "sum" = none) (m_sorted : mg "sorted" = none) (m_set : mg "set" = none) (m_tuple : mg "tuple" = none) (m_repr : mg "repr" = none) (m_ValueError : mg "ValueError" = none)
include m_len m_isinstance m_str m_bool m_range m_int m_max m_min m_sum m_sorted m_set m_tuple m_repr m_ValueError
theorem ok_law_spoilt {f : Addr} {fd : FuncData} (F : Fun K "_law_spoilt" "_law_spoilt" s_law_spoilt f fd) (k_law_draw : Kn P w K mg base 1 "_law_draw" S_draw) : FnOkG P w K mg base CX0 2 f fd ["_law_hand_here", "_law_text_here"] (spD K S_spoilt) := by
  refine fnD F sc_law_spoilt (fun as R h => by obtain ⟨_, _, _, _, _, rfl, _⟩ := h; rfl) fun cdv A outer s H E hr => ?_
  have nd := sc_law_spoilt.nd
  have hu := hr.units
  have hu1 := hr.units1
  refine ⟨_, _, (dss_cons (ds_for PassesOwn.never rfl (di_r1 m_range (de_op op_add ro_I de_int (de_call k_law_draw hr (by omega) (dca_s 0 (dca_d de_int dca_nil))))) (dg_name 2 nd)
    (dss_cons (ds_set 3 nd (de_call k_law_draw hr (by omega) (dca_s 0 (dca_d (de_op op_add ro_I (de_len (ps := default) m_len (de_var 1)) de_int) dca_nil))))
    (dss_cons (ds_set 4 nd (de_ix ix_str ro_ixS de_str (de_call k_law_draw hr (by omega) (dca_s 0 (dca_d de_int dca_nil)))))
    (dss_cons (ds_set 5 nd (de_sl sl_str rsl_str (de_var 1) do_none (do_some (de_var 3))))
    (dss_cons (ds_set 6 nd (de_sl sl_str rsl_str (de_var 1) (do_some (de_op op_add ro_I (de_var 3) de_int)) do_none))
    (dss_cons (ds_set 7 nd (de_sl sl_str rsl_str (de_var 1) (do_some (de_var 3)) (do_some (de_op op_add ro_I (de_var 3) de_int))))
    (dss_one (ds_set 1 nd (de_ix ix_list ro_ixL (de_lst (da_cons (de_op op_add_str ro_addS (de_op op_add_str ro_addS (de_op op_add_str ro_addS (de_var 5) (de_var 4)) (de_var 7)) (de_var 6)) (da_cons (de_op op_add_str ro_addS (de_var 5) (de_var 6)) (da_cons (de_op op_add_str ro_addS (de_op op_add_str ro_addS (de_var 5) (de_var 4)) (de_var 6)) (da_cons (de_op op_add_str ro_addS (de_op op_add_str ro_addS (de_var 5) (de_op op_mulS ro_mulS (de_var 7) de_int)) (de_var 6)) (da_cons (de_var 5) da_nil)))))) (de_call k_law_draw hr (by omega) (dca_s 0 (dca_d de_int dca_nil))))))))))))
    (dss_one (ds_ret (de_var 1)))), ?_⟩
  rintro as R ⟨x, y, l, n, m, rfl, hv, ht, hm, hR⟩
  generalize hU : dSeq (dAsg _ (dgName 3)) _ = U
  dsimp only [dSeq, dFor, diR1, dOp, dC]
  refine call_draw (i := 0) (t := some 0) (n := 3) rfl hv ⟨by decide, by decide⟩ (fun Q q => q) fun r x1 y1 hr hv1 => ?_
  refine ⟨⟨by omega, by omega⟩, ?_⟩
  have il : (iotaD 0 (1 + r).toNat).length ≤ 3 := by
    unfold iotaD
    rw [List.length_map, List.length_range]
    omega
  have body : ∀ (E' : DEnds) (k : Nat) (l : List Nat) (x y : Int) (s2 s3 s4 s5 s6 s7 : Sl), k ≤ 3 → Tx (n + k) (m + k) l → okH x y →
      (∀ (l' : List Nat) (x' y' : Int) (s3 s4 s5 s6 s7 : Sl), Tx (n + (k + 1)) (m + (k + 1)) l' → okH x' y' → E'.nx [.own (some 0) [.int x', .int y'], .dat (.str (st l')), s2, s3, s4, s5, s6, s7]) →
      U E' [.own (some 0) [.int x, .int y], .dat (.str (st l)), s2, s3, s4, s5, s6, s7] := by
    intro E' k l x y s2 s3 s4 s5 s6 s7 hk ht hv hN
    have len := ht.len
    have sl : (st l).length = l.length := st_len l
    rw [← hU]
    dsimp only [dSeq, dAsg, dgName]
    refine call_draw (i := 0) (t := some 0) (n := (l.length : Int) + 1) rfl hv ⟨by omega, by omega⟩ (fun Q q => ?_) fun a x1 y1 ha hv1 => ?_
    · show (st l).length ≤ sizeLine ∧ Q (.int (((st l).length : Int) + 1)) _
      rw [sl]
      exact ⟨nat_le_size (by omega), q⟩
    obtain ⟨a, rfl⟩ : ∃ b : Nat, a = (b : Nat) := ⟨a.toNat, by omega⟩
    show dOp dIxS (dC _) (dCall S_draw _) [.own (some 0) [.int x1, .int y1], .dat (.str (st l)), s2, .dat (.int (a : Nat)), s4, s5, s6, s7] _
    dsimp only [dOp, dC]
    refine call_draw (i := 0) (t := some 0) (n := 14) rfl hv1 ⟨by decide, by decide⟩ (fun Q q => q) fun b x2 y2 hb hv2 => ?_
    obtain ⟨c, hc, ec⟩ := ix14 b hb
    refine ⟨sz14, ?_⟩
    rw [ec]
    show (st l).length ≤ sizeLine ∧ _
    refine ⟨nat_le_size (by omega), ?_⟩
    show dSl dSlS (dVar 1) _ _ [.own (some 0) [.int x2, .int y2], .dat (.str (st l)), s2, .dat (.int (a : Nat)), .dat (.str (st [c])), .dat (.str (cutS (st l) none (some (a : Nat)))), s6, s7] _
    have c0 := cut_to l a (by omega)
    have c1 := cut_from l (a + 1)
    have c2 := cut_one l a (by omega)
    rw [c0]
    have ea : ((a : Nat) : Int) + 1 = ((a + 1 : Nat) : Int) := by omega
    refine ⟨nat_le_size (by omega), ?_⟩
    show dSl dSlS (dVar 1) _ _ [.own (some 0) [.int x2, .int y2], .dat (.str (st l)), s2, .dat (.int (a : Nat)), .dat (.str (st [c])), .dat (.str (st (l.take a))), .dat (.str (cutS (st l) (some (((a : Nat) : Int) + 1)) none)), s7] _
    rw [ea, c1]
    refine ⟨nat_le_size (by omega), ?_⟩
    show dLst _ [.own (some 0) [.int x2, .int y2], .dat (.str (st l)), s2, .dat (.int (a : Nat)), .dat (.str (st [c])), .dat (.str (st (l.take a))), .dat (.str (st (l.drop (a + 1)))), .dat (.str (cutS (st l) (some ((a : Nat) : Int)) (some (((a : Nat) : Int) + 1))))] _
    rw [ea, c2]
    have d2 := dbl ((l.drop a).take 1) (by rw [List.length_take]; omega)
    generalize hδ : ([Sl.own (some 0) [.int x2, .int y2], .dat (.str (st l)), s2, .dat (.int (a : Nat)), .dat (.str (st [c])), .dat (.str (st (l.take a))), .dat (.str (st (l.drop (a + 1)))), .dat (.str (st ((l.drop a).take 1)))] : List Sl) = δ
    have h5 : δ[5]? = some (.dat (.str (st (l.take a)))) := by rw [← hδ]; rfl
    have h4 : δ[4]? = some (.dat (.str (st [c]))) := by rw [← hδ]; rfl
    have h6 : δ[6]? = some (.dat (.str (st (l.drop (a + 1))))) := by rw [← hδ]; rfl
    have h7 : δ[7]? = some (.dat (.str (st ((l.drop a).take 1)))) := by rw [← hδ]; rfl
    have s2' := len_split l a
    have l1 : ((l.drop a).take 1).length ≤ 1 := by rw [List.length_take]; omega
    have add : ∀ {ua ub : DTE} {x y : List Nat} {Q : DQ}, (∀ Q : DQ, Q (.str (st x)) δ → ua δ Q) → (∀ Q : DQ, Q (.str (st y)) δ → ub δ Q) → x.length + y.length ≤ 100000 → Q (.str (st (x ++ y))) δ → dOp dAddS ua ub δ Q := fun {ua ub x y Q} hx hy hl q => op_at (a := .str (st x)) (b := .str (st y)) hx hy ⟨by rw [st_len, st_len]; exact nat_le_size (by omega), by rw [st_app]; exact q⟩
    have v : ∀ {i : Nat} {d : PyData}, δ[i]? = some (.dat d) → ∀ Q : DQ, Q d δ → dVar i δ Q := fun h Q q => var_at h q
    have lst : ∀ Q : DQ, Q (.list [.str (st (spoil l a c 0)), .str (st (spoil l a c 1)), .str (st (spoil l a c 2)), .str (st (spoil l a c 3)), .str (st (spoil l a c 4))]) δ → dLst (dCons (dOp dAddS (dOp dAddS (dOp dAddS (dVar 5) (dVar 4)) (dVar 7)) (dVar 6)) (dCons (dOp dAddS (dVar 5) (dVar 6)) (dCons (dOp dAddS (dOp dAddS (dVar 5) (dVar 4)) (dVar 6)) (dCons (dOp dAddS (dOp dAddS (dVar 5) (dOp dMulS (dVar 7) (dC (.int 2)))) (dVar 6)) (dCons (dVar 5) dNil))))) δ Q := fun Q q => by
      dsimp only [dLst, dCons, dNil]
      refine add (x := l.take a ++ [c] ++ (l.drop a).take 1) (fun Q q => add (x := l.take a ++ [c]) (fun Q q => add (v h5) (v h4) (by rw [List.length_singleton]; omega) q) (v h7) (by rw [List.length_append, List.length_singleton]; omega) q) (v h6) (by rw [List.length_append, List.length_append, List.length_singleton]; omega) ?_
      refine add (v h5) (v h6) (by omega) ?_
      refine add (x := l.take a ++ [c]) (fun Q q => add (v h5) (v h4) (by rw [List.length_singleton]; omega) q) (v h6) (by rw [List.length_append, List.length_singleton]; omega) ?_
      refine add (x := l.take a ++ ((l.drop a).take 1 ++ (l.drop a).take 1)) (fun Q q => add (v h5) (fun Q q => op_at (a := .str (st ((l.drop a).take 1))) (b := .int 2) (v h7) (fun Q q => q) ⟨⟨by decide, by decide, by rw [st_len]; omega⟩, by rw [d2]; exact q⟩) (by rw [List.length_append]; omega) q) (v h6) (by rw [List.length_append, List.length_append]; omega) ?_
      exact var_at h5 ⟨nat_le_size (by show 5 ≤ 16777216; decide), q⟩
    refine lst _ ?_
    rw [← hδ]
    refine call_draw (i := 0) (t := some 0) (n := 5) rfl hv2 ⟨by decide, by decide⟩ (fun Q q => q) fun e x3 y3 he hv3 => ?_
    obtain ⟨e, rfl⟩ : ∃ b : Nat, e = (b : Nat) := ⟨e.toNat, by omega⟩
    have fin : ∀ k : Nat, E'.nx [.own (some 0) [.int x3, .int y3], .dat (.str (st (spoil l a c k))), s2, .dat (.int (a : Nat)), .dat (.str (st [c])), .dat (.str (st (l.take a))), .dat (.str (st (l.drop (a + 1)))), .dat (.str (st ((l.drop a).take 1)))] := fun k' => hN _ x3 y3 _ _ _ _ _ (ht.spoil a hc k') hv3
    have he : e < 5 := by omega
    match e, he with
    | 0, _ => exact fin 0
    | 1, _ => exact fin 1
    | 2, _ => exact fin 2
    | 3, _ => exact fin 3
    | 4, _ => exact fin 4
  clear hU
  have turns : ∀ (ds : List PyData) (k : Nat) (l : List Nat) (x y : Int) (s2 s3 s4 s5 s6 s7 : Sl), k + ds.length ≤ 3 → Tx (n + k) (m + k) l → okH x y →
      forW (dgName 2) U { endsOf R with nx := dRet (dVar 1) (endsOf R) } ds [.own (some 0) [.int x, .int y], .dat (.str (st l)), s2, s3, s4, s5, s6, s7] := by
    intro ds
    induction ds with
    | nil =>
      intro k l x y s2 s3 s4 s5 s6 s7 hk ht hv
      exact ⟨_, hR l x y (ht.le (by omega) (by omega)) hv, outs1 0 rfl⟩
    | cons d ds ih =>
      intro k l x y s2 s3 s4 s5 s6 s7 hk ht hv
      rw [List.length_cons] at hk
      refine body _ k l x y (.dat d) s3 s4 s5 s6 s7 (by omega) ht hv fun l' x' y' t3 t4 t5 t6 t7 ht' hv' => ?_
      exact ih (k + 1) l' x' y' _ _ _ _ _ _ (by omega) ht' hv'
  exact turns _ 0 l x1 y1 _ _ _ _ _ _ (by omega) ht hv1
theorem ok_law_plain_ones {f : Addr} {fd : FuncData} (F : Fun K "_law_plain_ones" "_law_plain_ones" s_law_plain_ones f fd)  : FnOkG P w K mg base CX0 1 f fd [] (spD K S_plain) := by
  refine fnD F sc_law_plain_ones (fun as R h => by obtain ⟨rfl, _⟩ := h; rfl) fun cdv A outer s H E hr => ?_
  have nd := sc_law_plain_ones.nd
  have hu := hr.units
  have hu1 := hr.units1
  refine ⟨_, _, (dss_cons (ds_set 0 nd (de_lst (da_cons de_str (da_cons de_str (da_cons de_str (da_cons de_str (da_cons de_str (da_cons de_str (da_cons de_str (da_cons de_str (da_cons de_str (da_cons de_str (da_cons de_str (da_cons de_str (da_cons de_str (da_cons de_str da_nil))))))))))))))))
    (dss_cons (ds_set 0 nd (de_op op_cat ro_cat (de_var 0) (de_lst (da_cons de_str (da_cons de_str (da_cons de_str (da_cons de_str (da_cons de_str (da_cons de_str (da_cons de_str (da_cons de_str (da_cons de_str (da_cons de_str (da_cons de_str da_nil))))))))))))))
    (dss_cons (ds_set 0 nd (de_op op_cat ro_cat (de_var 0) (de_lst (da_cons de_str (da_cons de_str (da_cons de_str da_nil))))))
    (dss_cons (ds_set 0 nd (de_op op_cat ro_cat (de_var 0) (de_lst (da_cons (de_op op_mulS ro_mulS de_str de_int) (da_cons (de_op op_mulS ro_mulS de_str de_int) (da_cons (de_op op_add_str ro_addS de_str (de_op op_mulS ro_mulS de_str de_int)) (da_cons (de_op op_add_str ro_addS de_str (de_op op_mulS ro_mulS de_str de_int)) (da_cons (de_op op_add_str ro_addS de_str (de_op op_mulS ro_mulS de_str de_int)) (da_cons de_str (da_cons de_str (da_cons de_str (da_cons de_str da_nil))))))))))))
    (dss_cons (ds_set 0 nd (de_op op_cat ro_cat (de_var 0) (de_lst (da_cons (de_op op_add_str ro_addS (de_op op_add_str ro_addS (de_op op_mulS ro_mulS de_str de_int) de_str) (de_op op_mulS ro_mulS de_str de_int)) (da_cons (de_op op_add_str ro_addS (de_op op_add_str ro_addS (de_op op_mulS ro_mulS de_str de_int) de_str) (de_op op_mulS ro_mulS de_str de_int)) (da_cons (de_op op_add_str ro_addS (de_op op_add_str ro_addS (de_op op_mulS ro_mulS de_str de_int) de_str) (de_op op_mulS ro_mulS de_str de_int)) da_nil))))))
    (dss_cons (ds_set 1 nd de_str)
    (dss_cons (ds_set 0 nd (de_op op_cat ro_cat (de_var 0) (de_lst (da_cons (de_op op_add_str ro_addS (de_var 1) de_str) (da_cons (de_op op_add_str ro_addS (de_var 1) de_str) (da_cons (de_op op_add_str ro_addS (de_var 1) de_str) (da_cons (de_op op_add_str ro_addS (de_var 1) de_str) da_nil)))))))
    (dss_cons (ds_set 2 nd de_str)
    (dss_one (ds_ret (de_op op_cat ro_cat (de_var 0) (de_lst (da_cons (de_op op_add_str ro_addS (de_var 2) de_str) (da_cons (de_op op_add_str ro_addS (de_var 2) de_str) (da_cons (de_op op_add_str ro_addS (de_var 2) de_str) (da_cons (de_op op_add_str ro_addS (de_var 2) de_str) (da_cons (de_op op_add_str ro_addS (de_var 2) de_str) da_nil))))))))))))))))), ?_⟩
  rintro as R ⟨rfl, hR⟩
  simp only [dSeq, dAsg, dgName, dOp, dLst, dCons, dNil, dC, dVar, dCat, dAddS, dMulS, dRet, List.length_cons, List.length_nil, Nat.sub_zero, List.nil_append, List.replicate, List.set_cons_zero, List.set_cons_succ, List.getElem?_cons_zero, List.getElem?_cons_succ]
  repeat' (first | exact outs0 | exact hR _ (by decide +kernel) | refine ⟨?_, ?_⟩ | decide +kernel)
  refine hR _ (List.all_eq_true.mp ?_)
  decide +kernel
end
end K05

set_option Elab.async false
set_option linter.all false
set_option maxRecDepth 100000
set_option maxHeartbeats 4000000
/-! K05p: the law -/
namespace K05
open PySem PySem.Spec L2 TL
theorem call_late {S : DSp} {u : DTE} {δ : List Sl} {R : DQ} (mono : MonoS S) (P : PyData → List Sl → Prop) (hu : ∀ Q : DQ, (∀ d δ', P d δ' → Q d δ') → u δ Q) (k : ∀ d δ', P d δ' → S [.dat d] fun x outs => outs = [] ∧ R x δ') : dCall S (cD u cNil) δ R := by
  refine hu _ fun d δ' h => ?_
  show (muts δ' ([d].map CA.d)).Nodup ∧ S (asOf δ' ([d].map CA.d) 0) _
  rw [muts_d, asOf_d]
  refine ⟨List.nodup_nil, mono _ _ _ (fun d o h => ?_) (k d δ' h)⟩
  obtain ⟨rfl, h⟩ := h
  exact ⟨rfl, h⟩
def S_any : DSp := fun as R => ∃ n : Nat, S_pattern n as R
theorem mono_any : MonoS S_any := fun as R R' h ⟨n, k⟩ => ⟨n, mono_pattern n as R R' h k⟩
/-! ### long texts -/
def opens : Nat → List Nat → List Nat
  | 0, r => r
  | n + 1, r => 40 :: opens n r
def opened : Nat → List Fr → List Fr
  | 0, fs => fs
  | n + 1, fs => opened n (.o :: fs)
theorem run_opens : ∀ (n : Nat) (r : List Nat) (f : Fr) (fs : List Fr) (a : Nat), f.beg = true → run (opens n r) (f :: fs, none) a = run r (opened n (f :: fs), none) (a + n)
  | 0, r, f, fs, a, h => rfl
  | n + 1, r, f, fs, a, h => by
    show run (40 :: opens n r) (f :: fs, none) a = run r (opened n (.o :: f :: fs), none) (a + (n + 1))
    rw [run_cons]
    have e : nxt 40 (f :: fs, none) = some (.o :: f :: fs, none) := by
      show stp 40 (f :: fs) = _
      rw [stp_cons, if_neg (by decide), if_neg (by decide), if_neg (by decide), if_pos h, if_pos rfl]
    rw [e]
    show run (opens n r) (.o :: f :: fs, none) (a + 1) = _
    rw [run_opens n r .o (f :: fs) (a + 1) rfl]
    congr 1
    omega
theorem opened_top : ∀ (n : Nat) (fs : List Fr), ∃ g gs, opened (n + 1) fs = .o :: g ∧ gs = g
  | 0, fs => ⟨fs, fs, rfl, rfl⟩
  | n + 1, fs => opened_top n (.o :: fs)
def pairs : Nat → List Nat
  | 0 => []
  | n + 1 => 40 :: 97 :: pairs n
def paired : Nat → List Fr → List Fr
  | 0, fs => fs
  | n + 1, fs => paired n (.oA (.sgn (st [97])) :: fs)
theorem run_pairs : ∀ (n : Nat) (f : Fr) (fs : List Fr) (a : Nat), f.beg = true → run (pairs n) (f :: fs, none) a = .ok (paired n (f :: fs), none)
  | 0, f, fs, a, h => rfl
  | n + 1, f, fs, a, h => by
    show run (40 :: 97 :: pairs n) (f :: fs, none) a = .ok (paired n (.oA (.sgn (st [97])) :: f :: fs), none)
    rw [run_cons]
    have e : nxt 40 (f :: fs, none) = some (.o :: f :: fs, none) := by
      show stp 40 (f :: fs) = _
      rw [stp_cons, if_neg (by decide), if_neg (by decide), if_neg (by decide), if_pos h, if_pos rfl]
    rw [e]
    show run (97 :: pairs n) (.o :: f :: fs, none) (a + 1) = _
    rw [run_cons]
    have e2 : nxt 97 (.o :: f :: fs, none) = some (.oA (.sgn (st [97])) :: f :: fs, none) := by
      show stp 97 (.o :: f :: fs) = _
      rw [stp_cons, if_neg (by decide), if_neg (by decide), if_neg (by decide), if_pos (show Fr.beg .o = true from rfl), if_neg (by decide), if_neg (by decide), if_neg (by decide), if_pos (by decide)]
      rfl
    rw [e2]
    exact run_pairs n _ _ _ rfl
theorem paired_top : ∀ (n : Nat) (fs : List Fr), ∃ g p, paired (n + 1) fs = .oA p :: g
  | 0, fs => ⟨fs, _, rfl⟩
  | n + 1, fs => paired_top n _
theorem opens_len : ∀ (n : Nat) (r : List Nat), (opens n r).length = n + r.length
  | 0, r => by simp [opens]
  | n + 1, r => by
    show (opens n r).length + 1 = _
    rw [opens_len n r]
    omega
theorem pairs_len : ∀ n : Nat, (pairs n).length = 2 * n
  | 0 => rfl
  | n + 1 => by
    show (pairs n).length + 1 + 1 = _
    rw [pairs_len n]
    omega
theorem out_opens {n : Nat} (h : 0 < n) : out (opens n []) = .bad n := by
  obtain ⟨n, rfl⟩ := Nat.exists_eq_succ_of_ne_zero (Nat.pos_iff_ne_zero.mp h)
  rw [out_ends, run_opens (n + 1) [] .b0 [] 0 rfl, opens_len]
  obtain ⟨g, gs, e, _⟩ := opened_top n [.b0]
  rw [e]
  rfl
theorem out_close {n : Nat} (h : 0 < n) : out (opens n [41]) = .bad n := by
  obtain ⟨n, rfl⟩ := Nat.exists_eq_succ_of_ne_zero (Nat.pos_iff_ne_zero.mp h)
  rw [out_ends, run_opens (n + 1) [41] .b0 [] 0 rfl]
  obtain ⟨g, gs, e, _⟩ := opened_top n [.b0]
  rw [e, run_cons]
  have e : nxt 41 (.o :: g, none) = none := by
    show stp 41 (.o :: g) = none
    rw [stp_cons, if_neg (by decide), if_neg (by decide), if_pos rfl]
    rfl
  rw [e]
  show Out.bad (0 + (n + 1)) = _
  rw [Nat.zero_add]
theorem out_pairs {n : Nat} (h : 0 < n) : out (pairs n) = .bad (2 * n) := by
  obtain ⟨n, rfl⟩ := Nat.exists_eq_succ_of_ne_zero (Nat.pos_iff_ne_zero.mp h)
  rw [out_ends, run_pairs (n + 1) .b0 [] 0 rfl, pairs_len]
  obtain ⟨g, p, e⟩ := paired_top n [.b0]
  rw [e]
  rfl
theorem out_aa (r : List Nat) : out (97 :: 97 :: r) = .bad 1 := by
  rw [out_ends, run_cons]
  rfl
/-! ### as they are written -/
theorem foldl_reps (c : Array Nat) : ∀ (k : Nat) (acc : Array Nat), ((List.replicate k c).foldl (· ++ ·) acc).toList = acc.toList ++ (List.replicate k c.toList).flatten
  | 0, acc => by simp
  | k + 1, acc => by
    rw [List.replicate_succ, List.foldl_cons, foldl_reps c k, Array.toList_append, List.replicate_succ, List.flatten_cons, List.append_assoc]
theorem flat_nil (k : Nat) : (List.replicate k ([] : List Nat)).flatten = [] := by
  induction k with
  | zero => rfl
  | succ k ih => rw [List.replicate_succ, List.flatten_cons, ih]; rfl
theorem tl_mul (x : Str) (k : Nat) : (Txt.mul x (k : Int)).cps.toList = (List.replicate k x.cps.toList).flatten := by
  unfold Txt.mul
  by_cases h1 : (k : Int) < 1
  · rw [if_pos h1]
    have e : k = 0 := by omega
    subst e
    rfl
  · rw [if_neg h1]
    by_cases h2 : (k : Int) = 1
    · have e : k = 1 := by omega
      subst e
      rw [if_pos (by rfl)]
      simp
    · by_cases h3 : x.length = 0
      · rw [if_pos (by simp [h3])]
        have e : x.cps.toList = [] := List.eq_nil_of_length_eq_zero (by rw [Array.length_toList]; exact h3)
        rw [e, flat_nil]
      · rw [if_neg (by simp [h2, h3])]
        show ((List.replicate (k : Int).toNat x.cps).foldl (· ++ ·) #[]).toList = _
        rw [foldl_reps, Int.toNat_natCast]
        rfl
theorem mul_rep (l : List Nat) (n : Nat) : Txt.mul (st l) (n : Int) = st ((List.replicate n l).flatten) := by
  have e := tl_mul (st l) n
  have e2 : st (Txt.mul (st l) (n : Int)).cps.toList = Txt.mul (st l) (n : Int) := st_of _
  rw [← e2, e]
theorem flat_opens (r : List Nat) : ∀ n : Nat, (List.replicate n [40]).flatten ++ r = opens n r
  | 0 => rfl
  | n + 1 => by
    rw [List.replicate_succ, List.flatten_cons, List.append_assoc, flat_opens r n]
    rfl
theorem flat_pairs : ∀ n : Nat, (List.replicate n [40, 97]).flatten = pairs n
  | 0 => rfl
  | n + 1 => by
    rw [List.replicate_succ, List.flatten_cons, flat_pairs n]
    rfl
def as_ : Nat → List Nat
  | 0 => []
  | n + 1 => 97 :: as_ n
theorem flat_as : ∀ n : Nat, (List.replicate n [97]).flatten = as_ n
  | 0 => rfl
  | n + 1 => by
    rw [List.replicate_succ, List.flatten_cons, flat_as n]
    rfl
theorem as_len : ∀ n : Nat, (as_ n).length = n
  | 0 => rfl
  | n + 1 => by
    show (as_ n).length + 1 = n + 1
    rw [as_len n]
theorem out_as {n : Nat} (h : 1 < n) : out (as_ n) = .bad 1 := by
  obtain ⟨n, rfl⟩ : ∃ m, n = m + 2 := ⟨n - 2, by omega⟩
  exact out_aa (as_ n)
theorem as_code : ∀ n : Nat, ∀ c ∈ as_ n, c < 128
  | 0, c, h => (List.not_mem_nil (show c ∈ ([] : List Nat) from h)).elim
  | n + 1, c, h => by
    rcases List.mem_cons.mp h with e | h
    · omega
    · exact as_code n c h
theorem pairs_code : ∀ n : Nat, ∀ c ∈ pairs n, c < 128
  | 0, c, h => (List.not_mem_nil (show c ∈ ([] : List Nat) from h)).elim
  | n + 1, c, h => by
    rcases List.mem_cons.mp h with e | h
    · omega
    rcases List.mem_cons.mp h with e | h
    · omega
    · exact pairs_code n c h
theorem opens_code {r : List Nat} (hr : ∀ c ∈ r, c < 128) : ∀ n : Nat, ∀ c ∈ opens n r, c < 128
  | 0, c, h => hr c h
  | n + 1, c, h => by
    rcases List.mem_cons.mp h with e | h
    · omega
    · exact opens_code hr n c h
/-- a long text, and where it goes wrong -/
structure Lng (d : PyData) (l : List Nat) (k : Nat) : Prop where
  eq : d = .str (st l)
  code : ∀ c ∈ l, c < 128
  len : l.length ≤ 20000
  res : out l = .bad k
theorem c_oa : Str.ofString "(a" = st [40, 97] := by decide +kernel
theorem lng_opens {n : Nat} {i : Int} (h : i = (n : Nat)) (h0 : 0 < n) (hn : n ≤ 20000) : Lng (.str (Txt.mul (Str.ofString "(") i)) (opens n []) n := by
  subst h
  refine ⟨?_, opens_code (fun c h => (List.not_mem_nil h).elim) n, by rw [opens_len]; show n + 0 ≤ _; omega, out_opens h0⟩
  rw [c_opn, mul_rep, ← flat_opens [] n, List.append_nil]
theorem lng_pairs {n : Nat} {i : Int} (h : i = (n : Nat)) (h0 : 0 < n) (hn : n ≤ 10000) : Lng (.str (Txt.mul (Str.ofString "(a") i)) (pairs n) (2 * n) := by
  subst h
  refine ⟨?_, pairs_code n, by rw [pairs_len]; omega, out_pairs h0⟩
  rw [c_oa, mul_rep, flat_pairs n]
theorem lng_as {n : Nat} {i : Int} (h : i = (n : Nat)) (h0 : 1 < n) (hn : n ≤ 20000) : Lng (.str (Txt.mul (Str.ofString "a") i)) (as_ n) 1 := by
  subst h
  refine ⟨?_, as_code n, by rw [as_len]; omega, out_as h0⟩
  rw [c_a, mul_rep, flat_as n]
theorem lng_close {n : Nat} {i : Int} (h : i = (n : Nat)) (h0 : 0 < n) (hn : n < 20000) : Lng (.str (Txt.mul (Str.ofString "(") i ++ Str.ofString ")")) (opens n [41]) n := by
  subst h
  refine ⟨?_, opens_code (fun c h => by rw [List.mem_singleton.mp h]; decide) n, by rw [opens_len]; show n + 1 ≤ _; omega, out_close h0⟩
  rw [c_opn, c_cls, mul_rep, st_app, flat_opens [41] n]
theorem mul_len {l : List Nat} {n : Nat} {i : Int} (h : i = (n : Nat)) : (Txt.mul (st l) i).length = n * l.length := by
  subst h
  rw [mul_rep, st_len]
  induction n with
  | zero => simp
  | succ n ih => rw [List.replicate_succ, List.flatten_cons, List.length_append, ih, Nat.succ_mul]; omega
/-- a thing that is no text -/
def noTx (d : PyData) : Bool := okIn d && (match due d with
  | .big => true
  | _ => false)
theorem due_no {d : PyData} (h : noTx d = true) : okIn d = true ∧ due d = .big := by
  unfold noTx at h
  rw [Bool.and_eq_true] at h
  refine ⟨h.1, ?_⟩
  have := h.2
  cases e : due d <;> rw [e] at this <;> first
    | rfl
    | cases this
theorem tx_drawn {p : Pt} {n l : Nat} (hg : p.good = true) (ho : p.ops ≤ opsB n l) (hn : n < 14) (hl : l < 13) : Tx 211 5000 (tx p) ∧ p.parts ≤ 1000 := by
  have b := opsB_le n hn l hl
  have q := parts_ops p
  have t := (tx_len p hg).1
  refine ⟨⟨tx_code p hg, by omega, by rw [cnt_tx p hg]; omega⟩, by omega⟩
theorem tst_call {S : DSp} {u : DCA} {δ : List Sl} {N : Bool → List Sl → Prop} {b : Bool} (h : ∀ Q : DQ, Q (.bool b) δ → dCall S u δ Q) (k : N (!b) δ) : dNot (dTest (dCall S u)) δ N := by
  dsimp only [dNot, dTest]
  exact h _ k
abbrev s_law : Stmt := top 51
theorem sc_law : FnScope ["_law_script", "_law_text_here", "_law_at", "_law_thing", "_law_k", "_law_hand_here", "_law_one"] ["_law_script"] (defScope s_law) := ⟨rfl, rfl, rfl, by decide +kernel, rfl, by decide +kernel, by decide +kernel⟩
section
variable {P : Program} {w : World} {K : PySem.W.Frag} {mg : Str → Option Value} {base : Heap}
variable (m_len : mg "len" = none) (m_isinstance : mg "isinstance" = none) (m_str : mg "str" = none) (m_bool : mg "bool" = none) (m_range : mg "range" = none) (m_int : mg "int" = none) (m_max : mg "max" = none) (m_min : mg "min" = none)
  (m_sum : mg "sum" = none) (m_sorted : mg "sorted" = none) (m_set : mg "set" = none) (m_tuple : mg "tuple" = none) (m_repr : mg "repr" = none) (m_ValueError : mg "ValueError" = none)
include m_len m_isinstance m_str m_bool m_range m_int m_max m_min m_sum m_sorted m_set m_tuple m_repr m_ValueError
theorem ok_law {f : Addr} {fd : FuncData} (F : Fun K "law" "law" s_law f fd) (k_law_plain_ones : Kn P w K mg base 1 "_law_plain_ones" S_plain) (k_law_right : Kn P w K mg base 219 "_law_right" (S_right 215)) (k_law_told : Kn P w K mg base 6 "_law_told" S_told) (k_law_hand : KnN P w K mg base 1 "_law_hand" S_hand) (k_law_draw : Kn P w K mg base 1 "_law_draw" S_draw) (k_law_pattern : Kn P w K mg base 16 "_law_pattern" S_any) (k_law_text : Kn P w K mg base 14 "_law_text" (S_text 13)) (k_law_spoilt : Kn P w K mg base 2 "_law_spoilt" S_spoilt) : FnOkG P w K mg base CX0 220 f fd ["_law_script"] (spD K S_law) := by
  refine fnD F sc_law (fun as R h => by obtain ⟨_, _, rfl, _⟩ := h; rfl) fun cdv A outer s H E hr => ?_
  have nd := sc_law.nd
  have hu := hr.units
  have hu1 := hr.units1
  refine ⟨_, _, (dss_cons (ds_for PassesOwn.never rfl (di_list (de_call0 k_law_plain_ones hr (by omega))) (dg_name 1 nd)
    (dss_one (ds_if (dt_not (dt_val (de_call k_law_right hr (by omega) (dca_d (de_var 1) dca_nil)))) (dss_one (ds_ret de_bl)) dss_nil)))
    (dss_cons (ds_for PassesOwn.never rfl (di_list (de_lst (da_cons (de_tup (da_cons (de_op op_mulS ro_mulS de_str de_int) (da_cons de_int da_nil))) (da_cons (de_tup (da_cons (de_op op_mulS ro_mulS de_str de_int) (da_cons de_int da_nil))) (da_cons (de_tup (da_cons (de_op op_mulS ro_mulS de_str de_int) (da_cons de_int da_nil))) (da_cons (de_tup (da_cons (de_op op_add_str ro_addS (de_op op_mulS ro_mulS de_str de_int) de_str) (da_cons de_int da_nil))) da_nil)))))) (dg_tup rfl (dgs_cons (dg_name 1 nd) (dgs_cons (dg_name 2 nd) dgs_nil)))
    (dss_one (ds_if (dt_cmp op_ne ro_neT (nomark _) (de_reprX m_repr hr.gd hu1 (de_call k_law_told hr (by omega) (dca_d (de_var 1) dca_nil))) (de_reprX m_repr hr.gd hu1 (de_lst (da_cons de_str (da_cons (de_var 2) da_nil))))) (dss_one (ds_ret de_bl)) dss_nil)))
    (dss_cons (ds_for PassesOwn.never rfl (di_list (de_lst (da_cons de_non (da_cons de_int (da_cons de_bl (da_cons (de_lst (da_cons de_str da_nil)) (da_cons (de_tup (da_cons de_str (da_cons de_str da_nil))) (da_cons de_dict0 da_nil)))))))) (dg_name 3 nd)
    (dss_one (ds_if (dt_cmp op_ne ro_neT (nomark _) (de_reprX m_repr hr.gd hu1 (de_call k_law_told hr (by omega) (dca_d (de_var 3) dca_nil))) (de_reprX m_repr hr.gd hu1 (de_lst (da_cons de_str (da_cons de_non da_nil))))) (dss_one (ds_ret de_bl)) dss_nil)))
    (dss_cons (ds_for PassesOwn.never rfl (di_r1 m_range (de_max2 m_max de_int (de_min2 m_min (de_lenV 0 m_len) de_int))) (dg_name 4 nd)
    (dss_cons (ds_callOwn 5 nd k_law_hand hr (by omega) (dca_s 0 (dca_d (de_var 4) dca_nil)))
    (dss_cons (ds_set 1 nd (de_call k_law_text hr (by omega) (dca_d (de_call k_law_pattern hr (by omega) (dca_s 5 (dca_d (de_call k_law_draw hr (by omega) (dca_s 5 (dca_d de_int dca_nil))) (dca_d (de_op op_add ro_I de_int (de_call k_law_draw hr (by omega) (dca_s 5 (dca_d de_int dca_nil)))) dca_nil)))) dca_nil)))
    (dss_one (ds_for PassesOwn.never rfl (di_list (de_lst (da_cons (de_var 1) (da_cons (de_call k_law_spoilt hr (by omega) (dca_s 5 (dca_d (de_var 1) dca_nil))) (da_cons (de_call k_law_spoilt hr (by omega) (dca_s 5 (dca_d (de_var 1) dca_nil))) (da_cons (de_var 1) da_nil)))))) (dg_name 6 nd)
    (dss_one (ds_if (dt_not (dt_val (de_call k_law_right hr (by omega) (dca_d (de_var 6) dca_nil)))) (dss_one (ds_ret de_bl)) dss_nil)))))))
    (dss_one (ds_ret de_bl)))))), ?_⟩
  rintro as R ⟨ns, hl, rfl, hR⟩
  let I : List Sl → Prop := fun δ => ∃ s1 s2 s3 s4 s5 s6 : Sl, δ = [.scr (ns.map PyData.int), s1, s2, s3, s4, s5, s6]
  have right : ∀ (i : Nat) (E : DEnds) (δ : List Sl) (l : List Nat) (m : Nat), m ≤ 30000 → δ[i]? = some (.dat (.str (st l))) → Tx 214 m l → E.nx δ → dIfS (dNot (dTest (dCall (S_right 215) (cD (dVar i) cNil)))) (dRet (dC (.bool false))) dNext E δ := fun i E δ l m hm hs ht k => by
    refine ifs (b := false) (fun N n => tst_call (b := true) (fun Q q => call_p [.str (st l)] (fun Q q => var_at hs q) ⟨l, rfl, fun c hc => Nat.lt_trans (ht.code c hc) (by decide), Nat.le_trans ht.len hm, by have := ht.few; omega, rfl, q⟩ (mono_right 215)) n) ?_
    rw [if_neg (by decide)]
    exact k
  have refused : ∀ (i j : Nat) (E : DEnds) (δ : List Sl) (d : PyData) (r : Out) (ub : DTE), δ[i]? = some (.dat d) → okIn d = true → due d = r → okO r → (∀ Q : DQ, Q (tD r) δ → ub δ Q) → E.nx δ → dIfS (dTest (dOp dNeT (dReprX (dCall S_told (cD (dVar i) cNil))) (dReprX ub))) (dRet (dC (.bool false))) dNext E δ := fun i j E δ d r ub hs ho hd hr hu k => by
    obtain ⟨t1, t2, t3, t4⟩ := tD_ok hr
    refine ifs (b := false) (fun N n => tst_op (a := .str (tD r).shown) (b := .str (tD r).shown) (fun Q q => ?_) (fun Q q => ?_) ?_) ?_
    · dsimp only [dReprX]
      exact call_p [d] (fun Q q => var_at hs q) ⟨d, rfl, ho, rfl, by rw [hd]; exact ⟨t1, t2, t3, t4, q⟩⟩ mono_told
    · dsimp only [dReprX]
      exact hu _ ⟨t1, t2, t3, t4, q⟩
    · show N (!((tD r).shown == (tD r).shown)) δ
      rw [beq_self_eq_true]
      exact n
    rw [if_neg (by decide)]
    exact k
  generalize hL : dSeq (dFor (diR1 _) _ _) _ = L
  generalize hK : dSeq (dFor _ (dgName 3) _) L = KK
  generalize hJ : dSeq (dFor _ (dgTup _ _) _) KK = J
  have p4 : ∀ δ, I δ → L (endsOf R) δ := by
    rintro δ ⟨s1, s2, s3, s4, s5, s6, rfl⟩
    rw [← hL]
    dsimp only [dSeq, dFor, diR1, dII, dC]
    show (-(2 ^ 62 : Int) ≤ (if (if (24 : Int) < ((ns.map PyData.int).length : Int) then 24 else ((ns.map PyData.int).length : Int)) > 2 then (if (24 : Int) < ((ns.map PyData.int).length : Int) then 24 else ((ns.map PyData.int).length : Int)) else 2) ∧ (if (if (24 : Int) < ((ns.map PyData.int).length : Int) then 24 else ((ns.map PyData.int).length : Int)) > 2 then (if (24 : Int) < ((ns.map PyData.int).length : Int) then 24 else ((ns.map PyData.int).length : Int)) else 2) < 2 ^ 62) ∧ _
    have hn : (if (if (24 : Int) < ((ns.map PyData.int).length : Int) then 24 else ((ns.map PyData.int).length : Int)) > 2 then (if (24 : Int) < ((ns.map PyData.int).length : Int) then 24 else ((ns.map PyData.int).length : Int)) else 2) ≤ 24 ∧ 2 ≤ (if (if (24 : Int) < ((ns.map PyData.int).length : Int) then 24 else ((ns.map PyData.int).length : Int)) > 2 then (if (24 : Int) < ((ns.map PyData.int).length : Int) then 24 else ((ns.map PyData.int).length : Int)) else 2) := by
      split <;> split <;> omega
    generalize (if (if (24 : Int) < ((ns.map PyData.int).length : Int) then 24 else ((ns.map PyData.int).length : Int)) > 2 then (if (24 : Int) < ((ns.map PyData.int).length : Int) then 24 else ((ns.map PyData.int).length : Int)) else 2) = n at hn ⊢
    refine ⟨⟨by omega, by omega⟩, ?_⟩
    refine for_inv I ?_ _ _ ⟨_, _, _, _, _, _, rfl⟩ ?_
    · rintro δ ⟨s1, s2, s3, s4, s5, s6, rfl⟩
      exact ⟨[], hR, outs0⟩
    rintro d hd δ ⟨s1, s2, s3, s4, s5, s6, rfl⟩ N hN
    obtain ⟨k, hk, rfl⟩ := List.mem_map.mp hd
    have hk := List.mem_range.mp hk
    dsimp only [dgName]
    refine call_hand (i := 5) (j := 0) (q := 4) (ns := ns) (k := (0 : Int) + (k : Int)) ?_ ?_ hl ⟨by omega, by omega⟩ ?_
    · rfl
    · rfl
    intro x y hv
    dsimp only [dSeq, dAsg, dgName]
    refine call_late (mono_text 13) (fun d δ' => ∃ (p : Pt) (x' y' : Int), d = p.d ∧ p.good = true ∧ p.deep ≤ 13 ∧ Tx 211 5000 (tx p) ∧ p.parts ≤ 1000 ∧ okH x' y' ∧ δ' = [.scr (ns.map PyData.int), s1, s2, s3, .dat (.int ((0 : Int) + (k : Int))), .own none [.int x', .int y'], s6]) (fun Q hQ => ?_) ?_
    · refine call_own_late (t := none) (fun ds cs δ2 => ∃ lv rm x2 y2 : Int, ds = [.int lv, .int ((rm.toNat + 1 : Nat) : Int)] ∧ cs = [.int x2, .int y2] ∧ δ2 = [.scr (ns.map PyData.int), s1, s2, s3, .dat (.int ((0 : Int) + (k : Int))), .own none [.int x2, .int y2], s6] ∧ (0 ≤ lv ∧ lv < 13) ∧ (0 ≤ rm ∧ rm < 13) ∧ okH x2 y2) rfl ?_ mono_any ?_
      · intro Q hQ
        dsimp only [cD, cNil, dOp, dC]
        refine call_draw (i := 5) (t := none) (n := 13) ?_ hv ⟨by decide, by decide⟩ ?_ ?_
        · rfl
        · exact fun Q q => q
        intro lv x1 y1 hlv hv1
        refine call_draw (i := 5) (t := none) (n := 13) ?_ hv1 ⟨by decide, by decide⟩ ?_ ?_
        · rfl
        · exact fun Q q => q
        intro rm x2 y2 hrm hv2
        dsimp only [dI]
        have er : ((rm.toNat + 1 : Nat) : Int) = 1 + rm := by omega
        rw [← er]
        exact hQ _ _ _ ⟨lv, rm, x2, y2, rfl, rfl, rfl, hlv, hrm, hv2⟩
      rintro _ _ _ ⟨lv, rm, x2, y2, rfl, rfl, rfl, hlv, hrm, hv2⟩
      refine ⟨rfl, rm.toNat + 1, x2, y2, lv, rfl, by omega, by omega, hv2, hlv.1, by omega, fun p x3 y3 hg hdp ho hv3 => ⟨_, rfl, ?_⟩⟩
      obtain ⟨q1, q2⟩ := tx_drawn hg ho (by omega) (by omega)
      exact hQ _ _ ⟨p, x3, y3, rfl, hg, by omega, q1, q2, hv3, rfl⟩
    rintro _ _ ⟨p, x3, y3, rfl, hg, hdp, q1, q2, hv3, rfl⟩
    refine ⟨p, rfl, hg, hdp, q2, rfl, ?_⟩
    show dFor _ _ _ _ [.scr (ns.map PyData.int), .dat (.str (st (tx p))), s2, s3, .dat (.int ((0 : Int) + (k : Int))), .own none [.int x3, .int y3], s6]
    dsimp only [dFor, diL, dLst, dCons, dNil]
    refine var_at (d := .str (st (tx p))) rfl ?_
    refine call_own1 (t := none) (i := 5) rfl [.str (st (tx p))] (fun Q q => var_at (d := .str (st (tx p))) rfl q) ⟨x3, y3, tx p, 211, 5000, rfl, hv3, q1, by decide, fun l1 x4 y4 t1 hv4 => ⟨_, rfl, ?_⟩⟩ (mono_spoilt _)
    refine call_own1 (t := none) (i := 5) rfl [.str (st (tx p))] (fun Q q => var_at (d := .str (st (tx p))) rfl q) ⟨x4, y4, tx p, 211, 5000, rfl, hv4, q1, by decide, fun l2 x5 y5 t2 hv5 => ⟨_, rfl, ?_⟩⟩ (mono_spoilt _)
    refine var_at (d := .str (st (tx p))) rfl ?_
    refine ⟨nat_le_size (by show 4 ≤ 16777216; decide), ?_⟩
    refine for_inv (fun δ => ∃ s6, δ = [.scr (ns.map PyData.int), .dat (.str (st (tx p))), s2, s3, .dat (.int ((0 : Int) + (k : Int))), .own none [.int x5, .int y5], s6]) ?_ _ _ ⟨_, rfl⟩ ?_
    · rintro δ ⟨s6, rfl⟩
      exact hN _ ⟨_, _, _, _, _, _, rfl⟩
    rintro d hd δ ⟨s6, rfl⟩ N2 hN2
    have ht : ∃ l : List Nat, d = .str (st l) ∧ Tx 214 5003 l := by
      rcases List.mem_cons.mp hd with e | hd
      · exact ⟨_, e, q1.le (by decide) (by decide)⟩
      rcases List.mem_cons.mp hd with e | hd
      · exact ⟨_, e, t1⟩
      rcases List.mem_cons.mp hd with e | hd
      · exact ⟨_, e, t2⟩
      · exact ⟨_, List.mem_singleton.mp hd, q1.le (by decide) (by decide)⟩
    obtain ⟨l, rfl, ht⟩ := ht
    exact right 6 _ _ l 5003 (by decide) rfl ht (hN2 _ ⟨_, rfl⟩)
  have p3 : ∀ δ, I δ → KK (endsOf R) δ := by
    rintro δ ⟨s1, s2, s3, s4, s5, s6, rfl⟩
    rw [← hK]
    dsimp only [dSeq, dFor, diL, dLst, dCons, dNil, dC, dTup]
    refine ⟨nat_le_size (by decide), nat_le_size (by decide), nat_le_size (by decide), ?_⟩
    refine for_inv I p4 _ _ ⟨_, _, _, _, _, _, rfl⟩ ?_
    rintro d hd δ ⟨s1, s2, s3, s4, s5, s6, rfl⟩ N hN
    have hq : noTx d = true := by
      have all : ([.none, .int 5, .bool true, .list [.str (Str.ofString "a")], .tuple [.str (Str.ofString "sign"), .str (Str.ofString "a")], .dict []] : List PyData).all noTx = true := by decide +kernel
      exact List.all_eq_true.mp all d hd
    obtain ⟨o1, o2⟩ := due_no hq
    refine refused 3 0 _ _ d .big _ rfl o1 o2 trivial (fun Q q => ?_) (hN _ ⟨_, _, _, _, _, _, rfl⟩)
    exact ⟨nat_le_size (by show 2 ≤ 16777216; decide), q⟩
  have p2 : ∀ δ, I δ → J (endsOf R) δ := by
    rintro δ ⟨s1, s2, s3, s4, s5, s6, rfl⟩
    rw [← hJ]
    have l1 : (Txt.mul (Str.ofString "(") 19999).length = 19999 := by
      rw [c_opn]
      exact mul_len (l := [40]) (n := 19999) rfl
    have l2 : (Str.ofString ")").length = 1 := by decide +kernel
    have sz2 : 2 ≤ sizeLine := nat_le_size (by decide)
    have w1 : (Str.ofString "(").length ≤ 800 := by decide +kernel
    have w2 : (Str.ofString "(a").length ≤ 800 := by decide +kernel
    have w3 : (Str.ofString "a").length ≤ 800 := by decide +kernel
    dsimp only [dSeq, dFor, diL, dLst, dCons, dNil, dC, dTup, dOp, dMulS, dAddS]
    refine ⟨⟨by decide, by decide, w1⟩, sz2, ⟨by decide, by decide, w2⟩, sz2, ⟨by decide, by decide, w3⟩, sz2, ⟨by decide, by decide, w1⟩, by rw [l1, l2]; exact nat_le_size (by decide), sz2, nat_le_size (by show 4 ≤ 16777216; decide), ?_⟩
    refine for_inv I p3 _ _ ⟨_, _, _, _, _, _, rfl⟩ ?_
    rintro d hd δ ⟨s1, s2, s3, s4, s5, s6, rfl⟩ N hN
    have hq : ∃ (z : PyData) (l : List Nat) (k : Nat), d = .tuple [z, .int (k : Nat)] ∧ Lng z l k := by
      rcases List.mem_cons.mp hd with e | hd
      · exact ⟨_, _, 20000, e, lng_opens (n := 20000) rfl (by decide) (by decide)⟩
      rcases List.mem_cons.mp hd with e | hd
      · exact ⟨_, _, 20000, e, lng_pairs (n := 10000) rfl (by decide) (by decide)⟩
      rcases List.mem_cons.mp hd with e | hd
      · exact ⟨_, _, 1, e, lng_as (n := 20000) rfl (by decide) (by decide)⟩
      · exact ⟨_, _, 19999, List.mem_singleton.mp hd, lng_close (n := 19999) rfl (by decide) (by decide)⟩
    obtain ⟨z, l, k, rfl, lg⟩ := hq
    have hz := lg.eq
    subst hz
    refine ⟨rfl, ?_⟩
    have oi : okIn (.str (st l)) = true := by
      show ((l.all fun c => decide (c < 1114112)) && decide ((st l).length ≤ 30000)) = true
      have := lg.len
      rw [st_len, decide_eq_true (by omega : l.length ≤ 30000), Bool.and_true]
      exact List.all_eq_true.mpr fun c h => decide_eq_true (Nat.lt_trans (lg.code c h) (by decide))
    have du : due (.str (st l)) = .bad k := by
      show out (st l).cps.toList = _
      rw [st_cps]
      exact lg.res
    have ok : okO (.bad k) := by
      have := out_bad lg.res
      have := lg.len
      show k ≤ 30000
      omega
    dsimp only [dgCons, dgName, dgNil]
    show dIfS _ _ _ _ [.scr (ns.map PyData.int), .dat (.str (st l)), .dat (.int (k : Nat)), s3, s4, s5, s6]
    refine refused 1 2 _ _ (.str (st l)) (.bad k) _ rfl oi du ok (fun Q q => ?_) (hN _ ⟨_, _, _, _, _, _, rfl⟩)
    dsimp only [dLst, dCons, dNil, dC]
    exact var_at (d := .int (k : Nat)) rfl ⟨sz2, q⟩
  generalize hB : dIfS _ _ _ = B
  dsimp only [dSeq, dFor, diL]
  refine call_p [] (fun Q q => q) ⟨rfl, fun ds hds => ⟨rfl, ?_⟩⟩ mono_plain
  refine for_inv I p2 _ _ ⟨_, _, _, _, _, _, rfl⟩ ?_
  rintro d hd δ ⟨s1, s2, s3, s4, s5, s6, rfl⟩ N hN
  obtain ⟨l, rfl, ht⟩ := okP_of (hds d hd)
  rw [← hB]
  exact right 1 _ _ l 1000 (by decide) rfl ht (hN _ ⟨_, _, _, _, _, _, rfl⟩)
end
end K05

set_option Elab.async false
set_option linter.all false
set_option maxRecDepth 100000
set_option maxHeartbeats 8000000
namespace K05
open PySem PySem.Spec L2 TL
abbrev s_init_NoPattern : Stmt := inCls 0 (top 1)
theorem sc_init_NoPattern : FnScope ["self", "at"] ["self", "at"] (defScope s_init_NoPattern) := ⟨rfl, rfl, rfl, by decide +kernel, rfl, by decide +kernel, by decide +kernel⟩
section
variable {P : Program} {w : World} {K : PySem.W.Frag} {mg : Str → Option Value} {base : Heap}
theorem ok_init_NoPattern {f C : Addr} {fd : FuncData} (F : Fun K "__init__" "NoPattern.__init__" s_init_NoPattern f fd) (T : ErrC K C) (hf0 : PySem.W.takerIn K C "at" = some none) : FnOkG P w K mg base CX0 1 f fd ["self", "at"] (spInit C ["at"]) :=
  init1 F sc_init_NoPattern T hf0 fun cdv A outer z H E => pss_one (ps_fld (DE.pe (de_var 0)) (DE.pe (de_var 1)))
end
theorem to15 {p : Nat → Prop} (h : p 0 ∧ p 1 ∧ p 2 ∧ p 3 ∧ p 4 ∧ p 5 ∧ p 6 ∧ p 7 ∧ p 8 ∧ p 9 ∧ p 10 ∧ p 11 ∧ p 12 ∧ p 13 ∧ p 14) : ∀ k, k < 15 → p k := fun k hk => by
  obtain ⟨h0, h1, h2, h3, h4, h5, h6, h7, h8, h9, h10, h11, h12, h13, h14⟩ := h
  match k, hk with
  | 0, _ => exact h0
  | 1, _ => exact h1
  | 2, _ => exact h2
  | 3, _ => exact h3
  | 4, _ => exact h4
  | 5, _ => exact h5
  | 6, _ => exact h6
  | 7, _ => exact h7
  | 8, _ => exact h8
  | 9, _ => exact h9
  | 10, _ => exact h10
  | 11, _ => exact h11
  | 12, _ => exact h12
  | 13, _ => exact h13
  | 14, _ => exact h14
def Cf (c0 c1 c2 c3 c4 c5 c6 c7 c8 c9 c10 c11 c12 c13 c14 : Addr) : Nat → Addr
  | 0 => c0
  | 1 => c1
  | 2 => c2
  | 3 => c3
  | 4 => c4
  | 5 => c5
  | 6 => c6
  | 7 => c7
  | 8 => c8
  | 9 => c9
  | 10 => c10
  | 11 => c11
  | 12 => c12
  | 13 => c13
  | _ => c14
end K05

set_option Elab.async false
set_option linter.all false
set_option maxRecDepth 100000
set_option maxHeartbeats 4000000
namespace K05
open PySem PySem.Spec L2 TL
theorem all_mk {l : PySem.W.OpenLaw} {w : World} {K : PySem.W.Frag} {h : Heap} {mg : Str → Option Value} {fa f1 f2 f3 f4 f5 f6 f7 f8 f9 f10 f11 f12 f13 f14 f15 f16 f17 f18 f19 f20 f21 f22 f23 f24 f25 f26 f27 : Addr} (X : K.In h) (G : h.Ns mainGlobals mg) (hfa : mg "law" = some (.ref fa))
    {od1 an1 od2 an2 od3 an3 od4 an4 od5 an5 od6 an6 od7 an7 od8 an8 od9 an9 od10 an10 od11 an11 od12 an12 od13 an13 od14 an14 od15 an15 od16 an16 od17 an17 od18 an18 od19 an19 od20 an20 od21 an21 od22 an22 od23 an23 od24 an24 od25 an25 od26 an26 od27 an27 : Option Addr} {sl1 sl2 sl3 sl4 sl5 sl6 sl7 sl8 sl9 sl10 sl11 sl12 sl13 sl14 sl15 sl16 sl17 sl18 sl19 sl20 sl21 sl22 sl23 sl24 sl25 sl26 sl27 : Array (Option Value)} {oc1 kV1 dc1 pm1 cd1 ct1 oc2 kV2 dc2 pm2 cd2 ct2 oc3 kV3 dc3 pm3 cd3 ct3 oc4 kV4 dc4 pm4 cd4 ct4 oc5 kV5 dc5 pm5 cd5 ct5 oc6 kV6 dc6 pm6 cd6 ct6 oc7 kV7 dc7 pm7 cd7 ct7 oc8 kV8 dc8 pm8 cd8 ct8 oc9 kV9 dc9 pm9 cd9 ct9 oc10 kV10 dc10 pm10 cd10 ct10 oc11 kV11 dc11 pm11 cd11 ct11 oc12 kV12 dc12 pm12 cd12 ct12 oc13 kV13 dc13 pm13 cd13 ct13 oc14 kV14 dc14 pm14 cd14 ct14 oc15 kV15 dc15 pm15 cd15 ct15 oc16 kV16 dc16 pm16 cd16 ct16 oc17 kV17 dc17 pm17 cd17 ct17 oc18 kV18 dc18 pm18 cd18 ct18 oc19 kV19 dc19 pm19 cd19 ct19 oc20 kV20 dc20 pm20 cd20 ct20 oc21 kV21 dc21 pm21 cd21 ct21 oc22 kV22 dc22 pm22 cd22 ct22 oc23 kV23 dc23 pm23 cd23 ct23 oc24 kV24 dc24 pm24 cd24 ct24 oc25 kV25 dc25 pm25 cd25 ct25 oc26 kV26 dc26 pm26 cd26 ct26 oc27 kV27 dc27 pm27 cd27 ct27 : Value}
    {dNEXT : Addr} {esNEXT : Array DictEntry} {nNEXT : Nat}
    (a1 : PySem.W.nsIn K mainGlobals "is_sign" = some (some (.ref f1))) (l1 : K.lookup f1 = some ⟨oc1, od1, .func (PySem.W.fnOf "is_sign" "is_sign" (defArgs s_is_sign) (defBody s_is_sign) (defScope s_is_sign) .none kV1 dc1 pm1 an1 cd1 ct1), sl1⟩) (c1 : PySem.W.codeIn K cd1 "is_sign" = true) (k1 : PySem.W.keepIn K (.ref f1) = true)
    (a2 : PySem.W.nsIn K mainGlobals "is_within" = some (some (.ref f2))) (l2 : K.lookup f2 = some ⟨oc2, od2, .func (PySem.W.fnOf "is_within" "is_within" (defArgs s_is_within) (defBody s_is_within) (defScope s_is_within) .none kV2 dc2 pm2 an2 cd2 ct2), sl2⟩) (c2 : PySem.W.codeIn K cd2 "is_within" = true) (k2 : PySem.W.keepIn K (.ref f2) = true)
    (a3 : PySem.W.nsIn K mainGlobals "read" = some (some (.ref f3))) (l3 : K.lookup f3 = some ⟨oc3, od3, .func (PySem.W.fnOf "read" "read" (defArgs s_read) (defBody s_read) (defScope s_read) .none kV3 dc3 pm3 an3 cd3 ct3), sl3⟩) (c3 : PySem.W.codeIn K cd3 "read" = true) (k3 : PySem.W.keepIn K (.ref f3) = true)
    (a4 : PySem.W.nsIn K mainGlobals "read_on" = some (some (.ref f4))) (l4 : K.lookup f4 = some ⟨oc4, od4, .func (PySem.W.fnOf "read_on" "read_on" (defArgs s_read_on) (defBody s_read_on) (defScope s_read_on) .none kV4 dc4 pm4 an4 cd4 ct4), sl4⟩) (c4 : PySem.W.codeIn K cd4 "read_on" = true) (k4 : PySem.W.keepIn K (.ref f4) = true)
    (a5 : PySem.W.nsIn K mainGlobals "hold" = some (some (.ref f5))) (l5 : K.lookup f5 = some ⟨oc5, od5, .func (PySem.W.fnOf "hold" "hold" (defArgs s_hold) (defBody s_hold) (defScope s_hold) .none kV5 dc5 pm5 an5 cd5 ct5), sl5⟩) (c5 : PySem.W.codeIn K cd5 "hold" = true) (k5 : PySem.W.keepIn K (.ref f5) = true)
    (a6 : PySem.W.nsIn K mainGlobals "again_of" = some (some (.ref f6))) (l6 : K.lookup f6 = some ⟨oc6, od6, .func (PySem.W.fnOf "again_of" "again_of" (defArgs s_again_of) (defBody s_again_of) (defScope s_again_of) .none kV6 dc6 pm6 an6 cd6 ct6), sl6⟩) (c6 : PySem.W.codeIn K cd6 "again_of" = true) (k6 : PySem.W.keepIn K (.ref f6) = true)
    (a7 : PySem.W.nsIn K mainGlobals "pair_of" = some (some (.ref f7))) (l7 : K.lookup f7 = some ⟨oc7, od7, .func (PySem.W.fnOf "pair_of" "pair_of" (defArgs s_pair_of) (defBody s_pair_of) (defScope s_pair_of) .none kV7 dc7 pm7 an7 cd7 ct7), sl7⟩) (c7 : PySem.W.codeIn K cd7 "pair_of" = true) (k7 : PySem.W.keepIn K (.ref f7) = true)
    (a8 : PySem.W.nsIn K mainGlobals "letters_at" = some (some (.ref f8))) (l8 : K.lookup f8 = some ⟨oc8, od8, .func (PySem.W.fnOf "letters_at" "letters_at" (defArgs s_letters_at) (defBody s_letters_at) (defScope s_letters_at) .none kV8 dc8 pm8 an8 cd8 ct8), sl8⟩) (c8 : PySem.W.codeIn K cd8 "letters_at" = true) (k8 : PySem.W.keepIn K (.ref f8) = true)
    (a9 : PySem.W.nsIn K mainGlobals "can_follow" = some (some (.ref f9))) (l9 : K.lookup f9 = some ⟨oc9, od9, .func (PySem.W.fnOf "can_follow" "can_follow" (defArgs s_can_follow) (defBody s_can_follow) (defScope s_can_follow) .none kV9 dc9 pm9 an9 cd9 ct9), sl9⟩) (c9 : PySem.W.codeIn K cd9 "can_follow" = true) (k9 : PySem.W.keepIn K (.ref f9) = true)
    (a10 : PySem.W.nsIn K mainGlobals "_law_hand" = some (some (.ref f10))) (l10 : K.lookup f10 = some ⟨oc10, od10, .func (PySem.W.fnOf "_law_hand" "_law_hand" (defArgs s_law_hand) (defBody s_law_hand) (defScope s_law_hand) .none kV10 dc10 pm10 an10 cd10 ct10), sl10⟩) (c10 : PySem.W.codeIn K cd10 "_law_hand" = true) (k10 : PySem.W.keepIn K (.ref f10) = true)
    (a11 : PySem.W.nsIn K mainGlobals "_law_draw" = some (some (.ref f11))) (l11 : K.lookup f11 = some ⟨oc11, od11, .func (PySem.W.fnOf "_law_draw" "_law_draw" (defArgs s_law_draw) (defBody s_law_draw) (defScope s_law_draw) .none kV11 dc11 pm11 an11 cd11 ct11), sl11⟩) (c11 : PySem.W.codeIn K cd11 "_law_draw" = true) (k11 : PySem.W.keepIn K (.ref f11) = true)
    (a12 : PySem.W.nsIn K mainGlobals "_law_letters" = some (some (.ref f12))) (l12 : K.lookup f12 = some ⟨oc12, od12, .func (PySem.W.fnOf "_law_letters" "_law_letters" (defArgs s_law_letters) (defBody s_law_letters) (defScope s_law_letters) .none kV12 dc12 pm12 an12 cd12 ct12), sl12⟩) (c12 : PySem.W.codeIn K cd12 "_law_letters" = true) (k12 : PySem.W.keepIn K (.ref f12) = true)
    (a13 : PySem.W.nsIn K mainGlobals "_law_pattern" = some (some (.ref f13))) (l13 : K.lookup f13 = some ⟨oc13, od13, .func (PySem.W.fnOf "_law_pattern" "_law_pattern" (defArgs s_law_pattern) (defBody s_law_pattern) (defScope s_law_pattern) .none kV13 dc13 pm13 an13 cd13 ct13), sl13⟩) (c13 : PySem.W.codeIn K cd13 "_law_pattern" = true) (k13 : PySem.W.keepIn K (.ref f13) = true)
    (a14 : PySem.W.nsIn K mainGlobals "_law_sizes" = some (some (.ref f14))) (l14 : K.lookup f14 = some ⟨oc14, od14, .func (PySem.W.fnOf "_law_sizes" "_law_sizes" (defArgs s_law_sizes) (defBody s_law_sizes) (defScope s_law_sizes) .none kV14 dc14 pm14 an14 cd14 ct14), sl14⟩) (c14 : PySem.W.codeIn K cd14 "_law_sizes" = true) (k14 : PySem.W.keepIn K (.ref f14) = true)
    (a15 : PySem.W.nsIn K mainGlobals "_law_are_letters" = some (some (.ref f15))) (l15 : K.lookup f15 = some ⟨oc15, od15, .func (PySem.W.fnOf "_law_are_letters" "_law_are_letters" (defArgs s_law_are_letters) (defBody s_law_are_letters) (defScope s_law_are_letters) .none kV15 dc15 pm15 an15 cd15 ct15), sl15⟩) (c15 : PySem.W.codeIn K cd15 "_law_are_letters" = true) (k15 : PySem.W.keepIn K (.ref f15) = true)
    (a16 : PySem.W.nsIn K mainGlobals "_law_is" = some (some (.ref f16))) (l16 : K.lookup f16 = some ⟨oc16, od16, .func (PySem.W.fnOf "_law_is" "_law_is" (defArgs s_law_is) (defBody s_law_is) (defScope s_law_is) .none kV16 dc16 pm16 an16 cd16 ct16), sl16⟩) (c16 : PySem.W.codeIn K cd16 "_law_is" = true) (k16 : PySem.W.keepIn K (.ref f16) = true)
    (a17 : PySem.W.nsIn K mainGlobals "_law_text" = some (some (.ref f17))) (l17 : K.lookup f17 = some ⟨oc17, od17, .func (PySem.W.fnOf "_law_text" "_law_text" (defArgs s_law_text) (defBody s_law_text) (defScope s_law_text) .none kV17 dc17 pm17 an17 cd17 ct17), sl17⟩) (c17 : PySem.W.codeIn K cd17 "_law_text" = true) (k17 : PySem.W.keepIn K (.ref f17) = true)
    (a18 : PySem.W.nsIn K mainGlobals "_law_kinds" = some (some (.ref f18))) (l18 : K.lookup f18 = some ⟨oc18, od18, .func (PySem.W.fnOf "_law_kinds" "_law_kinds" (defArgs s_law_kinds) (defBody s_law_kinds) (defScope s_law_kinds) .none kV18 dc18 pm18 an18 cd18 ct18), sl18⟩) (c18 : PySem.W.codeIn K cd18 "_law_kinds" = true) (k18 : PySem.W.keepIn K (.ref f18) = true)
    (a19 : PySem.W.nsIn K mainGlobals "_law_begins" = some (some (.ref f19))) (l19 : K.lookup f19 = some ⟨oc19, od19, .func (PySem.W.fnOf "_law_begins" "_law_begins" (defArgs s_law_begins) (defBody s_law_begins) (defScope s_law_begins) .none kV19 dc19 pm19 an19 cd19 ct19), sl19⟩) (c19 : PySem.W.codeIn K cd19 "_law_begins" = true) (k19 : PySem.W.keepIn K (.ref f19) = true)
    (a20 : PySem.W.nsIn K mainGlobals "_law_lettered" = some (some (.ref f20))) (l20 : K.lookup f20 = some ⟨oc20, od20, .func (PySem.W.fnOf "_law_lettered" "_law_lettered" (defArgs s_law_lettered) (defBody s_law_lettered) (defScope s_law_lettered) .none kV20 dc20 pm20 an20 cd20 ct20), sl20⟩) (c20 : PySem.W.codeIn K cd20 "_law_lettered" = true) (k20 : PySem.W.keepIn K (.ref f20) = true)
    (a21 : PySem.W.nsIn K mainGlobals "_law_step" = some (some (.ref f21))) (l21 : K.lookup f21 = some ⟨oc21, od21, .func (PySem.W.fnOf "_law_step" "_law_step" (defArgs s_law_step) (defBody s_law_step) (defScope s_law_step) .none kV21 dc21 pm21 an21 cd21 ct21), sl21⟩) (c21 : PySem.W.codeIn K cd21 "_law_step" = true) (k21 : PySem.W.keepIn K (.ref f21) = true)
    (a22 : PySem.W.nsIn K mainGlobals "_law_read" = some (some (.ref f22))) (l22 : K.lookup f22 = some ⟨oc22, od22, .func (PySem.W.fnOf "_law_read" "_law_read" (defArgs s_law_read) (defBody s_law_read) (defScope s_law_read) .none kV22 dc22 pm22 an22 cd22 ct22), sl22⟩) (c22 : PySem.W.codeIn K cd22 "_law_read" = true) (k22 : PySem.W.keepIn K (.ref f22) = true)
    (a23 : PySem.W.nsIn K mainGlobals "_law_told" = some (some (.ref f23))) (l23 : K.lookup f23 = some ⟨oc23, od23, .func (PySem.W.fnOf "_law_told" "_law_told" (defArgs s_law_told) (defBody s_law_told) (defScope s_law_told) .none kV23 dc23 pm23 an23 cd23 ct23), sl23⟩) (c23 : PySem.W.codeIn K cd23 "_law_told" = true) (k23 : PySem.W.keepIn K (.ref f23) = true)
    (a24 : PySem.W.nsIn K mainGlobals "_law_right" = some (some (.ref f24))) (l24 : K.lookup f24 = some ⟨oc24, od24, .func (PySem.W.fnOf "_law_right" "_law_right" (defArgs s_law_right) (defBody s_law_right) (defScope s_law_right) .none kV24 dc24 pm24 an24 cd24 ct24), sl24⟩) (c24 : PySem.W.codeIn K cd24 "_law_right" = true) (k24 : PySem.W.keepIn K (.ref f24) = true)
    (a25 : PySem.W.nsIn K mainGlobals "_law_spoilt" = some (some (.ref f25))) (l25 : K.lookup f25 = some ⟨oc25, od25, .func (PySem.W.fnOf "_law_spoilt" "_law_spoilt" (defArgs s_law_spoilt) (defBody s_law_spoilt) (defScope s_law_spoilt) .none kV25 dc25 pm25 an25 cd25 ct25), sl25⟩) (c25 : PySem.W.codeIn K cd25 "_law_spoilt" = true) (k25 : PySem.W.keepIn K (.ref f25) = true)
    (a26 : PySem.W.nsIn K mainGlobals "_law_plain_ones" = some (some (.ref f26))) (l26 : K.lookup f26 = some ⟨oc26, od26, .func (PySem.W.fnOf "_law_plain_ones" "_law_plain_ones" (defArgs s_law_plain_ones) (defBody s_law_plain_ones) (defScope s_law_plain_ones) .none kV26 dc26 pm26 an26 cd26 ct26), sl26⟩) (c26 : PySem.W.codeIn K cd26 "_law_plain_ones" = true) (k26 : PySem.W.keepIn K (.ref f26) = true)
    (a27 : PySem.W.nsIn K mainGlobals "law" = some (some (.ref f27))) (l27 : K.lookup f27 = some ⟨oc27, od27, .func (PySem.W.fnOf "law" "law" (defArgs s_law) (defBody s_law) (defScope s_law) .none kV27 dc27 pm27 an27 cd27 ct27), sl27⟩) (c27 : PySem.W.codeIn K cd27 "law" = true) (k27 : PySem.W.keepIn K (.ref f27) = true)
    (gi_LETTERS_MOST : ∃ tk, PySem.W.nsIn K mainGlobals "LETTERS_MOST" = some (some (.int 8 tk)))
    (gi_LEAVES_MOST : ∃ tk, PySem.W.nsIn K mainGlobals "LEAVES_MOST" = some (some (.int 11 tk)))
    (gi_PARTS_MOST : ∃ tk, PySem.W.nsIn K mainGlobals "PARTS_MOST" = some (some (.int 40 tk)))
    (gi_DEEP_MOST : ∃ tk, PySem.W.nsIn K mainGlobals "DEEP_MOST" = some (some (.int 12 tk)))
    (gd_NEXT : PySem.W.nsIn K mainGlobals "NEXT" = some (some (.ref dNEXT))) (gl_NEXT : K.lookup dNEXT = some ⟨.type "dict", none, .dict esNEXT nNEXT, #[]⟩) (gk_NEXT : PySem.W.KeysLit w.params esNEXT.toList) (gs_NEXT : (dNEXT == sysModules) = false)
    (ge_NEXT_0 : ∃ tk, PySem.W.nsIn K dNEXT "" = some (some (.str "a" tk)))
    (ge_NEXT_1 : ∃ tk, PySem.W.nsIn K dNEXT "a" = some (some (.str "*" tk)))
    (ge_NEXT_2 : ∃ tk, PySem.W.nsIn K dNEXT "(" = some (some (.str "a" tk)))
    (ge_NEXT_3 : ∃ tk, PySem.W.nsIn K dNEXT "(a" = some (some (.str "a*|" tk)))
    (ge_NEXT_4 : ∃ tk, PySem.W.nsIn K dNEXT "(aa" = some (some (.str "*)" tk)))
    (ge_NEXT_5 : ∃ tk, PySem.W.nsIn K dNEXT "(a|" = some (some (.str "a" tk)))
    (ge_NEXT_6 : ∃ tk, PySem.W.nsIn K dNEXT "(a|a" = some (some (.str "*)" tk)))
    {CNoPattern INoPattern : Addr} {oiNoPattern niNoPattern : Option Addr} {siNoPattern : Array (Option Value)} {wiNoPattern kiNoPattern diNoPattern piNoPattern xiNoPattern tiNoPattern : Value}
    (gc_NoPattern : PySem.W.nsIn K mainGlobals "NoPattern" = some (some (.ref CNoPattern)))
    (eb_NoPattern : PySem.W.excInitIn K CNoPattern [.type "ValueError", .type "Exception", .type "BaseException", .type "object"] "ValueError.__new__" = true)
    (eo_NoPattern : PySem.W.excOver K CNoPattern [.type "ValueError", .type "Exception", .type "BaseException", .type "object"] = true)
    (e1_NoPattern : PySem.W.findIn K (.ref CNoPattern) "__setattr__" = some (some (.builtin "object.__setattr__")))
    (e2_NoPattern : PySem.W.hasDictIn K CNoPattern = true)
    (e3_NoPattern : PySem.W.subIn K (.ref CNoPattern) (.type "BaseException") = some true)
    (e4_NoPattern : PySem.W.typeIn K (.ref CNoPattern) = some (.type "type"))
    (e5_NoPattern : PySem.W.keepIn K (.ref CNoPattern) = true)
    (e6_NoPattern : PySem.W.findIn K (.ref CNoPattern) "__getattribute__" = some (some (.builtin "BaseException.__getattribute__")))
    (e7_NoPattern : PySem.W.findIn K (.ref CNoPattern) "__getattr__" = some none)
    (e8_NoPattern : PySem.W.findIn K (.ref CNoPattern) "__class__" = some (some (.builtin "object.__class__")))
    (e9_NoPattern : PySem.W.mroIn K CNoPattern (.type "object") = some true)
    (ii_NoPattern : PySem.W.findIn K (.ref CNoPattern) "__init__" = some (some (.ref INoPattern)))
    (ty_NoPattern : PySem.W.typeIn K (.ref INoPattern) = some (.type "function"))
    (li_NoPattern : K.lookup INoPattern = some ⟨wiNoPattern, oiNoPattern, .func (PySem.W.fnOf "__init__" "NoPattern.__init__" (defArgs s_init_NoPattern) (defBody s_init_NoPattern) (defScope s_init_NoPattern) .none kiNoPattern diNoPattern piNoPattern niNoPattern xiNoPattern tiNoPattern), siNoPattern⟩)
    (ci_NoPattern : PySem.W.codeIn K xiNoPattern "NoPattern.__init__" = true)
    (kp_NoPattern : PySem.W.keepIn K (.ref INoPattern) = true)
    (tf_at_NoPattern : PySem.W.takerIn K CNoPattern "at" = some none)
    (ff_at_NoPattern : PySem.W.findIn K (.ref CNoPattern) "at" = some none)
    (sg : PySem.W.specialIn K (.builtin "object.__class__") "__get__" = some (some (.builtin "getset_descriptor.__get__"))) (stk : PySem.W.takesIn K (.builtin "object.__class__") = some true)
    {CNoMachine CNoText CNoWord CNoRow CNoRoom CNoNumber CNoSign CNoWay CNoName CTooMany CDoubling CGrowing CParted CBare : Addr}
    (gc_NoMachine : PySem.W.nsIn K mainGlobals "NoMachine" = some (some (.ref CNoMachine)))
    (gc_NoText : PySem.W.nsIn K mainGlobals "NoText" = some (some (.ref CNoText)))
    (gc_NoWord : PySem.W.nsIn K mainGlobals "NoWord" = some (some (.ref CNoWord)))
    (gc_NoRow : PySem.W.nsIn K mainGlobals "NoRow" = some (some (.ref CNoRow)))
    (gc_NoRoom : PySem.W.nsIn K mainGlobals "NoRoom" = some (some (.ref CNoRoom)))
    (gc_NoNumber : PySem.W.nsIn K mainGlobals "NoNumber" = some (some (.ref CNoNumber)))
    (gc_NoSign : PySem.W.nsIn K mainGlobals "NoSign" = some (some (.ref CNoSign)))
    (gc_NoWay : PySem.W.nsIn K mainGlobals "NoWay" = some (some (.ref CNoWay)))
    (gc_NoName : PySem.W.nsIn K mainGlobals "NoName" = some (some (.ref CNoName)))
    (gc_TooMany : PySem.W.nsIn K mainGlobals "TooMany" = some (some (.ref CTooMany)))
    (gc_Doubling : PySem.W.nsIn K mainGlobals "Doubling" = some (some (.ref CDoubling)))
    (gc_Growing : PySem.W.nsIn K mainGlobals "Growing" = some (some (.ref CGrowing)))
    (gc_Parted : PySem.W.nsIn K mainGlobals "Parted" = some (some (.ref CParted)))
    (gc_Bare : PySem.W.nsIn K mainGlobals "Bare" = some (some (.ref CBare)))
    (xk_sub : PySem.W.subIn K (.ref CNoPattern) (.ref CNoPattern) = some true)
    (xk_0 : PySem.W.kitOne K (.ref CNoPattern) (.ref CNoPattern) = some true)
    (xk_1 : PySem.W.kitOne K (.ref CNoPattern) (.ref CNoMachine) = some false)
    (xk_2 : PySem.W.kitOne K (.ref CNoPattern) (.ref CNoText) = some false)
    (xk_3 : PySem.W.kitOne K (.ref CNoPattern) (.ref CNoWord) = some false)
    (xk_4 : PySem.W.kitOne K (.ref CNoPattern) (.ref CNoRow) = some false)
    (xk_5 : PySem.W.kitOne K (.ref CNoPattern) (.ref CNoRoom) = some false)
    (xk_6 : PySem.W.kitOne K (.ref CNoPattern) (.ref CNoNumber) = some false)
    (xk_7 : PySem.W.kitOne K (.ref CNoPattern) (.ref CNoSign) = some false)
    (xk_8 : PySem.W.kitOne K (.ref CNoPattern) (.ref CNoWay) = some false)
    (xk_9 : PySem.W.kitOne K (.ref CNoPattern) (.ref CNoName) = some false)
    (xk_10 : PySem.W.kitOne K (.ref CNoPattern) (.ref CTooMany) = some false)
    (xk_11 : PySem.W.kitOne K (.ref CNoPattern) (.ref CDoubling) = some false)
    (xk_12 : PySem.W.kitOne K (.ref CNoPattern) (.ref CGrowing) = some false)
    (xk_13 : PySem.W.kitOne K (.ref CNoPattern) (.ref CParted) = some false)
    (xk_14 : PySem.W.kitOne K (.ref CNoPattern) (.ref CBare) = some false)
    (xk_v : PySem.W.kitOne K (.ref CNoPattern) (.type "ValueError") = some true)
    (z_len : PySem.W.nsIn K mainGlobals "len" = some none) (z_isinstance : PySem.W.nsIn K mainGlobals "isinstance" = some none) (z_str : PySem.W.nsIn K mainGlobals "str" = some none) (z_bool : PySem.W.nsIn K mainGlobals "bool" = some none) (z_range : PySem.W.nsIn K mainGlobals "range" = some none) (z_int : PySem.W.nsIn K mainGlobals "int" = some none) (z_max : PySem.W.nsIn K mainGlobals "max" = some none) (z_min : PySem.W.nsIn K mainGlobals "min" = some none) (z_sum : PySem.W.nsIn K mainGlobals "sum" = some none) (z_sorted : PySem.W.nsIn K mainGlobals "sorted" = some none) (z_set : PySem.W.nsIn K mainGlobals "set" = some none) (z_tuple : PySem.W.nsIn K mainGlobals "tuple" = some none) (z_repr : PySem.W.nsIn K mainGlobals "repr" = some none) (z_ValueError : PySem.W.nsIn K mainGlobals "ValueError" = some none) :
    ∃ fd : FuncData, (∀ (s : Shared) (v : Value), BindsTo s fd ⟨[v], []⟩ [("_law_script", v)]) ∧ ∀ base : Heap, K.In base → base.Ns mainGlobals mg → FnOkG l.prog w K mg base CX0 220 fa fd ["_law_script"] (spLaw K) := by
  have e := hfa.symm.trans (PySem.W.mg_of X G a27)
  cases e
  have m_len := PySem.W.mg_none_of X G z_len
  have m_isinstance := PySem.W.mg_none_of X G z_isinstance
  have m_str := PySem.W.mg_none_of X G z_str
  have m_bool := PySem.W.mg_none_of X G z_bool
  have m_range := PySem.W.mg_none_of X G z_range
  have m_int := PySem.W.mg_none_of X G z_int
  have m_max := PySem.W.mg_none_of X G z_max
  have m_min := PySem.W.mg_none_of X G z_min
  have m_sum := PySem.W.mg_none_of X G z_sum
  have m_sorted := PySem.W.mg_none_of X G z_sorted
  have m_set := PySem.W.mg_none_of X G z_set
  have m_tuple := PySem.W.mg_none_of X G z_tuple
  have m_repr := PySem.W.mg_none_of X G z_repr
  have m_ValueError := PySem.W.mg_none_of X G z_ValueError
  have g_LETTERS_MOST : ∃ tk, mg "LETTERS_MOST" = some (.int 8 tk) := ⟨_, PySem.W.mg_of X G gi_LETTERS_MOST.choose_spec⟩
  have g_LEAVES_MOST : ∃ tk, mg "LEAVES_MOST" = some (.int 11 tk) := ⟨_, PySem.W.mg_of X G gi_LEAVES_MOST.choose_spec⟩
  have g_PARTS_MOST : ∃ tk, mg "PARTS_MOST" = some (.int 40 tk) := ⟨_, PySem.W.mg_of X G gi_PARTS_MOST.choose_spec⟩
  have g_DEEP_MOST : ∃ tk, mg "DEEP_MOST" = some (.int 12 tk) := ⟨_, PySem.W.mg_of X G gi_DEEP_MOST.choose_spec⟩
  have mx_NEXT := PySem.W.mg_of X G gd_NEXT
  have kd_NEXT : KDict K w dNEXT esNEXT nNEXT := ⟨gl_NEXT, gk_NEXT, gs_NEXT⟩
  have F1 := fun_mk (st := s_is_sign) l1 c1 k1
  have b1 := F1.binds (ps := ["thing"]) fun _ _ _ _ _ _ us hl => match us, hl with | [_], _ => rfl
  have F2 := fun_mk (st := s_is_within) l2 c2 k2
  have b2 := F2.binds (ps := ["leaves", "parts", "deep"]) fun _ _ _ _ _ _ us hl => match us, hl with | [_, _, _], _ => rfl
  have F3 := fun_mk (st := s_read) l3 c3 k3
  have b3 := F3.binds (ps := ["text"]) fun _ _ _ _ _ _ us hl => match us, hl with | [_], _ => rfl
  have F4 := fun_mk (st := s_read_on) l4 c4 k4
  have b4 := F4.binds (ps := ["text", "at", "opened", "held"]) fun _ _ _ _ _ _ us hl => match us, hl with | [_, _, _, _], _ => rfl
  have F5 := fun_mk (st := s_hold) l5 c5 k5
  have b5 := F5.binds (ps := ["whole", "opened", "held"]) fun _ _ _ _ _ _ us hl => match us, hl with | [_, _, _], _ => rfl
  have F6 := fun_mk (st := s_again_of) l6 c6 k6
  have b6 := F6.binds (ps := ["whole"]) fun _ _ _ _ _ _ us hl => match us, hl with | [_], _ => rfl
  have F7 := fun_mk (st := s_pair_of) l7 c7 k7
  have b7 := F7.binds (ps := ["stood", "one", "other"]) fun _ _ _ _ _ _ us hl => match us, hl with | [_, _, _], _ => rfl
  have F8 := fun_mk (st := s_letters_at) l8 c8 k8
  have b8 := F8.binds (ps := ["text", "at"]) fun _ _ _ _ _ _ us hl => match us, hl with | [_, _], _ => rfl
  have F9 := fun_mk (st := s_can_follow) l9 c9 k9
  have b9 := F9.binds (ps := ["letters", "sign"]) fun _ _ _ _ _ _ us hl => match us, hl with | [_, _], _ => rfl
  have F10 := fun_mk (st := s_law_hand) l10 c10 k10
  have b10 := F10.binds (ps := ["_law_script", "_law_k"]) fun _ _ _ _ _ _ us hl => match us, hl with | [_, _], _ => rfl
  have F11 := fun_mk (st := s_law_draw) l11 c11 k11
  have b11 := F11.binds (ps := ["_law_hand_here", "_law_many"]) fun _ _ _ _ _ _ us hl => match us, hl with | [_, _], _ => rfl
  have F12 := fun_mk (st := s_law_letters) l12 c12 k12
  have b12 := F12.binds (ps := ["_law_hand_here"]) fun _ _ _ _ _ _ us hl => match us, hl with | [_], _ => rfl
  have F13 := fun_mk (st := s_law_pattern) l13 c13 k13
  have b13 := F13.binds (ps := ["_law_hand_here", "_law_leaves", "_law_room"]) fun _ _ _ _ _ _ us hl => match us, hl with | [_, _, _], _ => rfl
  have F14 := fun_mk (st := s_law_sizes) l14 c14 k14
  have b14 := F14.binds (ps := ["_law_thing"]) fun _ _ _ _ _ _ us hl => match us, hl with | [_], _ => rfl
  have F15 := fun_mk (st := s_law_are_letters) l15 c15 k15
  have b15 := F15.binds (ps := ["_law_thing"]) fun _ _ _ _ _ _ us hl => match us, hl with | [_], _ => rfl
  have F16 := fun_mk (st := s_law_is) l16 c16 k16
  have b16 := F16.binds (ps := ["_law_thing"]) fun _ _ _ _ _ _ us hl => match us, hl with | [_], _ => rfl
  have F17 := fun_mk (st := s_law_text) l17 c17 k17
  have b17 := F17.binds (ps := ["_law_pattern_here"]) fun _ _ _ _ _ _ us hl => match us, hl with | [_], _ => rfl
  have F18 := fun_mk (st := s_law_kinds) l18 c18 k18
  have b18 := F18.binds (ps := ["_law_error"]) fun _ _ _ _ _ _ us hl => match us, hl with | [_], _ => rfl
  have F19 := fun_mk (st := s_law_begins) l19 c19 k19
  have b19 := F19.binds (ps := ["_law_row", "_law_sign"]) fun _ _ _ _ _ _ us hl => match us, hl with | [_, _], _ => rfl
  have F20 := fun_mk (st := s_law_lettered) l20 c20 k20
  have b20 := F20.binds (ps := ["_law_row", "_law_sign"]) fun _ _ _ _ _ _ us hl => match us, hl with | [_, _], _ => rfl
  have F21 := fun_mk (st := s_law_step) l21 c21 k21
  have b21 := F21.binds (ps := ["_law_row", "_law_sign"]) fun _ _ _ _ _ _ us hl => match us, hl with | [_, _], _ => rfl
  have F22 := fun_mk (st := s_law_read) l22 c22 k22
  have b22 := F22.binds (ps := ["_law_text_here"]) fun _ _ _ _ _ _ us hl => match us, hl with | [_], _ => rfl
  have F23 := fun_mk (st := s_law_told) l23 c23 k23
  have b23 := F23.binds (ps := ["_law_text_here"]) fun _ _ _ _ _ _ us hl => match us, hl with | [_], _ => rfl
  have F24 := fun_mk (st := s_law_right) l24 c24 k24
  have b24 := F24.binds (ps := ["_law_text_here"]) fun _ _ _ _ _ _ us hl => match us, hl with | [_], _ => rfl
  have F25 := fun_mk (st := s_law_spoilt) l25 c25 k25
  have b25 := F25.binds (ps := ["_law_hand_here", "_law_text_here"]) fun _ _ _ _ _ _ us hl => match us, hl with | [_, _], _ => rfl
  have F26 := fun_mk (st := s_law_plain_ones) l26 c26 k26
  have b26 := F26.binds (ps := []) fun _ _ _ _ _ _ us hl => match us, hl with | [], _ => rfl
  have F27 := fun_mk (st := s_law) l27 c27 k27
  refine ⟨PySem.W.fnOf "law" "law" (defArgs s_law) (defBody s_law) (defScope s_law) .none kV27 dc27 pm27 an27 cd27 ct27, fun s v => .of_eq rfl, fun base _ _ => law_by ?_⟩
  have E_NoPattern : ErrC K CNoPattern := ⟨⟨_, "ValueError", _, .of PySem.F.excBase_ValueError, PySem.F.store_ValueError, eb_NoPattern, eo_NoPattern⟩, e1_NoPattern, e2_NoPattern, e3_NoPattern, e4_NoPattern, e5_NoPattern, e6_NoPattern, e7_NoPattern, e8_NoPattern, sg, stk, e9_NoPattern⟩
  have FI_NoPattern := fun_mk (st := s_init_NoPattern) li_NoPattern ci_NoPattern kp_NoPattern
  have bI_NoPattern := FI_NoPattern.binds (ps := ["self", "at"]) fun _ _ _ _ _ _ us hl => match us, hl with | [_, _], _ => rfl
  have KE_NoPattern : KnE l.prog w K mg base "NoPattern" CNoPattern ["at"] := ⟨E_NoPattern, PySem.W.mg_of X G gc_NoPattern, _, _, _, CX0, ii_NoPattern, ty_NoPattern, ok_init_NoPattern FI_NoPattern E_NoPattern tf_at_NoPattern, bI_NoPattern, pass_cx0⟩
  have km_NEXT : KMap K dNEXT nextD := by
    refine kmap_next fun o => ?_
    cases o with
    | e => have z := ge_NEXT_0; rw [show (Str.ofString "") = st (O.e).s by decide +kernel, show (Str.ofString "a") = st (O.e).nx by decide +kernel] at z; exact z
    | a => have z := ge_NEXT_1; rw [show (Str.ofString "a") = st (O.a).s by decide +kernel, show (Str.ofString "*") = st (O.a).nx by decide +kernel] at z; exact z
    | o => have z := ge_NEXT_2; rw [show (Str.ofString "(") = st (O.o).s by decide +kernel, show (Str.ofString "a") = st (O.o).nx by decide +kernel] at z; exact z
    | oa => have z := ge_NEXT_3; rw [show (Str.ofString "(a") = st (O.oa).s by decide +kernel, show (Str.ofString "a*|") = st (O.oa).nx by decide +kernel] at z; exact z
    | oaa => have z := ge_NEXT_4; rw [show (Str.ofString "(aa") = st (O.oaa).s by decide +kernel, show (Str.ofString "*)") = st (O.oaa).nx by decide +kernel] at z; exact z
    | ob => have z := ge_NEXT_5; rw [show (Str.ofString "(a|") = st (O.ob).s by decide +kernel, show (Str.ofString "a") = st (O.ob).nx by decide +kernel] at z; exact z
    | oba => have z := ge_NEXT_6; rw [show (Str.ofString "(a|a") = st (O.oba).s by decide +kernel, show (Str.ofString "*)") = st (O.oba).nx by decide +kernel] at z; exact z
  have tl : Cls K mg (Cf CNoPattern CNoMachine CNoText CNoWord CNoRow CNoRoom CNoNumber CNoSign CNoWay CNoName CTooMany CDoubling CGrowing CParted CBare) := ⟨PySem.W.mg_of X G gc_NoPattern, PySem.W.mg_of X G gc_NoMachine, PySem.W.mg_of X G gc_NoText, PySem.W.mg_of X G gc_NoWord, PySem.W.mg_of X G gc_NoRow, PySem.W.mg_of X G gc_NoRoom, PySem.W.mg_of X G gc_NoNumber, PySem.W.mg_of X G gc_NoSign, PySem.W.mg_of X G gc_NoWay, PySem.W.mg_of X G gc_NoName, PySem.W.mg_of X G gc_TooMany, PySem.W.mg_of X G gc_Doubling, PySem.W.mg_of X G gc_Growing, PySem.W.mg_of X G gc_Parted, PySem.W.mg_of X G gc_Bare, E_NoPattern, fun j hj => to15 (p := fun j => PySem.W.kitOne K (.ref CNoPattern) (.ref ((Cf CNoPattern CNoMachine CNoText CNoWord CNoRow CNoRoom CNoNumber CNoSign CNoWay CNoName CTooMany CDoubling CGrowing CParted CBare) j)) = some (decide (j = 0))) ⟨xk_0, xk_1, xk_2, xk_3, xk_4, xk_5, xk_6, xk_7, xk_8, xk_9, xk_10, xk_11, xk_12, xk_13, xk_14⟩ j hj, ff_at_NoPattern, (PySem.W.exm_ref e3_NoPattern e2_NoPattern e4_NoPattern xk_sub), xk_v⟩
  have K1 : Kn l.prog w K mg base 1 "is_sign" S_is_sign := ⟨_, _, _, ok_is_sign m_len m_isinstance m_str m_bool m_range m_int m_max m_min m_sum m_sorted m_set m_tuple m_repr m_ValueError F1 , PySem.W.mg_of X G a1, k1, b1⟩
  have K2 : Kn l.prog w K mg base 1 "is_within" S_within := ⟨_, _, _, ok_is_within m_len m_isinstance m_str m_bool m_range m_int m_max m_min m_sum m_sorted m_set m_tuple m_repr m_ValueError F2 g_LEAVES_MOST g_PARTS_MOST g_DEEP_MOST, PySem.W.mg_of X G a2, k2, b2⟩
  have K5 : Kn l.prog w K mg base 1 "hold" S_hold := ⟨_, _, _, ok_hold m_len m_isinstance m_str m_bool m_range m_int m_max m_min m_sum m_sorted m_set m_tuple m_repr m_ValueError F5 , PySem.W.mg_of X G a5, k5, b5⟩
  have K6 : Kn l.prog w K mg base 1 "again_of" S_again := ⟨_, _, _, ok_again_of m_len m_isinstance m_str m_bool m_range m_int m_max m_min m_sum m_sorted m_set m_tuple m_repr m_ValueError F6 , PySem.W.mg_of X G a6, k6, b6⟩
  have K7 : Kn l.prog w K mg base 1 "pair_of" S_pair := ⟨_, _, _, ok_pair_of m_len m_isinstance m_str m_bool m_range m_int m_max m_min m_sum m_sorted m_set m_tuple m_repr m_ValueError F7 , PySem.W.mg_of X G a7, k7, b7⟩
  have K9 : Kn l.prog w K mg base 2 "can_follow" S_follow := ⟨_, _, _, ok_can_follow m_len m_isinstance m_str m_bool m_range m_int m_max m_min m_sum m_sorted m_set m_tuple m_repr m_ValueError F9 g_LETTERS_MOST K1, PySem.W.mg_of X G a9, k9, b9⟩
  have K8 : KnX l.prog w K mg base 3 "letters_at" (S_letters_at CNoPattern) := ⟨_, _, _, ok_letters_at m_len m_isinstance m_str m_bool m_range m_int m_max m_min m_sum m_sorted m_set m_tuple m_repr m_ValueError F8 K9 KE_NoPattern, PySem.W.mg_of X G a8, k8, b8⟩
  have K4 : KnX l.prog w K mg base 4 "read_on" (S_on CNoPattern) := ⟨_, _, _, ok_read_on m_len m_isinstance m_str m_bool m_range m_int m_max m_min m_sum m_sorted m_set m_tuple m_repr m_ValueError F4 kd_NEXT km_NEXT mx_NEXT K1 K5 K6 K7 K8 KE_NoPattern, PySem.W.mg_of X G a4, k4, b4⟩
  have K3 : KnX l.prog w K mg base 5 "read" (S_read CNoPattern) := ⟨_, _, _, ok_read m_len m_isinstance m_str m_bool m_range m_int m_max m_min m_sum m_sorted m_set m_tuple m_repr m_ValueError F3 K4 K2 KE_NoPattern, PySem.W.mg_of X G a3, k3, b3⟩
  have K10 : KnN l.prog w K mg base 1 "_law_hand" S_hand := ⟨_, _, _, ok_law_hand m_len m_isinstance m_str m_bool m_range m_int m_max m_min m_sum m_sorted m_set m_tuple m_repr m_ValueError F10 , PySem.W.mg_of X G a10, k10, b10⟩
  have K11 : Kn l.prog w K mg base 1 "_law_draw" S_draw := ⟨_, _, _, ok_law_draw m_len m_isinstance m_str m_bool m_range m_int m_max m_min m_sum m_sorted m_set m_tuple m_repr m_ValueError F11 , PySem.W.mg_of X G a11, k11, b11⟩
  have K12 : Kn l.prog w K mg base 2 "_law_letters" S_letters := ⟨_, _, _, ok_law_letters m_len m_isinstance m_str m_bool m_range m_int m_max m_min m_sum m_sorted m_set m_tuple m_repr m_ValueError F12 K11, PySem.W.mg_of X G a12, k12, b12⟩
  have G13 : ∀ n : Nat, FnOkG l.prog w K mg base CX0 (n + 3) f13 (PySem.W.fnOf "_law_pattern" "_law_pattern" (defArgs s_law_pattern) (defBody s_law_pattern) (defScope s_law_pattern) .none kV13 dc13 pm13 an13 cd13 ct13) ["_law_hand_here", "_law_leaves", "_law_room"] (spD K (S_pattern n)) := fun n => by
    induction n with
    | zero => exact fn_none (fd := (PySem.W.fnOf "_law_pattern" "_law_pattern" (defArgs s_law_pattern) (defBody s_law_pattern) (defScope s_law_pattern) .none kV13 dc13 pm13 an13 cd13 ct13)) fun as R ⟨_, _, _, _, h, _⟩ => absurd h (by omega)
    | succ n ih => exact ok_law_pattern m_len m_isinstance m_str m_bool m_range m_int m_max m_min m_sum m_sorted m_set m_tuple m_repr m_ValueError F13 n K11 K12 ⟨_, _, _, ih, PySem.W.mg_of X G a13, k13, b13⟩
  have U13 : FnOkG l.prog w K mg base CX0 16 f13 (PySem.W.fnOf "_law_pattern" "_law_pattern" (defArgs s_law_pattern) (defBody s_law_pattern) (defScope s_law_pattern) .none kV13 dc13 pm13 an13 cd13 ct13) ["_law_hand_here", "_law_leaves", "_law_room"] (spD K S_any) := ⟨fun vs H Q E ⟨c, as, R, h1, h2, h3, ⟨n, h4⟩, h5⟩ => (G13 n).len vs H Q E ⟨c, as, R, h1, h2, h3, h4, h5⟩, fun A outer s H args us vs Q E hr he hb hv ⟨c, as, R, h1, h2, h3, ⟨n, h4⟩, h5⟩ => by
    have hn : n ≤ 13 := by
      obtain ⟨_, _, _, _, _, h, _⟩ := h4
      exact h
    exact (G13 n).run A outer s H args us vs Q E (hr.mono (by omega)) he hb hv ⟨c, as, R, h1, h2, h3, h4, h5⟩⟩
  have K13 : Kn l.prog w K mg base 16 "_law_pattern" S_any := ⟨_, _, _, U13, PySem.W.mg_of X G a13, k13, b13⟩
  have K15 : Kn l.prog w K mg base 1 "_law_are_letters" S_are := ⟨_, _, _, ok_law_are_letters m_len m_isinstance m_str m_bool m_range m_int m_max m_min m_sum m_sorted m_set m_tuple m_repr m_ValueError F15 , PySem.W.mg_of X G a15, k15, b15⟩
  have G14 : ∀ n : Nat, FnOkG l.prog w K mg base CX0 (n + 1) f14 (PySem.W.fnOf "_law_sizes" "_law_sizes" (defArgs s_law_sizes) (defBody s_law_sizes) (defScope s_law_sizes) .none kV14 dc14 pm14 an14 cd14 ct14) ["_law_thing"] (spD K (S_sizes n)) := fun n => by
    induction n with
    | zero => exact fn_none (fd := (PySem.W.fnOf "_law_sizes" "_law_sizes" (defArgs s_law_sizes) (defBody s_law_sizes) (defScope s_law_sizes) .none kV14 dc14 pm14 an14 cd14 ct14)) fun as R ⟨p, _, _, h, _⟩ => absurd p.deep_pos (by omega)
    | succ n ih => exact ok_law_sizes m_len m_isinstance m_str m_bool m_range m_int m_max m_min m_sum m_sorted m_set m_tuple m_repr m_ValueError F14 n K15 ⟨_, _, _, ih, PySem.W.mg_of X G a14, k14, b14⟩
  have K14 : Kn l.prog w K mg base 216 "_law_sizes" (S_sizes 215) := ⟨_, _, _, G14 215, PySem.W.mg_of X G a14, k14, b14⟩
  have K16 : Kn l.prog w K mg base 217 "_law_is" (S_is 215) := ⟨_, _, _, ok_law_is m_len m_isinstance m_str m_bool m_range m_int m_max m_min m_sum m_sorted m_set m_tuple m_repr m_ValueError F16 215 K14, PySem.W.mg_of X G a16, k16, b16⟩
  have G17 : ∀ n : Nat, FnOkG l.prog w K mg base CX0 (n + 1) f17 (PySem.W.fnOf "_law_text" "_law_text" (defArgs s_law_text) (defBody s_law_text) (defScope s_law_text) .none kV17 dc17 pm17 an17 cd17 ct17) ["_law_pattern_here"] (spD K (S_text n)) := fun n => by
    induction n with
    | zero => exact fn_none (fd := (PySem.W.fnOf "_law_text" "_law_text" (defArgs s_law_text) (defBody s_law_text) (defScope s_law_text) .none kV17 dc17 pm17 an17 cd17 ct17)) fun as R ⟨p, _, _, h, _⟩ => absurd p.deep_pos (by omega)
    | succ n ih => exact ok_law_text m_len m_isinstance m_str m_bool m_range m_int m_max m_min m_sum m_sorted m_set m_tuple m_repr m_ValueError F17 n  ⟨_, _, _, ih, PySem.W.mg_of X G a17, k17, b17⟩
  have K17 : Kn l.prog w K mg base 14 "_law_text" (S_text 13) := ⟨_, _, _, G17 13, PySem.W.mg_of X G a17, k17, b17⟩
  have K18 : Kn l.prog w K mg base 1 "_law_kinds" (S_kinds (Cf CNoPattern CNoMachine CNoText CNoWord CNoRow CNoRoom CNoNumber CNoSign CNoWay CNoName CTooMany CDoubling CGrowing CParted CBare)) := ⟨_, _, _, ok_law_kinds m_len m_isinstance m_str m_bool m_range m_int m_max m_min m_sum m_sorted m_set m_tuple m_repr m_ValueError F18 tl, PySem.W.mg_of X G a18, k18, b18⟩
  have K19 : Kn l.prog w K mg base 1 "_law_begins" S_begins := ⟨_, _, _, ok_law_begins m_len m_isinstance m_str m_bool m_range m_int m_max m_min m_sum m_sorted m_set m_tuple m_repr m_ValueError F19 , PySem.W.mg_of X G a19, k19, b19⟩
  have K20 : Kn l.prog w K mg base 1 "_law_lettered" S_lettered := ⟨_, _, _, ok_law_lettered m_len m_isinstance m_str m_bool m_range m_int m_max m_min m_sum m_sorted m_set m_tuple m_repr m_ValueError F20 , PySem.W.mg_of X G a20, k20, b20⟩
  have K21 : Kn l.prog w K mg base 2 "_law_step" S_step := ⟨_, _, _, ok_law_step m_len m_isinstance m_str m_bool m_range m_int m_max m_min m_sum m_sorted m_set m_tuple m_repr m_ValueError F21 K19 K20, PySem.W.mg_of X G a21, k21, b21⟩
  have K22 : Kn l.prog w K mg base 218 "_law_read" (S_lread 215) := ⟨_, _, _, ok_law_read m_len m_isinstance m_str m_bool m_range m_int m_max m_min m_sum m_sorted m_set m_tuple m_repr m_ValueError F22 215 K21 K16, PySem.W.mg_of X G a22, k22, b22⟩
  have K23 : Kn l.prog w K mg base 6 "_law_told" S_told := ⟨_, _, _, ok_law_told m_len m_isinstance m_str m_bool m_range m_int m_max m_min m_sum m_sorted m_set m_tuple m_repr m_ValueError F23 tl K3 K18, PySem.W.mg_of X G a23, k23, b23⟩
  have K24 : Kn l.prog w K mg base 219 "_law_right" (S_right 215) := ⟨_, _, _, ok_law_right m_len m_isinstance m_str m_bool m_range m_int m_max m_min m_sum m_sorted m_set m_tuple m_repr m_ValueError F24 215 (by decide) K22 K23, PySem.W.mg_of X G a24, k24, b24⟩
  have K25 : Kn l.prog w K mg base 2 "_law_spoilt" S_spoilt := ⟨_, _, _, ok_law_spoilt m_len m_isinstance m_str m_bool m_range m_int m_max m_min m_sum m_sorted m_set m_tuple m_repr m_ValueError F25 K11, PySem.W.mg_of X G a25, k25, b25⟩
  have K26 : Kn l.prog w K mg base 1 "_law_plain_ones" S_plain := ⟨_, _, _, ok_law_plain_ones m_len m_isinstance m_str m_bool m_range m_int m_max m_min m_sum m_sorted m_set m_tuple m_repr m_ValueError F26 , PySem.W.mg_of X G a26, k26, b26⟩
  exact ok_law (P := l.prog) (w := w) (base := base) m_len m_isinstance m_str m_bool m_range m_int m_max m_min m_sum m_sorted m_set m_tuple m_repr m_ValueError F27 K26 K24 K23 K10 K11 K13 K17 K25
theorem walk {l : PySem.W.OpenLaw} {q : Program} {loose : List Str} {XP : (Str → Option Value) → Heap → Prop} {YP : World → Heap → Prop} {d : DefRec} {K : Params → PySem.W.Frag} (hn : l.most = some 63) (hdf : d.params.defaults = [])
    (hY : ∀ (w : World) (h : Heap), YP w h → (K w.params).In h)
    (F : ∀ (w : World) (mg : Str → Option Value) (fa : Addr) (h : Heap), (K w.params).In h → h.Ns mainGlobals mg → mg d.name = some (.ref fa) →
      ∃ fd : FuncData, (∀ (s : Shared) (u : Value), BindsTo s fd ⟨[u], []⟩ [("_law_script", u)]) ∧ ∀ base : Heap, (K w.params).In base → base.Ns mainGlobals mg → FnOkG l.prog w (K w.params) mg base CX0 220 fa fd ["_law_script"] (spLaw (K w.params))) :
    PySem.W.WalkO q loose XP YP l.row.toRowW d [] (fun f vs => PySem.call f vs) :=
  TL.walk_ofG (n := 63) (k := 220) (x := "_law_script") (sp := fun w => spLaw (K w.params)) hn (by decide) hdf ⟨rfl, by decide, by decide⟩ hY F (fun _ _ a ns hl _ hS => ⟨a, ns, rfl, hS, hl, fun _ => rfl⟩)
end K05
open PySem PySem.W PyProof.Rows
set_option maxRecDepth 100000 in
set_option maxHeartbeats 0 in
theorem PySem.Challenge.cw_triesgrow_k05_texts_of_no_pattern_holds : PySem.Challenge.rw_triesgrow_k05_texts_of_no_pattern.Holds := by
  w_on; o_law; k_head; (case hw => w_witness2)
  k_fill
  refine K05.walk (l := PySem.Challenge.rw_triesgrow_k05_texts_of_no_pattern) rfl rfl (fun w h Y => PySem.W.kIn_of Y) ?F
  case F =>
    intro w mg fa h KX G hmg
    refine' K05.all_mk KX G hmg ?a1 ?l1 ?c1 ?k1 ?a2 ?l2 ?c2 ?k2 ?a3 ?l3 ?c3 ?k3 ?a4 ?l4 ?c4 ?k4 ?a5 ?l5 ?c5 ?k5 ?a6 ?l6 ?c6 ?k6 ?a7 ?l7 ?c7 ?k7 ?a8 ?l8 ?c8 ?k8 ?a9 ?l9 ?c9 ?k9 ?a10 ?l10 ?c10 ?k10 ?a11 ?l11 ?c11 ?k11 ?a12 ?l12 ?c12 ?k12 ?a13 ?l13 ?c13 ?k13 ?a14 ?l14 ?c14 ?k14 ?a15 ?l15 ?c15 ?k15 ?a16 ?l16 ?c16 ?k16 ?a17 ?l17 ?c17 ?k17 ?a18 ?l18 ?c18 ?k18 ?a19 ?l19 ?c19 ?k19 ?a20 ?l20 ?c20 ?k20 ?a21 ?l21 ?c21 ?k21 ?a22 ?l22 ?c22 ?k22 ?a23 ?l23 ?c23 ?k23 ?a24 ?l24 ?c24 ?k24 ?a25 ?l25 ?c25 ?k25 ?a26 ?l26 ?c26 ?k26 ?a27 ?l27 ?c27 ?k27 ?gi_LETTERS_MOST ?gi_LEAVES_MOST ?gi_PARTS_MOST ?gi_DEEP_MOST ?gd_NEXT ?gl_NEXT ?gk_NEXT ?gs_NEXT ?ge_NEXT_0 ?ge_NEXT_1 ?ge_NEXT_2 ?ge_NEXT_3 ?ge_NEXT_4 ?ge_NEXT_5 ?ge_NEXT_6 ?gc_NoPattern ?eb_NoPattern ?eo_NoPattern ?e1_NoPattern ?e2_NoPattern ?e3_NoPattern ?e4_NoPattern ?e5_NoPattern ?e6_NoPattern ?e7_NoPattern ?e8_NoPattern ?e9_NoPattern ?ii_NoPattern ?ty_NoPattern ?li_NoPattern ?ci_NoPattern ?kp_NoPattern ?tf_at_NoPattern ?ff_at_NoPattern ?sg ?stk ?gc_NoMachine ?gc_NoText ?gc_NoWord ?gc_NoRow ?gc_NoRoom ?gc_NoNumber ?gc_NoSign ?gc_NoWay ?gc_NoName ?gc_TooMany ?gc_Doubling ?gc_Growing ?gc_Parted ?gc_Bare ?xk_sub ?xk_0 ?xk_1 ?xk_2 ?xk_3 ?xk_4 ?xk_5 ?xk_6 ?xk_7 ?xk_8 ?xk_9 ?xk_10 ?xk_11 ?xk_12 ?xk_13 ?xk_14 ?xk_v ?z_len ?z_isinstance ?z_str ?z_bool ?z_range ?z_int ?z_max ?z_min ?z_sum ?z_sorted ?z_set ?z_tuple ?z_repr ?z_ValueError
    (case a1 => k_is)
    (case l1 => k_is)
    (case c1 => k_is)
    (case k1 => k_is)
    (case a2 => k_is)
    (case l2 => k_is)
    (case c2 => k_is)
    (case k2 => k_is)
    (case a3 => k_is)
    (case l3 => k_is)
    (case c3 => k_is)
    (case k3 => k_is)
    (case a4 => k_is)
    (case l4 => k_is)
    (case c4 => k_is)
    (case k4 => k_is)
    (case a5 => k_is)
    (case l5 => k_is)
    (case c5 => k_is)
    (case k5 => k_is)
    (case a6 => k_is)
    (case l6 => k_is)
    (case c6 => k_is)
    (case k6 => k_is)
    (case a7 => k_is)
    (case l7 => k_is)
    (case c7 => k_is)
    (case k7 => k_is)
    (case a8 => k_is)
    (case l8 => k_is)
    (case c8 => k_is)
    (case k8 => k_is)
    (case a9 => k_is)
    (case l9 => k_is)
    (case c9 => k_is)
    (case k9 => k_is)
    (case a10 => k_is)
    (case l10 => k_is)
    (case c10 => k_is)
    (case k10 => k_is)
    (case a11 => k_is)
    (case l11 => k_is)
    (case c11 => k_is)
    (case k11 => k_is)
    (case a12 => k_is)
    (case l12 => k_is)
    (case c12 => k_is)
    (case k12 => k_is)
    (case a13 => k_is)
    (case l13 => k_is)
    (case c13 => k_is)
    (case k13 => k_is)
    (case a14 => k_is)
    (case l14 => k_is)
    (case c14 => k_is)
    (case k14 => k_is)
    (case a15 => k_is)
    (case l15 => k_is)
    (case c15 => k_is)
    (case k15 => k_is)
    (case a16 => k_is)
    (case l16 => k_is)
    (case c16 => k_is)
    (case k16 => k_is)
    (case a17 => k_is)
    (case l17 => k_is)
    (case c17 => k_is)
    (case k17 => k_is)
    (case a18 => k_is)
    (case l18 => k_is)
    (case c18 => k_is)
    (case k18 => k_is)
    (case a19 => k_is)
    (case l19 => k_is)
    (case c19 => k_is)
    (case k19 => k_is)
    (case a20 => k_is)
    (case l20 => k_is)
    (case c20 => k_is)
    (case k20 => k_is)
    (case a21 => k_is)
    (case l21 => k_is)
    (case c21 => k_is)
    (case k21 => k_is)
    (case a22 => k_is)
    (case l22 => k_is)
    (case c22 => k_is)
    (case k22 => k_is)
    (case a23 => k_is)
    (case l23 => k_is)
    (case c23 => k_is)
    (case k23 => k_is)
    (case a24 => k_is)
    (case l24 => k_is)
    (case c24 => k_is)
    (case k24 => k_is)
    (case a25 => k_is)
    (case l25 => k_is)
    (case c25 => k_is)
    (case k25 => k_is)
    (case a26 => k_is)
    (case l26 => k_is)
    (case c26 => k_is)
    (case k26 => k_is)
    (case a27 => k_is)
    (case l27 => k_is)
    (case c27 => k_is)
    (case k27 => k_is)
    (case gi_LETTERS_MOST => exact ⟨_, by k_is⟩)
    (case gi_LEAVES_MOST => exact ⟨_, by k_is⟩)
    (case gi_PARTS_MOST => exact ⟨_, by k_is⟩)
    (case gi_DEEP_MOST => exact ⟨_, by k_is⟩)
    (case gd_NEXT => k_is)
    (case gl_NEXT => k_is)
    (case gk_NEXT => first | k_is | simp [PySem.W.KeysLit])
    (case gs_NEXT => first | k_is | decide | rfl)
    (case ge_NEXT_0 => exact ⟨_, by k_is⟩)
    (case ge_NEXT_1 => exact ⟨_, by k_is⟩)
    (case ge_NEXT_2 => exact ⟨_, by k_is⟩)
    (case ge_NEXT_3 => exact ⟨_, by k_is⟩)
    (case ge_NEXT_4 => exact ⟨_, by k_is⟩)
    (case ge_NEXT_5 => exact ⟨_, by k_is⟩)
    (case ge_NEXT_6 => exact ⟨_, by k_is⟩)
    (case gc_NoPattern => k_is)
    (case eb_NoPattern => first | kx_is | k_exc | k_is)
    (case eo_NoPattern => first | kx_is | k_exc | k_is)
    (case e1_NoPattern => k_is)
    (case e2_NoPattern => k_is)
    (case e3_NoPattern => k_is)
    (case e4_NoPattern => k_is)
    (case e5_NoPattern => k_is)
    (case e6_NoPattern => k_is)
    (case e7_NoPattern => k_is)
    (case e8_NoPattern => k_is)
    (case e9_NoPattern => k_is)
    (case ii_NoPattern => k_is)
    (case ty_NoPattern => k_is)
    (case li_NoPattern => k_is)
    (case ci_NoPattern => k_is)
    (case kp_NoPattern => k_is)
    (case tf_at_NoPattern => k_is)
    (case ff_at_NoPattern => k_is)
    (case sg => k_is)
    (case stk => k_is)
    (case gc_NoMachine => k_is)
    (case gc_NoText => k_is)
    (case gc_NoWord => k_is)
    (case gc_NoRow => k_is)
    (case gc_NoRoom => k_is)
    (case gc_NoNumber => k_is)
    (case gc_NoSign => k_is)
    (case gc_NoWay => k_is)
    (case gc_NoName => k_is)
    (case gc_TooMany => k_is)
    (case gc_Doubling => k_is)
    (case gc_Growing => k_is)
    (case gc_Parted => k_is)
    (case gc_Bare => k_is)
    (case xk_sub => first | k_is | kit_is)
    (case xk_0 => first | k_is | kit_is)
    (case xk_1 => first | k_is | kit_is)
    (case xk_2 => first | k_is | kit_is)
    (case xk_3 => first | k_is | kit_is)
    (case xk_4 => first | k_is | kit_is)
    (case xk_5 => first | k_is | kit_is)
    (case xk_6 => first | k_is | kit_is)
    (case xk_7 => first | k_is | kit_is)
    (case xk_8 => first | k_is | kit_is)
    (case xk_9 => first | k_is | kit_is)
    (case xk_10 => first | k_is | kit_is)
    (case xk_11 => first | k_is | kit_is)
    (case xk_12 => first | k_is | kit_is)
    (case xk_13 => first | k_is | kit_is)
    (case xk_14 => first | k_is | kit_is)
    (case xk_v => first | k_is | kit_is)
    (case z_len => k_is)
    (case z_isinstance => k_is)
    (case z_str => k_is)
    (case z_bool => k_is)
    (case z_range => k_is)
    (case z_int => k_is)
    (case z_max => k_is)
    (case z_min => k_is)
    (case z_sum => k_is)
    (case z_sorted => k_is)
    (case z_set => k_is)
    (case z_tuple => k_is)
    (case z_repr => k_is)
    (case z_ValueError => k_is)
