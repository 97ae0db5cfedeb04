import PyProof.Rows.All
import Wide.All
import OpenK.AllK
import Wide.FinOn
import HandS.ForMost
import HandS.IsInst
import HandS.Deep
import HandS.Codes
import HandS.Flow
import PyProof.Rows.StrMul
import HandS.Ends
import HandS.Strs
import HandS.SetFor
import HandS.More
import KE.DataMinMax
import HandS.SortKw
import ObjForm.LawKit
import HandS.FStr
import HandS.Steps
import KE.GoesMore
import HandS.Conv
import HandS.SetBool
import PyProof.StrWalks
import HandS.Star
import HandS.TupAny
import PyProof.SetRoads
import PyProof.P3In
import PySem.Challenge.RW_triesgrow_k63_put_otherwise
set_option Elab.async false
set_option linter.all false
set_option maxRecDepth 100000
set_option maxHeartbeats 2000000
/-! TL1: data under a heap that grows, the slots of a frame, and what is kept of both. -/
namespace TL
open PySem PySem.Spec L2

/-- all that stands in the one stands in the other -/
def Ex (H H' : Hp) : Prop := ∀ a o, H a = some o → H' a = some o
theorem Ex.refl (H : Hp) : Ex H H := fun _ _ h => h
theorem Ex.trans {H H1 H2 : Hp} (a : Ex H H1) (b : Ex H1 H2) : Ex H H2 := fun x o h => b x o (a x o h)
theorem Ex.new {H : Hp} {p : Addr} {o : HO} (h : H p = none) : Ex H (upd H p o) := fun a u e => by
  rw [upd_ne (ne_of_none e h)]
  exact e
theorem Ex.upd2 {G H : Hp} {p : Addr} {o : HO} (e : Ex G H) : Ex (upd G p o) (upd H p o) := fun a u h => by
  by_cases ha : a = p
  · subst ha
    rw [upd_same] at h ⊢
    exact h
  · rw [upd_ne ha] at h ⊢
    exact e a u h
theorem Ex.none {H H' : Hp} (e : Ex H H') {p : Addr} (h : H' p = Option.none) : H p = Option.none := by
  cases q : H p with
  | none => rfl
  | some o =>
    rw [e p o q] at h
    cases h

/-! ### data -/
mutual
/-- the value v is the datum d, read in the heap G (of a dict only that it is one) -/
inductive Rp (K : PySem.W.Frag) (G : Hp) : V → PyData → Prop
  | non : Rp K G .non .none
  | bl (b : Bool) : Rp K G (.bl b) (.bool b)
  | int (i : Int) : Rp K G (.int i) (.int i)
  | str (x : Str) : Rp K G (.str x) (.str x)
  | lst {a : Addr} {xs : List V} {ds : List PyData} : G a = some (.lst xs) → RpAll K G xs ds → Rp K G (.ref a) (.list ds)
  | tup {a : Addr} {xs : List V} {ds : List PyData} : G a = some (.tup xs) → RpAll K G xs ds → Rp K G (.ref a) (.tuple ds)
  | dic {a : Addr} {kvs : List (Key × V)} {ds : List (PyData × PyData)} : G a = some (.dK kvs) → kvs.length = ds.length → Rp K G (.ref a) (.dict ds)
inductive RpAll (K : PySem.W.Frag) (G : Hp) : List V → List PyData → Prop
  | nil : RpAll K G [] []
  | cons {v : V} {vs : List V} {d : PyData} {ds : List PyData} : Rp K G v d → RpAll K G vs ds → RpAll K G (v :: vs) (d :: ds)
end
section
variable {K : PySem.W.Frag} {G G' : Hp}
theorem ex_l {a : Addr} {xs : List V} (e : Ex G G') (h : SqL K G a xs) : SqL K G' a xs := by
  rcases h with (h | ⟨o, h⟩) | h
  · exact .inl (.inl (e _ _ h))
  · exact .inl (.inr ⟨o, e _ _ h⟩)
  · exact .inr h
mutual
theorem Rp.mono (e : Ex G G') : ∀ (d : PyData) (v : V), Rp K G v d → Rp K G' v d
  | .none, _, .non => .non
  | .bool _, _, .bl b => .bl b
  | .int _, _, .int i => .int i
  | .str _, _, .str x => .str x
  | .list ds, _, .lst h r => .lst (e _ _ h) (RpAll.mono e ds _ r)
  | .tuple ds, _, .tup h r => .tup (e _ _ h) (RpAll.mono e ds _ r)
  | .dict ds, _, .dic h r => .dic (e _ _ h) r
theorem RpAll.mono (e : Ex G G') : ∀ (ds : List PyData) (vs : List V), RpAll K G vs ds → RpAll K G' vs ds
  | [], _, .nil => .nil
  | d :: ds, _, .cons h r => .cons (Rp.mono e d _ h) (RpAll.mono e ds _ r)
end
theorem Rp.up {v : V} {d : PyData} (h : Rp K G v d) (e : Ex G G') : Rp K G' v d := Rp.mono e d v h
theorem RpAll.up {vs : List V} {ds : List PyData} (h : RpAll K G vs ds) (e : Ex G G') : RpAll K G' vs ds := RpAll.mono e ds vs h
mutual
theorem Rp.dp : ∀ (d : PyData) (v : V), Rp K G v d → d.canLay0 = true → Dp K G v d
  | .none, _, .non, _ => .non
  | .bool _, _, .bl b, _ => .bl b
  | .int _, _, .int i, _ => .int i
  | .str _, _, .str x, _ => .str x
  | .list ds, _, .lst h r, c => .lst (.inl (.inl h)) (RpAll.dp ds _ r (by simpa [PyData.canLay0] using c))
  | .tuple ds, _, .tup h r, c => .tup (.inl (.inl h)) (RpAll.dp ds _ r (by simpa [PyData.canLay0] using c))
  | .dict ds, _, .dic h r, c => by simp [PyData.canLay0] at c
theorem RpAll.dp : ∀ (ds : List PyData) (vs : List V), RpAll K G vs ds → PyData.canLayAll0 ds = true → DpAll K G vs ds
  | [], _, .nil, _ => .nil
  | d :: ds, _, .cons h r, c => by
    have c' : d.canLay0 = true ∧ PyData.canLayAll0 ds = true := by simpa [PyData.canLayAll0] using c
    exact .cons (Rp.dp d _ h c'.1) (RpAll.dp ds _ r c'.2)
end
theorem RpAll.len : ∀ {vs : List V} {ds : List PyData}, RpAll K G vs ds → vs.length = ds.length
  | _, _, .nil => rfl
  | _, _, .cons _ r => by rw [List.length_cons, List.length_cons, RpAll.len r]
theorem RpAll.get : ∀ {vs : List V} {ds : List PyData} {i : Nat} {d : PyData}, RpAll K G vs ds → ds[i]? = some d → ∃ v, vs[i]? = some v ∧ Rp K G v d
  | _, _, _, _, .nil, h => by simp at h
  | _, _, 0, _, .cons h _, e => by
    simp at e
    subst e
    exact ⟨_, rfl, h⟩
  | _, _, i + 1, d, .cons _ r, e => by
    obtain ⟨v, h1, h2⟩ := RpAll.get (i := i) (d := d) r (by simpa using e)
    exact ⟨v, by simpa using h1, h2⟩
theorem RpAll.get' : ∀ {vs : List V} {ds : List PyData} {i : Nat} {v : V}, RpAll K G vs ds → vs[i]? = some v → ∃ d, ds[i]? = some d ∧ Rp K G v d
  | _, _, _, _, .nil, h => by simp at h
  | _, _, 0, _, .cons h _, e => by
    simp at e
    subst e
    exact ⟨_, rfl, h⟩
  | _, _, i + 1, v, .cons _ r, e => by
    obtain ⟨d, h1, h2⟩ := RpAll.get' (i := i) (v := v) r (by simpa using e)
    exact ⟨d, by simpa using h1, h2⟩
theorem RpAll.app : ∀ {vs ws : List V} {ds es : List PyData}, RpAll K G vs ds → RpAll K G ws es → RpAll K G (vs ++ ws) (ds ++ es)
  | _, _, _, _, .nil, s => s
  | _, _, _, _, .cons h r, s => .cons h (RpAll.app r s)
theorem RpAll.one {v : V} {d : PyData} (h : Rp K G v d) : RpAll K G [v] [d] := .cons h .nil
theorem RpAll.set {v : V} {d : PyData} (h : Rp K G v d) : ∀ {vs : List V} {ds : List PyData} (i : Nat), RpAll K G vs ds → RpAll K G (vs.set i v) (ds.set i d)
  | _, _, _, .nil => .nil
  | _, _, 0, .cons _ t => .cons h t
  | _, _, i + 1, .cons q t => .cons q (RpAll.set h i t)
theorem RpAll.take : ∀ {vs : List V} {ds : List PyData} (n : Nat), RpAll K G vs ds → RpAll K G (vs.take n) (ds.take n)
  | _, _, 0, _ => .nil
  | _, _, _ + 1, .nil => .nil
  | _, _, n + 1, .cons r t => .cons r (RpAll.take n t)
theorem RpAll.drop : ∀ {vs : List V} {ds : List PyData} (n : Nat), RpAll K G vs ds → RpAll K G (vs.drop n) (ds.drop n)
  | _, _, 0, r => r
  | _, _, _ + 1, .nil => .nil
  | _, _, n + 1, .cons _ t => RpAll.drop n t
/-- what a datum's value is -/
theorem Rp.int_of {v : V} {i : Int} (h : Rp K G v (.int i)) : v = .int i := by cases h; rfl
theorem Rp.bl_of {v : V} {b : Bool} (h : Rp K G v (.bool b)) : v = .bl b := by cases h; rfl
theorem Rp.str_of {v : V} {x : Str} (h : Rp K G v (.str x)) : v = .str x := by cases h; rfl
theorem Rp.non_of {v : V} (h : Rp K G v .none) : v = .non := by cases h; rfl
theorem Rp.lst_of {v : V} {ds : List PyData} (h : Rp K G v (.list ds)) : ∃ a xs, v = .ref a ∧ G a = some (.lst xs) ∧ RpAll K G xs ds := by
  cases h with
  | lst q r => exact ⟨_, _, rfl, q, r⟩
theorem Rp.tup_of {v : V} {ds : List PyData} (h : Rp K G v (.tuple ds)) : ∃ a xs, v = .ref a ∧ G a = some (.tup xs) ∧ RpAll K G xs ds := by
  cases h with
  | tup q r => exact ⟨_, _, rfl, q, r⟩
end

/-! ### the slots of a frame -/
inductive Sl where
  | no
  | dat (d : PyData)
  | own (t : Option Nat) (ds : List PyData)
  | scr (ds : List PyData)
/-- what a def was called in: the tags' addresses, how many; what stays, the heap; and the lists that are being made -/
structure Cf where
  τ : Nat → Addr
  n : Nat
  G0 : Hp
  H0 : Hp
  hid : List (Addr × HO)
def SlOk (K : PySem.W.Frag) (c : Cf) (G H : Hp) (v : Option (Option V)) : Sl → Prop
  | .no => True
  | .dat d => ∃ x, v = some (some x) ∧ Rp K G x d
  | .scr ds => ∃ a xs, v = some (some (.ref a)) ∧ SqL K G a xs ∧ RpAll K G xs ds
  | .own t ds => ∃ p xs, v = some (some (.ref p)) ∧ G p = none ∧ H p = some (.lst xs) ∧ RpAll K G xs ds ∧
      (match t with
        | some j => j < c.n ∧ p = c.τ j
        | none => c.H0 p = none ∧ ∀ j, j < c.n → p ≠ c.τ j)
structure EnvOk (K : PySem.W.Frag) (c : Cf) (G H : Hp) (σ : L2.St) (δ : List Sl) : Prop where
  g0 : Ex c.G0 G
  ex : Ex G H
  fr : ∀ a o, c.H0 a = some o → (∀ j, j < c.n → a ≠ c.τ j) → H a = some o
  fs : ∀ a, c.G0 a = none → c.H0 a ≠ none → G a = none
  tg : ∀ j, j < c.n → H (c.τ j) ≠ none ∧ G (c.τ j) = none
  len : σ.length = δ.length
  sl : ∀ (i : Nat) (s : Sl), δ[i]? = some s → SlOk K c G H (σ[i]?) s
  ap : ∀ (i j : Nat) (t1 : Option Nat) (d1 : List PyData) (t2 : Option Nat) (d2 : List PyData), i ≠ j → δ[i]? = some (.own t1 d1) → δ[j]? = some (.own t2 d2) → σ[i]? ≠ σ[j]?
  hd : ∀ p o, (p, o) ∈ c.hid → H p = some o ∧ G p = none ∧ c.H0 p = none ∧ (∀ j, j < c.n → p ≠ c.τ j) ∧ ∀ (i : Nat) (t : Option Nat) (ds : List PyData), δ[i]? = some (.own t ds) → σ[i]? ≠ some (some (.ref p))
/-- new things were laid -/
structure Al (G H G' H' : Hp) : Prop where
  g : Ex G G'
  h : Ex H H'
  ex : Ex G' H'
  fs : ∀ a, G a = none → H a ≠ none → G' a = none
theorem Al.refl {G H : Hp} (e : Ex G H) : Al G H G H := ⟨Ex.refl _, Ex.refl _, e, fun _ h _ => h⟩
theorem Al.trans {G H G1 H1 G2 H2 : Hp} (a : Al G H G1 H1) (b : Al G1 H1 G2 H2) : Al G H G2 H2 := ⟨a.g.trans b.g, a.h.trans b.h, b.ex, fun x h1 h2 => by
  refine b.fs x (a.fs x h1 h2) ?_
  cases q : H x with
  | none => exact absurd q h2
  | some o =>
    rw [a.h x o q]
    exact fun z => nomatch z⟩
/-- a new thing that stays -/
theorem Al.new {G H : Hp} {p : Addr} {o : HO} (e : Ex G H) (hp : H p = none) : Al G H (upd G p o) (upd H p o) := ⟨Ex.new (e.none hp), Ex.new hp, e.upd2, fun a h1 h2 => by
  have ha : a ≠ p := fun z => h2 (by rw [z]; exact hp)
  rw [upd_ne ha]
  exact h1⟩
/-- a new thing that is to change -/
theorem Al.tmp {G H : Hp} {p : Addr} {o : HO} (e : Ex G H) (hp : H p = none) : Al G H G (upd H p o) := ⟨Ex.refl _, Ex.new hp, e.trans (Ex.new hp), fun a h1 _ => h1⟩
section
variable {K : PySem.W.Frag} {c : Cf} {G H G' H' : Hp} {σ : L2.St} {δ : List Sl}
theorem SlOk.al (A : Al G H G' H') {v : Option (Option V)} {s : Sl} (h : SlOk K c G H v s) : SlOk K c G' H' v s := by
  cases s with
  | no => trivial
  | dat d =>
    obtain ⟨x, e, r⟩ := h
    exact ⟨x, e, r.up A.g⟩
  | scr ds =>
    obtain ⟨a, xs, e, h, r⟩ := h
    exact ⟨a, xs, e, ex_l A.g h, r.up A.g⟩
  | own t ds =>
    obtain ⟨p, xs, e, g, hh, r, q⟩ := h
    exact ⟨p, xs, e, A.fs p g (by rw [hh]; exact fun z => nomatch z), A.h _ _ hh, r.up A.g, q⟩
theorem EnvOk.al (E : EnvOk K c G H σ δ) (A : Al G H G' H') : EnvOk K c G' H' σ δ where
  g0 := E.g0.trans A.g
  ex := A.ex
  fr := fun a o h q => A.h _ _ (E.fr a o h q)
  fs := fun a h1 h2 => by
    by_cases ht : ∃ j, j < c.n ∧ a = c.τ j
    · obtain ⟨j, hj, rfl⟩ := ht
      exact A.fs _ (E.tg j hj).2 (E.tg j hj).1
    · refine A.fs a (E.fs a h1 h2) ?_
      cases q : c.H0 a with
      | none => exact absurd q h2
      | some o =>
        rw [E.fr a o q fun j hj z => ht ⟨j, hj, z⟩]
        exact fun z => nomatch z
  tg := fun j hj => by
    obtain ⟨h1, h2⟩ := E.tg j hj
    refine ⟨fun z => h1 (A.h.none z), A.fs _ h2 h1⟩
  len := E.len
  sl := fun i s h => (E.sl i s h).al A
  ap := E.ap
  hd := fun p xs h => by
    obtain ⟨h1, h2, h3⟩ := E.hd p xs h
    exact ⟨A.h _ _ h1, A.fs p h2 (by rw [h1]; exact fun z => nomatch z), h3⟩
/-- a slot is given a datum -/
theorem EnvOk.put (E : EnvOk K c G H σ δ) {i : Nat} {v : V} {d : PyData} (r : Rp K G v d) : EnvOk K c G H (σ.set i (some v)) (δ.set i (.dat d)) where
  g0 := E.g0
  ex := E.ex
  fr := E.fr
  fs := E.fs
  tg := E.tg
  len := by rw [List.length_set, List.length_set, E.len]
  sl := fun j s h => by
    rw [List.getElem?_set] at h ⊢
    by_cases hj : i = j
    · rw [if_pos hj] at h ⊢
      by_cases hl : i < δ.length
      · rw [if_pos (by omega)] at h
        rw [if_pos (by rw [E.len]; omega)]
        cases h
        exact ⟨v, rfl, r⟩
      · rw [if_neg (by omega)] at h
        cases h
    · rw [if_neg hj] at h ⊢
      exact E.sl j s h
  ap := fun a b t1 d1 t2 d2 hab h1 h2 => by
    rw [List.getElem?_set] at h1 h2
    by_cases ha : i = a
    · rw [if_pos ha] at h1
      split at h1 <;> cases h1
    · by_cases hb : i = b
      · rw [if_pos hb] at h2
        split at h2 <;> cases h2
      · rw [if_neg ha] at h1
        rw [if_neg hb] at h2
        rw [List.getElem?_set_ne ha, List.getElem?_set_ne hb]
        exact E.ap a b t1 d1 t2 d2 hab h1 h2
  hd := fun p xs h => by
    obtain ⟨h1, h2, h3, h4, h5⟩ := E.hd p xs h
    refine ⟨h1, h2, h3, h4, fun j t ds hj => ?_⟩
    rw [List.getElem?_set] at hj
    by_cases hi : i = j
    · rw [if_pos hi] at hj
      split at hj <;> cases hj
    · rw [if_neg hi] at hj
      rw [List.getElem?_set_ne hi]
      exact h5 j t ds hj
/-- a slot is forgotten -/
theorem EnvOk.drop (E : EnvOk K c G H σ δ) {i : Nat} {v : Option V} : EnvOk K c G H (σ.set i v) (δ.set i .no) where
  g0 := E.g0
  ex := E.ex
  fr := E.fr
  fs := E.fs
  tg := E.tg
  len := by rw [List.length_set, List.length_set, E.len]
  sl := fun j s h => by
    rw [List.getElem?_set] at h ⊢
    by_cases hj : i = j
    · rw [if_pos hj] at h
      split at h
      · cases h
        trivial
      · cases h
    · rw [if_neg hj] at h ⊢
      exact E.sl j s h
  ap := fun a b t1 d1 t2 d2 hab h1 h2 => by
    rw [List.getElem?_set] at h1 h2
    by_cases ha : i = a
    · rw [if_pos ha] at h1
      split at h1 <;> cases h1
    · by_cases hb : i = b
      · rw [if_pos hb] at h2
        split at h2 <;> cases h2
      · rw [if_neg ha] at h1
        rw [if_neg hb] at h2
        rw [List.getElem?_set_ne ha, List.getElem?_set_ne hb]
        exact E.ap a b t1 d1 t2 d2 hab h1 h2
  hd := fun p xs h => by
    obtain ⟨h1, h2, h3, h4, h5⟩ := E.hd p xs h
    refine ⟨h1, h2, h3, h4, fun j t ds hj => ?_⟩
    rw [List.getElem?_set] at hj
    by_cases hi : i = j
    · rw [if_pos hi] at hj
      split at hj <;> cases hj
    · rw [if_neg hi] at hj
      rw [List.getElem?_set_ne hi]
      exact h5 j t ds hj
/-- the list in a slot stays from here on -/
theorem EnvOk.freeze (E : EnvOk K c G H σ δ) {i : Nat} {p : Addr} {ds : List PyData} (hs : δ[i]? = some (.own none ds)) (hp : σ[i]? = some (some (.ref p))) :
    ∃ G', Ex G G' ∧ Rp K G' (.ref p) (.list ds) ∧ EnvOk K c G' H σ (δ.set i (.dat (.list ds))) := by
  obtain ⟨p', xs, e, hg, hh, r, h0, hne⟩ := E.sl i _ hs
  rw [hp] at e
  obtain rfl : p = p' := by
    have e1 := Option.some.inj (Option.some.inj e)
    exact V.ref.inj e1
  have eg : Ex G (upd G p (.lst xs)) := Ex.new hg
  have rp : Rp K (upd G p (.lst xs)) (.ref p) (.list ds) := .lst upd_same (r.up eg)
  refine ⟨upd G p (.lst xs), eg, rp, ?_⟩
  have other : ∀ j s, i ≠ j → δ[j]? = some s → SlOk K c (upd G p (.lst xs)) H (σ[j]?) s := fun j s hj h => by
    have q := E.sl j s h
    cases s with
    | no => trivial
    | dat d =>
      obtain ⟨x, e1, r1⟩ := q
      exact ⟨x, e1, r1.up eg⟩
    | scr es =>
      obtain ⟨a, ys, e1, h1, r1⟩ := q
      exact ⟨a, ys, e1, ex_l eg h1, r1.up eg⟩
    | own t es =>
      obtain ⟨p1, ys, e1, g1, h1, r1, q1⟩ := q
      have ne : p1 ≠ p := fun z => E.ap i j _ _ _ _ hj hs h (by rw [hp, e1, z])
      exact ⟨p1, ys, e1, by rw [upd_ne ne]; exact g1, h1, r1.up eg, q1⟩
  exact {
    g0 := E.g0.trans eg
    ex := fun a o h => by
      by_cases ha : a = p
      · subst ha
        rw [upd_same] at h
        cases h
        exact hh
      · rw [upd_ne ha] at h
        exact E.ex a o h
    fr := E.fr
    fs := fun a h1 h2 => by
      have ha : a ≠ p := fun z => h2 (by rw [z]; exact h0)
      rw [upd_ne ha]
      exact E.fs a h1 h2
    tg := fun j hj => ⟨(E.tg j hj).1, by rw [upd_ne (hne j hj).symm]; exact (E.tg j hj).2⟩
    len := by rw [List.length_set, E.len]
    sl := fun j s h => by
      rw [List.getElem?_set] at h
      by_cases hj : i = j
      · rw [if_pos hj] at h
        split at h
        · cases h
          exact ⟨_, by rw [← hj]; exact hp, rp⟩
        · cases h
      · rw [if_neg hj] at h
        exact other j s hj h
    ap := fun a b t1 d1 t2 d2 hab h1 h2 => by
      rw [List.getElem?_set] at h1 h2
      by_cases ha : i = a
      · rw [if_pos ha] at h1
        split at h1 <;> cases h1
      · by_cases hb : i = b
        · rw [if_pos hb] at h2
          split at h2 <;> cases h2
        · rw [if_neg ha] at h1
          rw [if_neg hb] at h2
          exact E.ap a b t1 d1 t2 d2 hab h1 h2
    hd := fun q ys h => by
      obtain ⟨h1, h2, h3, h4, h5⟩ := E.hd q ys h
      have ne : q ≠ p := fun z => h5 i _ _ hs (by rw [hp, z])
      refine ⟨h1, by rw [upd_ne ne]; exact h2, h3, h4, fun j t es hj => ?_⟩
      rw [List.getElem?_set] at hj
      by_cases hi : i = j
      · rw [if_pos hi] at hj
        split at hj <;> cases hj
      · rw [if_neg hi] at hj
        exact h5 j t es hj }
/-- the list in a slot is changed -/
theorem EnvOk.poke (E : EnvOk K c G H σ δ) {i : Nat} {p : Addr} {t : Option Nat} {ds es : List PyData} {ys : List V} (hs : δ[i]? = some (.own t ds)) (hp : σ[i]? = some (some (.ref p))) (r : RpAll K G ys es) :
    EnvOk K c G (upd H p (.lst ys)) σ (δ.set i (.own t es)) := by
  obtain ⟨p', xs, e, hg, hh, _, q⟩ := E.sl i _ hs
  rw [hp] at e
  obtain rfl : p = p' := by
    have e1 := Option.some.inj (Option.some.inj e)
    exact V.ref.inj e1
  exact {
    g0 := E.g0
    ex := fun a o h => by
      rw [upd_ne (ne_of_none h hg)]
      exact E.ex a o h
    fr := fun a o h k => by
      have ha : a ≠ p := by
        cases t with
        | none =>
          intro z
          rw [z, q.1] at h
          cases h
        | some j => exact fun z => k j q.1 (z.trans q.2)
      rw [upd_ne ha]
      exact E.fr a o h k
    fs := E.fs
    tg := fun j hj => by
      refine ⟨?_, (E.tg j hj).2⟩
      by_cases ha : c.τ j = p
      · rw [ha, upd_same]
        exact fun z => nomatch z
      · rw [upd_ne ha]
        exact (E.tg j hj).1
    len := by rw [List.length_set, E.len]
    sl := fun j s h => by
      rw [List.getElem?_set] at h
      by_cases hj : i = j
      · rw [if_pos hj] at h
        split at h
        · cases h
          subst hj
          exact ⟨p, ys, hp, hg, upd_same, r, q⟩
        · cases h
      · rw [if_neg hj] at h
        have z := E.sl j s h
        cases s with
        | no => trivial
        | dat d => exact z
        | scr es => exact z
        | own t' es' =>
          obtain ⟨p1, zs, e1, g1, h1, r1, q1⟩ := z
          have ne : p1 ≠ p := fun z => E.ap i j _ _ _ _ hj hs h (by rw [hp, e1, z])
          exact ⟨p1, zs, e1, g1, by rw [upd_ne ne]; exact h1, r1, q1⟩
    ap := fun a b t1 d1 t2 d2 hab h1 h2 => by
      have f : ∀ (a : Nat) (t1 : Option Nat) (d1 : List PyData), (δ.set i (Sl.own t es))[a]? = some (Sl.own t1 d1) → ∃ (t3 : Option Nat) (d3 : List PyData), δ[a]? = some (Sl.own t3 d3) := fun a t1 d1 h1 => by
        rw [List.getElem?_set] at h1
        by_cases ha : i = a
        · subst ha
          exact ⟨_, _, hs⟩
        · rw [if_neg ha] at h1
          exact ⟨_, _, h1⟩
      obtain ⟨t3, d3, e3⟩ := f a t1 d1 h1
      obtain ⟨t4, d4, e4⟩ := f b t2 d2 h2
      exact E.ap a b t3 d3 t4 d4 hab e3 e4
    hd := fun w zs h => by
      obtain ⟨h1, h2, h3, h4, h5⟩ := E.hd w zs h
      have ne : w ≠ p := fun z => h5 i _ _ hs (by rw [hp, z])
      refine ⟨by rw [upd_ne ne]; exact h1, h2, h3, h4, fun j t' es' hj => ?_⟩
      rw [List.getElem?_set] at hj
      by_cases hi : i = j
      · subst hi
        exact h5 i _ _ hs
      · rw [if_neg hi] at hj
        exact h5 j t' es' hj }
/-- a new list in a slot -/
theorem EnvOk.fresh (E : EnvOk K c G H σ δ) {i : Nat} {p : Addr} {ds : List PyData} {xs : List V} (hp : H p = none) (h0 : c.H0 p = none) (r : RpAll K G xs ds) :
    EnvOk K c G (upd H p (.lst xs)) (σ.set i (some (.ref p))) (δ.set i (.own none ds)) := by
  have E1 := E.al (Al.tmp (o := .lst xs) E.ex hp)
  have ht : ∀ j, j < c.n → p ≠ c.τ j := fun j hj z => (E.tg j hj).1 (by rw [← z]; exact hp)
  have old : ∀ (j : Nat) (t : Option Nat) (es : List PyData), δ[j]? = some (Sl.own t es) → σ[j]? ≠ some (some (V.ref p)) := fun j t es h z => by
    obtain ⟨p', ys, e, _, hh, _⟩ := E.sl j _ h
    rw [z] at e
    have e1 := V.ref.inj (Option.some.inj (Option.some.inj e))
    rw [← e1, hp] at hh
    cases hh
  exact {
    g0 := E1.g0
    ex := E1.ex
    fr := E1.fr
    fs := E1.fs
    tg := E1.tg
    len := by rw [List.length_set, List.length_set, E.len]
    sl := fun j s h => by
      rw [List.getElem?_set] at h ⊢
      by_cases hj : i = j
      · rw [if_pos hj] at h ⊢
        by_cases hl : i < δ.length
        · rw [if_pos (by omega)] at h
          rw [if_pos (by rw [E.len]; omega)]
          cases h
          exact ⟨p, xs, rfl, E.ex.none hp, upd_same, r, h0, ht⟩
        · rw [if_neg (by omega)] at h
          cases h
      · rw [if_neg hj] at h ⊢
        exact E1.sl j s h
    ap := fun a b t1 d1 t2 d2 hab h1 h2 => by
      rw [List.getElem?_set] at h1 h2
      by_cases ha : i = a
      · rw [if_neg (fun z => hab (ha.symm.trans z))] at h2
        rw [List.getElem?_set, if_pos ha]
        split
        · rw [List.getElem?_set_ne (fun z => hab (ha.symm.trans z))]
          exact fun z => old b _ _ h2 z.symm
        · rw [if_pos ha] at h1
          split at h1
          · rename_i u w
            rw [E.len] at u
            exact absurd w u
          · cases h1
      · rw [if_neg ha] at h1
        by_cases hb : i = b
        · rw [List.getElem?_set_ne ha, List.getElem?_set, if_pos hb]
          split
          · exact old a _ _ h1
          · rw [if_pos hb] at h2
            split at h2
            · rename_i u w
              rw [E.len] at u
              exact absurd w u
            · cases h2
        · rw [if_neg hb] at h2
          rw [List.getElem?_set_ne ha, List.getElem?_set_ne hb]
          exact E.ap a b t1 d1 t2 d2 hab h1 h2
    hd := fun w zs h => by
      obtain ⟨h1, h2, h3, h4, h5⟩ := E1.hd w zs h
      have ne : w ≠ p := fun z => by
        have h1' := (E.hd w zs h).1
        rw [z, hp] at h1'
        cases h1'
      refine ⟨h1, h2, h3, h4, fun j t' es' hj => ?_⟩
      rw [List.getElem?_set] at hj ⊢
      by_cases hi : i = j
      · rw [if_pos hi]
        split
        · exact fun z => ne (V.ref.inj (Option.some.inj (Option.some.inj z))).symm
        · exact fun z => nomatch z
      · rw [if_neg hi] at hj ⊢
        exact h5 j t' es' hj }
/-- a list is being made beside -/
theorem EnvOk.hide (E : EnvOk K c G H σ δ) {p : Addr} {ob : HO} (hp : H p = none) (h0 : c.H0 p = none) : EnvOk K { c with hid := (p, ob) :: c.hid } G (upd H p ob) σ δ := by
  have E1 := E.al (Al.tmp (o := ob) E.ex hp)
  exact {
    g0 := E1.g0
    ex := E1.ex
    fr := E1.fr
    fs := E1.fs
    tg := E1.tg
    len := E1.len
    sl := fun i s h => by
      have z := E1.sl i s h
      cases s with
      | no => trivial
      | dat d => exact z
      | scr es => exact z
      | own t ds => exact z
    ap := E1.ap
    hd := fun q ys h => by
      rcases List.mem_cons.mp h with e | h
      · cases e
        refine ⟨upd_same, E.ex.none hp, h0, fun j hj z => (E.tg j hj).1 (by rw [← z]; exact hp), fun i t ds hs z => ?_⟩
        obtain ⟨p', zs, e, _, hh, _⟩ := E.sl i _ hs
        rw [z] at e
        rw [← V.ref.inj (Option.some.inj (Option.some.inj e)), hp] at hh
        cases hh
      · exact E1.hd q ys h }
/-- .. and grows -/
theorem EnvOk.grow {p : Addr} {ob ob' : HO} (E : EnvOk K { c with hid := (p, ob) :: c.hid } G H σ δ) (hn : ∀ zs, (p, zs) ∉ c.hid) : EnvOk K { c with hid := (p, ob') :: c.hid } G (upd H p ob') σ δ := by
  obtain ⟨a1, a2, a3, a4, a5⟩ := E.hd p ob List.mem_cons_self
  exact {
    g0 := E.g0
    ex := fun a o h => by
      rw [upd_ne (ne_of_none h a2)]
      exact E.ex a o h
    fr := fun a o h k => by
      rw [upd_ne (ne_of_none h a3)]
      exact E.fr a o h k
    fs := E.fs
    tg := fun j hj => by
      refine ⟨?_, (E.tg j hj).2⟩
      rw [upd_ne (a4 j hj).symm]
      exact (E.tg j hj).1
    len := E.len
    sl := fun i s h => by
      have z := E.sl i s h
      cases s with
      | no => trivial
      | dat d => exact z
      | scr es => exact z
      | own t ds =>
        obtain ⟨p1, zs, e1, g1, h1, r1, q1⟩ := z
        have ne : p1 ≠ p := fun z => a5 i t ds h (by rw [e1, z])
        exact ⟨p1, zs, e1, g1, by rw [upd_ne ne]; exact h1, r1, q1⟩
    ap := E.ap
    hd := fun q zs h => by
      rcases List.mem_cons.mp h with e | h
      · cases e
        exact ⟨upd_same, a2, a3, a4, a5⟩
      · obtain ⟨h1, h2, h3⟩ := E.hd q zs (List.mem_cons_of_mem _ h)
        have ne : q ≠ p := fun z => hn zs (by rw [← z]; exact h)
        exact ⟨by rw [upd_ne ne]; exact h1, h2, h3⟩ }
/-- .. and is there -/
theorem EnvOk.show {p : Addr} {xs : List V} {ds : List PyData} (E : EnvOk K { c with hid := (p, .lst xs) :: c.hid } G H σ δ) (hn : ∀ zs, (p, zs) ∉ c.hid) (r : RpAll K G xs ds) :
    ∃ G', Ex G G' ∧ Rp K G' (.ref p) (.list ds) ∧ EnvOk K c G' H σ δ := by
  obtain ⟨a1, a2, a3, a4, a5⟩ := E.hd p (.lst xs) List.mem_cons_self
  have eg : Ex G (upd G p (.lst xs)) := Ex.new a2
  refine ⟨upd G p (.lst xs), eg, .lst upd_same (r.up eg), ?_⟩
  exact {
    g0 := E.g0.trans eg
    ex := fun a o h => by
      by_cases ha : a = p
      · subst ha
        rw [upd_same] at h
        cases h
        exact a1
      · rw [upd_ne ha] at h
        exact E.ex a o h
    fr := E.fr
    fs := fun a h1 h2 => by
      have ha : a ≠ p := fun z => h2 (by rw [z]; exact a3)
      rw [upd_ne ha]
      exact E.fs a h1 h2
    tg := fun j hj => ⟨(E.tg j hj).1, by rw [upd_ne (a4 j hj).symm]; exact (E.tg j hj).2⟩
    len := E.len
    sl := fun i s h => by
      have z := E.sl i s h
      cases s with
      | no => trivial
      | dat d =>
        obtain ⟨x, e1, r1⟩ := z
        exact ⟨x, e1, r1.up eg⟩
      | scr es =>
        obtain ⟨a, ys, e1, h1, r1⟩ := z
        exact ⟨a, ys, e1, ex_l eg h1, r1.up eg⟩
      | own t es =>
        obtain ⟨p1, zs, e1, g1, h1, r1, q1⟩ := z
        have ne : p1 ≠ p := fun z => a5 i t es h (by rw [e1, z])
        exact ⟨p1, zs, e1, by rw [upd_ne ne]; exact g1, h1, r1.up eg, q1⟩
    ap := E.ap
    hd := fun q zs h => by
      obtain ⟨h1, h2, h3⟩ := E.hd q zs (List.mem_cons_of_mem _ h)
      have ne : q ≠ p := fun z => hn zs (by rw [← z]; exact h)
      exact ⟨h1, by rw [upd_ne ne]; exact h2, h3⟩ }
/-- .. and is forgotten -/
theorem EnvOk.unhide {p : Addr} {ob : HO} (E : EnvOk K { c with hid := (p, ob) :: c.hid } G H σ δ) : EnvOk K c G H σ δ where
  g0 := E.g0
  ex := E.ex
  fr := E.fr
  fs := E.fs
  tg := E.tg
  len := E.len
  sl := fun i s h => by
    have z := E.sl i s h
    cases s with
    | no => trivial
    | dat d => exact z
    | scr es => exact z
    | own t ds => exact z
  ap := E.ap
  hd := fun q zs h => E.hd q zs (List.mem_cons_of_mem _ h)
end
end TL

set_option Elab.async false
set_option linter.all false
set_option maxRecDepth 100000
set_option maxHeartbeats 2000000
/-! TL2: expressions by data. -/
namespace TL
open PySem PySem.Spec L2

abbrev DQ := PyData → List Sl → Prop
abbrev DTE := List Sl → DQ → Prop
abbrev DTT := List Sl → (Bool → List Sl → Prop) → Prop
abbrev DTA := List Sl → (List PyData → List Sl → Prop) → Prop
abbrev DTO := List Sl → (Option Int → List Sl → Prop) → Prop
abbrev R2D := PyData → PyData → (PyData → Prop) → Prop
abbrev R1D := PyData → (PyData → Prop) → Prop

def RE (K : PySem.W.Frag) (t : TE) (u : DTE) : Prop := ∀ (c : Cf) (σ : L2.St) (G H : Hp) (δ : List Sl) (Q : VK) (R : DQ), EnvOk K c G H σ δ → u δ R →
  (∀ d δ' v G' H', R d δ' → EnvOk K c G' H' σ δ' → Ex G G' → Rp K G' v d → Q v H') → t σ H Q
def RT (K : PySem.W.Frag) (t : TT) (u : DTT) : Prop := ∀ (c : Cf) (σ : L2.St) (G H : Hp) (δ : List Sl) (Q : Bool → Hp → Prop) (R : Bool → List Sl → Prop), EnvOk K c G H σ δ → u δ R →
  (∀ b δ' G' H', R b δ' → EnvOk K c G' H' σ δ' → Ex G G' → Q b H') → t σ H Q
def RA (K : PySem.W.Frag) (t : TA) (u : DTA) : Prop := ∀ (c : Cf) (σ : L2.St) (G H : Hp) (δ : List Sl) (Q : List V → Hp → Prop) (R : List PyData → List Sl → Prop), EnvOk K c G H σ δ → u δ R →
  (∀ ds δ' vs G' H', R ds δ' → EnvOk K c G' H' σ δ' → Ex G G' → RpAll K G' vs ds → Q vs H') → t σ H Q
def ROp (K : PySem.W.Frag) (t : TO) (u : DTO) : Prop := ∀ (c : Cf) (σ : L2.St) (G H : Hp) (δ : List Sl) (Q : Option Int → Hp → Prop) (R : Option Int → List Sl → Prop), EnvOk K c G H σ δ → u δ R →
  (∀ o δ' G' H', R o δ' → EnvOk K c G' H' σ δ' → Ex G G' → Q o H') → t σ H Q
structure DE (X : Cx) (e : Expr) (t : TE) (u : DTE) : Prop where
  pe : PE X e t
  re : RE X.K t u
structure DT (X : Cx) (e : Expr) (t : TT) (u : DTT) : Prop where
  pt : PT X e t
  rt : RT X.K t u
structure DW (X : Cx) (e : Expr) (t : TT) (u : DTT) : Prop where
  pw : PW X e t
  rt : RT X.K t u
structure DA (X : Cx) (es : List Expr) (t : TA) (u : DTA) : Prop where
  pa : PA X es t
  ra : RA X.K t u
structure DO (X : Cx) (e : Option Expr) (t : TO) (u : DTO) : Prop where
  po : PO X e t
  ro : ROp X.K t u

/-- an operation by values -/
def RO (K : PySem.W.Frag) (r : R2) (rd : R2D) : Prop := ∀ (G H : Hp) (x y : V) (d1 d2 : PyData) (Q : VK) (R : PyData → Prop), Ex G H → Rp K G x d1 → Rp K G y d2 → rd d1 d2 R →
  (∀ d v G' H', R d → Al G H G' H' → Rp K G' v d → Q v H') → r x y H Q
def R1 (K : PySem.W.Frag) (r : V → Hp → VK → Prop) (rd : R1D) : Prop := ∀ (G H : Hp) (x : V) (d : PyData) (Q : VK) (R : PyData → Prop), Ex G H → Rp K G x d → rd d R →
  (∀ d v G' H', R d → Al G H G' H' → Rp K G' v d → Q v H') → r x H Q

/-! ### readings -/
def dVar (i : Nat) : DTE := fun δ R => match δ[i]? with
  | some (.dat d) => R d δ
  | some (.own none ds) => R (.list ds) (δ.set i (.dat (.list ds)))
  | _ => False
def dC (d : PyData) : DTE := fun δ R => R d δ
def dOp (rd : R2D) (ua ub : DTE) : DTE := fun δ R => ua δ fun d1 δ1 => ub δ1 fun d2 δ2 => rd d1 d2 fun d => R d δ2
def dUn (rd : R1D) (ua : DTE) : DTE := fun δ R => ua δ fun d1 δ1 => rd d1 fun d => R d δ1
def dTest (u : DTE) : DTT := fun δ R => u δ fun d δ' => match d with
  | .bool b => R b δ'
  | _ => False
def dAnd (t u : DTT) : DTT := fun δ R => t δ fun b δ1 => if b = true then u δ1 R else R false δ1
def dOr (t u : DTT) : DTT := fun δ R => t δ fun b δ1 => if b = true then R true δ1 else u δ1 R
def dNot (t : DTT) : DTT := fun δ R => t δ fun b δ1 => R (!b) δ1
def dAndV (ua ub : DTE) : DTE := fun δ R => ua δ fun d δ1 => match d with
  | .bool b => if b = true then ub δ1 R else R (.bool false) δ1
  | _ => False
def dOrV (ua ub : DTE) : DTE := fun δ R => ua δ fun d δ1 => match d with
  | .bool b => if b = true then R (.bool true) δ1 else ub δ1 R
  | _ => False
def dNotV (ua : DTE) : DTE := fun δ R => ua δ fun d δ1 => match d with
  | .bool b => R (.bool (!b)) δ1
  | _ => False
def dIf (t : DTT) (ua ub : DTE) : DTE := fun δ R => t δ fun b δ1 => if b = true then ua δ1 R else ub δ1 R
def dNil : DTA := fun δ R => R [] δ
def dCons (u : DTE) (ur : DTA) : DTA := fun δ R => u δ fun d δ1 => ur δ1 fun ds δ2 => R (d :: ds) δ2
def dTup (u : DTA) : DTE := fun δ R => u δ fun ds δ1 => ds.length ≤ sizeLine ∧ R (.tuple ds) δ1
def dLst (u : DTA) : DTE := fun δ R => u δ fun ds δ1 => ds.length ≤ sizeLine ∧ R (.list ds) δ1
def dNoPart : DTO := fun δ R => R none δ
def dPart (u : DTE) : DTO := fun δ R => u δ fun d δ1 => match d with
  | .int i => R (some i) δ1
  | _ => False

section
variable {K : PySem.W.Frag} {ta tb : TE} {ua ub : DTE} {t t' : TT} {u u' : DTT} {r : R2} {rd : R2D}
theorem re_var {i : Nat} : RE K (tVar i) (dVar i) := by
  intro c σ G H δ Q R E h k
  have h : (match δ[i]? with
    | some (.dat d) => R d δ
    | some (.own none ds) => R (.list ds) (δ.set i (.dat (.list ds)))
    | _ => False) := h
  cases hs : δ[i]? with
  | none =>
    rw [hs] at h
    exact h.elim
  | some s =>
    rw [hs] at h
    have z := E.sl i s hs
    cases s with
    | no => exact h.elim
    | scr ds => exact h.elim
    | dat d =>
      obtain ⟨x, e, r⟩ := z
      exact ⟨x, e, k d δ x G H h E (Ex.refl _) r⟩
    | own t ds =>
      cases t with
      | some j => exact h.elim
      | none =>
        obtain ⟨p, xs, e, _⟩ := z
        obtain ⟨G', eg, rp, E'⟩ := E.freeze hs e
        exact ⟨.ref p, e, k _ _ _ G' H h E' eg rp⟩
theorem re_c {v : V} {d : PyData} (h : ∀ G, Rp K G v d) : RE K (tC v) (dC d) := fun c σ G H δ Q R E hu k => k d δ v G H hu E (Ex.refl _) (h G)
theorem re_op (ha : RE K ta ua) (hb : RE K tb ub) (hr : RO K r rd) : RE K (tOp r ta tb) (dOp rd ua ub) := by
  intro c σ G H δ Q R E h k
  refine ha c σ G H δ _ _ E h fun d1 δ1 v1 G1 H1 h1 E1 e1 r1 => ?_
  refine hb c σ G1 H1 δ1 _ _ E1 h1 fun d2 δ2 v2 G2 H2 h2 E2 e2 r2 => ?_
  refine hr G2 H2 v1 v2 d1 d2 _ _ E2.ex (r1.up e2) r2 h2 fun d v G3 H3 h3 A r3 => ?_
  exact k d δ2 v G3 H3 h3 (E2.al A) ((e1.trans e2).trans A.g) r3
theorem re_un {r : V → Hp → VK → Prop} {rd : R1D} (ha : RE K ta ua) (hr : R1 K r rd) : RE K (tUn r ta) (dUn rd ua) := by
  intro c σ G H δ Q R E h k
  refine ha c σ G H δ _ _ E h fun d1 δ1 v1 G1 H1 h1 E1 e1 r1 => ?_
  refine hr G1 H1 v1 d1 _ _ E1.ex r1 h1 fun d v G3 H3 h3 A r3 => ?_
  exact k d δ1 v G3 H3 h3 (E1.al A) (e1.trans A.g) r3
theorem rt_test (ha : RE K ta ua) : RT K (tTest ta) (dTest ua) := by
  intro c σ G H δ Q R E h k
  refine ha c σ G H δ _ _ E h fun d δ1 v G1 H1 h1 E1 e1 r1 => ?_
  cases d with
  | bool b => exact ⟨b, r1.bl_of, k b δ1 G1 H1 h1 E1 e1⟩
  | _ => exact False.elim h1
theorem rt_and (h1 : RT K t u) (h2 : RT K t' u') : RT K (tAnd t t') (dAnd u u') := by
  intro c σ G H δ Q R E h k
  refine h1 c σ G H δ _ _ E h fun b δ1 G1 H1 q E1 e1 => ?_
  cases b with
  | true => exact h2 c σ G1 H1 δ1 Q R E1 q fun b δ2 G2 H2 q2 E2 e2 => k b δ2 G2 H2 q2 E2 (e1.trans e2)
  | false => exact k false δ1 G1 H1 q E1 e1
theorem rt_or (h1 : RT K t u) (h2 : RT K t' u') : RT K (tOr t t') (dOr u u') := by
  intro c σ G H δ Q R E h k
  refine h1 c σ G H δ _ _ E h fun b δ1 G1 H1 q E1 e1 => ?_
  cases b with
  | false => exact h2 c σ G1 H1 δ1 Q R E1 q fun b δ2 G2 H2 q2 E2 e2 => k b δ2 G2 H2 q2 E2 (e1.trans e2)
  | true => exact k true δ1 G1 H1 q E1 e1
theorem rt_not (h1 : RT K t u) : RT K (tNot t) (dNot u) := by
  intro c σ G H δ Q R E h k
  exact h1 c σ G H δ _ _ E h fun b δ1 G1 H1 q E1 e1 => k (!b) δ1 G1 H1 q E1 e1
theorem re_and (ha : RE K ta ua) (hb : RE K tb ub) : RE K (tAndV ta tb) (dAndV ua ub) := by
  intro c σ G H δ Q R E h k
  refine ha c σ G H δ _ _ E h fun d δ1 v G1 H1 h1 E1 e1 r1 => ?_
  cases d with
  | bool b =>
    refine ⟨b, r1.bl_of, ?_⟩
    cases b with
    | true => exact hb c σ G1 H1 δ1 Q R E1 h1 fun d δ2 v G2 H2 q2 E2 e2 r2 => k d δ2 v G2 H2 q2 E2 (e1.trans e2) r2
    | false => exact k _ δ1 _ G1 H1 h1 E1 e1 (.bl false)
  | _ => exact False.elim h1
theorem re_or (ha : RE K ta ua) (hb : RE K tb ub) : RE K (tOrV ta tb) (dOrV ua ub) := by
  intro c σ G H δ Q R E h k
  refine ha c σ G H δ _ _ E h fun d δ1 v G1 H1 h1 E1 e1 r1 => ?_
  cases d with
  | bool b =>
    refine ⟨b, r1.bl_of, ?_⟩
    cases b with
    | false => exact hb c σ G1 H1 δ1 Q R E1 h1 fun d δ2 v G2 H2 q2 E2 e2 r2 => k d δ2 v G2 H2 q2 E2 (e1.trans e2) r2
    | true => exact k _ δ1 _ G1 H1 h1 E1 e1 (.bl true)
  | _ => exact False.elim h1
theorem re_not (ha : RE K ta ua) : RE K (tNotV ta) (dNotV ua) := by
  intro c σ G H δ Q R E h k
  refine ha c σ G H δ _ _ E h fun d δ1 v G1 H1 h1 E1 e1 r1 => ?_
  cases d with
  | bool b => exact ⟨b, r1.bl_of, k _ δ1 _ G1 H1 h1 E1 e1 (.bl _)⟩
  | _ => exact False.elim h1
theorem re_if (hc : RT K t u) (ha : RE K ta ua) (hb : RE K tb ub) : RE K (tIf t ta tb) (dIf u ua ub) := by
  intro c σ G H δ Q R E h k
  refine hc c σ G H δ _ _ E h fun b δ1 G1 H1 q E1 e1 => ?_
  cases b with
  | true => exact ha c σ G1 H1 δ1 Q R E1 q fun d δ2 v G2 H2 q2 E2 e2 r2 => k d δ2 v G2 H2 q2 E2 (e1.trans e2) r2
  | false => exact hb c σ G1 H1 δ1 Q R E1 q fun d δ2 v G2 H2 q2 E2 e2 r2 => k d δ2 v G2 H2 q2 E2 (e1.trans e2) r2
theorem ra_nil : RA K tNil dNil := fun c σ G H δ Q R E h k => k [] δ [] G H h E (Ex.refl _) .nil
theorem ra_cons {tr : TA} {ur : DTA} (ha : RE K ta ua) (hr : RA K tr ur) : RA K (tCons ta tr) (dCons ua ur) := by
  intro c σ G H δ Q R E h k
  refine ha c σ G H δ _ _ E h fun d δ1 v G1 H1 h1 E1 e1 r1 => ?_
  exact hr c σ G1 H1 δ1 _ _ E1 h1 fun ds δ2 vs G2 H2 h2 E2 e2 r2 => k _ δ2 _ G2 H2 h2 E2 (e1.trans e2) (.cons (r1.up e2) r2)
theorem re_tup {tr : TA} {ur : DTA} (hr : RA K tr ur) : RE K (tTup tr) (dTup ur) := by
  intro c σ G H δ Q R E h k
  refine hr c σ G H δ _ _ E h fun ds δ1 vs G1 H1 h1 E1 e1 r1 => ?_
  refine ⟨by rw [r1.len]; exact h1.1, fun p hp => ?_⟩
  have A := Al.new (o := .tup vs) E1.ex hp
  exact k _ δ1 _ _ _ h1.2 (E1.al A) (e1.trans A.g) (.tup upd_same (r1.up A.g))
theorem re_lst {tr : TA} {ur : DTA} (hr : RA K tr ur) : RE K (tLst tr) (dLst ur) := by
  intro c σ G H δ Q R E h k
  refine hr c σ G H δ _ _ E h fun ds δ1 vs G1 H1 h1 E1 e1 r1 => ?_
  refine ⟨by rw [r1.len]; exact h1.1, fun p hp => ?_⟩
  have A := Al.new (o := .lst vs) E1.ex hp
  exact k _ δ1 _ _ _ h1.2 (E1.al A) (e1.trans A.g) (.lst upd_same (r1.up A.g))
theorem ro_none : ROp K tNoPart dNoPart := fun c σ G H δ Q R E h k => k none δ G H h E (Ex.refl _)
theorem ro_part (ha : RE K ta ua) : ROp K (tPart ta) (dPart ua) := by
  intro c σ G H δ Q R E h k
  refine ha c σ G H δ _ _ E h fun d δ1 v G1 H1 h1 E1 e1 r1 => ?_
  cases d with
  | int i => exact ⟨i, r1.int_of, k (some i) δ1 G1 H1 h1 E1 e1⟩
  | _ => exact False.elim h1

/-! ### operations by data -/
def dI (g : Int → Int → Int) : R2D := fun a b R => match a, b with
  | .int i, .int j => R (.int (g i j))
  | _, _ => False
def dIC (C : Int → Int → Prop) (g : Int → Int → Int) : R2D := fun a b R => match a, b with
  | .int i, .int j => C i j ∧ R (.int (g i j))
  | _, _ => False
def dB (g : Int → Int → Bool) : R2D := fun a b R => match a, b with
  | .int i, .int j => R (.bool (g i j))
  | _, _ => False
def dS (g : Str → Str → Bool) : R2D := fun a b R => match a, b with
  | .str i, .str j => R (.bool (g i j))
  | _, _ => False
def dCat : R2D := fun a b R => match a, b with
  | .list x, .list y => x.length + y.length ≤ sizeLine ∧ R (.list (x ++ y))
  | _, _ => False
def dAddS : R2D := fun a b R => match a, b with
  | .str x, .str y => x.length + y.length ≤ sizeLine ∧ R (.str (x ++ y))
  | _, _ => False
def dMulS : R2D := fun a b R => match a, b with
  | .str x, .int i => (-(2 ^ 63 : Int) ≤ i ∧ i ≤ 20000 ∧ x.length ≤ 800) ∧ R (.str (Txt.mul x i))
  | _, _ => False
def dEq : R2D := fun a b R => SeqAt.shaped a = true ∧ SeqAt.shaped b = true ∧ R (.bool (PyData.eqv a b))
def dNe : R2D := fun a b R => SeqAt.shaped a = true ∧ SeqAt.shaped b = true ∧ R (.bool (!PyData.eqv a b))
def dIn : R2D := fun a b R => match b with
  | .list ds => SeqAt.shaped a = true ∧ SeqAt.shaped (.list ds) = true ∧ R (.bool (ds.any fun z => PyData.eqv z a))
  | _ => False
def dNotIn : R2D := fun a b R => match b with
  | .list ds => SeqAt.shaped a = true ∧ SeqAt.shaped (.list ds) = true ∧ R (.bool (!ds.any fun z => PyData.eqv z a))
  | _ => False
def dIxL : R2D := fun a b R => match a, b with
  | .list ds, .int i => (match atI ds i with
    | some d => R d
    | none => False)
  | _, _ => False
def dIxT : R2D := fun a b R => match a, b with
  | .tuple ds, .int i => (match atI ds i with
    | some d => R d
    | none => False)
  | _, _ => False
def dIxS : R2D := fun a b R => match a, b with
  | .str z, .int i => z.length ≤ sizeLine ∧ (match atI z.cps.toList i with
    | some c => R (.str ⟨#[c]⟩)
    | none => False)
  | _, _ => False
theorem ro_I {g : Int → Int → Int} : RO K (rI0 fun i j => .int (g i j)) (dI g) := by
  intro G H x y d1 d2 Q R e r1 r2 h k
  cases d1 <;> cases d2 <;> first
    | exact False.elim h
    | exact ⟨_, _, r1.int_of, r2.int_of, k _ _ G H h (Al.refl e) (.int _)⟩
theorem ro_IC {C : Int → Int → Prop} {g : Int → Int → Int} : RO K (rI C fun i j => .int (g i j)) (dIC C g) := by
  intro G H x y d1 d2 Q R e r1 r2 h k
  cases d1 <;> cases d2 <;> first
    | exact False.elim h
    | exact ⟨_, _, r1.int_of, r2.int_of, h.1, k _ _ G H h.2 (Al.refl e) (.int _)⟩
theorem ro_B {g : Int → Int → Bool} : RO K (rI0 fun i j => .bl (g i j)) (dB g) := by
  intro G H x y d1 d2 Q R e r1 r2 h k
  cases d1 <;> cases d2 <;> first
    | exact False.elim h
    | exact ⟨_, _, r1.int_of, r2.int_of, k _ _ G H h (Al.refl e) (.bl _)⟩
theorem ro_S {g : Str → Str → Bool} : RO K (fun x y H Q => ∃ i j, x = .str i ∧ y = .str j ∧ Q (.bl (g i j)) H) (dS g) := by
  intro G H x y d1 d2 Q R e r1 r2 h k
  cases d1 <;> cases d2 <;> first
    | exact False.elim h
    | exact ⟨_, _, r1.str_of, r2.str_of, k _ _ G H h (Al.refl e) (.bl _)⟩
theorem ro_cat : RO K rCat dCat := by
  intro G H x y d1 d2 Q R e r1 r2 h k
  cases d1 <;> cases d2 <;> first
    | exact False.elim h
    | skip
  obtain ⟨a, xs, rfl, h1, q1⟩ := r1.lst_of
  obtain ⟨b, ys, rfl, h2, q2⟩ := r2.lst_of
  refine ⟨a, b, xs, ys, rfl, rfl, e _ _ h1, e _ _ h2, by rw [q1.len, q2.len]; exact h.1, fun p hp => ?_⟩
  have A := Al.new (o := .lst (xs ++ ys)) e hp
  exact k _ _ _ _ h.2 A (.lst upd_same ((q1.app q2).up A.g))
theorem ro_addS : RO K (fun x y H Q => ∃ i j, x = .str i ∧ y = .str j ∧ i.length + j.length ≤ sizeLine ∧ Q (.str (i ++ j)) H) dAddS := by
  intro G H x y d1 d2 Q R e r1 r2 h k
  cases d1 <;> cases d2 <;> first
    | exact False.elim h
    | exact ⟨_, _, r1.str_of, r2.str_of, h.1, k _ _ G H h.2 (Al.refl e) (.str _)⟩
def rMulS : R2 := fun x y H Q => ∃ z i, x = .str z ∧ y = .int i ∧ (-(2 ^ 63 : Int) ≤ i ∧ i ≤ 20000 ∧ z.length ≤ 800) ∧ Q (.str (Txt.mul z i)) H
theorem ro_mulS : RO K rMulS dMulS := by
  intro G H x y d1 d2 Q R e r1 r2 h k
  cases d1 <;> cases d2 <;> first
    | exact False.elim h
    | exact ⟨_, _, r1.str_of, r2.int_of, h.1, k _ _ G H h.2 (Al.refl e) (.str _)⟩
theorem ro_eq : RO K (rEqD K) dEq := by
  intro G H x y d1 d2 Q R e r1 r2 h k
  exact ⟨d1, d2, (r1.up e).dp _ _ (SeqAt.canLay_of_shaped h.1), (r2.up e).dp _ _ (SeqAt.canLay_of_shaped h.2.1), h.1, h.2.1, k _ _ G H h.2.2 (Al.refl e) (.bl _)⟩
theorem ro_ne : RO K (rNeD K) dNe := by
  intro G H x y d1 d2 Q R e r1 r2 h k
  exact ⟨d1, d2, (r1.up e).dp _ _ (SeqAt.canLay_of_shaped h.1), (r2.up e).dp _ _ (SeqAt.canLay_of_shaped h.2.1), h.1, h.2.1, k _ _ G H h.2.2 (Al.refl e) (.bl _)⟩
theorem ro_in : RO K (rInD K) dIn := by
  intro G H x y d1 d2 Q R e r1 r2 h k
  cases d2 <;> first
    | exact False.elim h
    | exact ⟨d1, _, (r1.up e).dp _ _ (SeqAt.canLay_of_shaped h.1), (r2.up e).dp _ _ (SeqAt.canLay_of_shaped h.2.1), h.1, h.2.1, k _ _ G H h.2.2 (Al.refl e) (.bl _)⟩
theorem ro_notIn : RO K (rNotInD K) dNotIn := by
  intro G H x y d1 d2 Q R e r1 r2 h k
  cases d2 <;> first
    | exact False.elim h
    | exact ⟨d1, _, (r1.up e).dp _ _ (SeqAt.canLay_of_shaped h.1), (r2.up e).dp _ _ (SeqAt.canLay_of_shaped h.2.1), h.1, h.2.1, k _ _ G H h.2.2 (Al.refl e) (.bl _)⟩
theorem at_rp {G : Hp} {xs : List V} {ds : List PyData} (r : RpAll K G xs ds) {i : Int} {d : PyData} (h : atI ds i = some d) : ∃ v, atI xs i = some v ∧ Rp K G v d := by
  unfold atI at h ⊢
  rw [r.len]
  cases q : ixN ds.length i with
  | none =>
    rw [q] at h
    cases h
  | some j =>
    rw [q] at h
    exact r.get h
theorem ro_ixL : RO K (rIxL K) dIxL := by
  intro G H x y d1 d2 Q R e r1 r2 h k
  cases d1 <;> cases d2 <;> first
    | exact False.elim h
    | skip
  rename_i ds i
  obtain ⟨a, xs, rfl, h1, q1⟩ := r1.lst_of
  have h : (match atI ds i with
    | some d => R d
    | none => False) := h
  cases q : atI ds i with
  | none =>
    rw [q] at h
    exact h.elim
  | some d =>
    rw [q] at h
    obtain ⟨v, hv, rv⟩ := at_rp q1 q
    exact ⟨a, xs, i, v, rfl, r2.int_of, .inl (.inl (e _ _ h1)), hv, k d v G H h (Al.refl e) rv⟩
theorem ro_ixT : RO K (rIxT K) dIxT := by
  intro G H x y d1 d2 Q R e r1 r2 h k
  cases d1 <;> cases d2 <;> first
    | exact False.elim h
    | skip
  rename_i ds i
  obtain ⟨a, xs, rfl, h1, q1⟩ := r1.tup_of
  have h : (match atI ds i with
    | some d => R d
    | none => False) := h
  cases q : atI ds i with
  | none =>
    rw [q] at h
    exact h.elim
  | some d =>
    rw [q] at h
    obtain ⟨v, hv, rv⟩ := at_rp q1 q
    exact ⟨a, xs, i, v, rfl, r2.int_of, .inl (.inl (e _ _ h1)), hv, k d v G H h (Al.refl e) rv⟩
theorem ro_ixS : RO K rIxS dIxS := by
  intro G H x y d1 d2 Q R e r1 r2 h k
  cases d1 <;> cases d2 <;> first
    | exact False.elim h
    | skip
  rename_i z i
  obtain ⟨hz, h⟩ := h
  have h : (match atI z.cps.toList i with
    | some c => R (.str ⟨#[c]⟩)
    | none => False) := h
  cases q : atI z.cps.toList i with
  | none =>
    rw [q] at h
    exact h.elim
  | some c =>
    rw [q] at h
    exact ⟨z, i, c, r1.str_of, r2.int_of, hz, q, k _ _ G H h (Al.refl e) (.str _)⟩

/-! ### slices -/
abbrev R3D := PyData → Option Int → Option Int → (PyData → Prop) → Prop
def RSl (K : PySem.W.Frag) (r : V → Option Int → Option Int → Hp → VK → Prop) (rd : R3D) : Prop := ∀ (G H : Hp) (x : V) (d : PyData) (lo hi : Option Int) (Q : VK) (R : PyData → Prop), Ex G H → Rp K G x d → rd d lo hi R →
  (∀ d v G' H', R d → Al G H G' H' → Rp K G' v d → Q v H') → r x lo hi H Q
def dSl (rd : R3D) (u : DTE) (ul uh : DTO) : DTE := fun δ R => u δ fun d δ1 => ul δ1 fun lo δ2 => uh δ2 fun hi δ3 => rd d lo hi fun d' => R d' δ3
theorem re_sl {r : V → Option Int → Option Int → Hp → VK → Prop} {rd : R3D} {tl th : TO} {ul uh : DTO} (ha : RE K ta ua) (hl : ROp K tl ul) (hh : ROp K th uh) (hr : RSl K r rd) : RE K (tSl r ta tl th) (dSl rd ua ul uh) := by
  intro c σ G H δ Q R E h k
  refine ha c σ G H δ _ _ E h fun d1 δ1 v1 G1 H1 h1 E1 e1 r1 => ?_
  refine hl c σ G1 H1 δ1 _ _ E1 h1 fun lo δ2 G2 H2 h2 E2 e2 => ?_
  refine hh c σ G2 H2 δ2 _ _ E2 h2 fun hi δ3 G3 H3 h3 E3 e3 => ?_
  refine hr G3 H3 v1 d1 lo hi _ _ E3.ex ((r1.up e2).up e3) h3 fun d v G4 H4 h4 A r4 => ?_
  exact k d δ3 v G4 H4 h4 (E3.al A) (((e1.trans e2).trans e3).trans A.g) r4
def cutP (ds : List PyData) (lo hi : Option Int) : List PyData := (ds.drop (HT.sIx ds.length 0 lo)).take (HT.sIx ds.length ds.length hi - HT.sIx ds.length 0 lo)
theorem cut_rp {G : Hp} {xs : List V} {ds : List PyData} (r : RpAll K G xs ds) (lo hi : Option Int) : RpAll K G (cutV xs lo hi) (cutP ds lo hi) := by
  unfold cutV cutP
  rw [r.len]
  exact (r.drop _).take _
def dSlL : R3D := fun d lo hi R => match d with
  | .list ds => R (.list (cutP ds lo hi))
  | _ => False
def dSlS : R3D := fun d lo hi R => match d with
  | .str z => z.length ≤ sizeLine ∧ R (.str (cutS z lo hi))
  | _ => False
def dSlT : R3D := fun d lo hi R => match d with
  | .tuple ds => ¬ (HT.sIx ds.length 0 lo = 0 ∧ HT.sIx ds.length ds.length hi = ds.length) ∧ R (.tuple (cutP ds lo hi))
  | _ => False
theorem rsl_list : RSl K (rSlL K) dSlL := by
  intro G H x d lo hi Q R e r h k
  cases d <;> first
    | exact False.elim h
    | skip
  obtain ⟨a, xs, rfl, h1, q1⟩ := r.lst_of
  refine ⟨a, xs, rfl, .inl (.inl (e _ _ h1)), fun p hp => ?_⟩
  have A := Al.new (o := .lst (cutV xs lo hi)) e hp
  exact k _ _ _ _ h A (.lst upd_same ((cut_rp q1 lo hi).up A.g))
theorem rsl_tup : RSl K (rSlT K) dSlT := by
  intro G H x d lo hi Q R e r h k
  cases d <;> first
    | exact False.elim h
    | skip
  obtain ⟨a, xs, rfl, h1, q1⟩ := r.tup_of
  refine ⟨a, xs, rfl, .inl (.inl (e _ _ h1)), by rw [q1.len]; exact h.1, fun p hp => ?_⟩
  have A := Al.new (o := .tup (cutV xs lo hi)) e hp
  exact k _ _ _ _ h.2 A (.tup upd_same ((cut_rp q1 lo hi).up A.g))
theorem rsl_str : RSl K rSlS dSlS := by
  intro G H x d lo hi Q R e r h k
  cases d <;> first
    | exact False.elim h
    | exact ⟨_, r.str_of, h.1, k _ _ G H h.2 (Al.refl e) (.str _)⟩
/-- a slice of what was handed in -/
def dSlScr (i : Nat) (ul uh : DTO) : DTE := fun δ R => match δ[i]? with
  | some (.scr ds) => ul δ fun lo δ2 => uh δ2 fun hi δ3 => R (.list (cutP ds lo hi)) δ3
  | _ => False
theorem re_slScr {i : Nat} {tl th : TO} {ul uh : DTO} (hl : ROp K tl ul) (hh : ROp K th uh) : RE K (tSl (rSlL K) (tVar i) tl th) (dSlScr i ul uh) := by
  intro c σ G H δ Q R E h k
  have h : (match δ[i]? with
    | some (.scr ds) => ul δ fun lo δ2 => uh δ2 fun hi δ3 => R (.list (cutP ds lo hi)) δ3
    | _ => False) := h
  cases hs : δ[i]? with
  | none =>
    rw [hs] at h
    exact h.elim
  | some s =>
    rw [hs] at h
    have z := E.sl i s hs
    cases s with
    | no => exact h.elim
    | dat d => exact h.elim
    | own t ds => exact h.elim
    | scr ds =>
      obtain ⟨a, xs, e, sq, r⟩ := z
      refine ⟨.ref a, e, ?_⟩
      refine hl c σ G H δ _ _ E h fun lo δ2 G2 H2 h2 E2 e2 => ?_
      refine hh c σ G2 H2 δ2 _ _ E2 h2 fun hi δ3 G3 H3 h3 E3 e3 => ?_
      refine ⟨a, xs, rfl, ex_l E3.ex (ex_l e3 (ex_l e2 sq)), fun p hp => ?_⟩
      have A := Al.new (o := .lst (cutV xs lo hi)) E3.ex hp
      exact k _ _ _ _ _ h3 (E3.al A) ((e2.trans e3).trans A.g) (.lst upd_same ((cut_rp r lo hi).up ((e2.trans e3).trans A.g)))
end

section
variable {X : Cx} {a b c e : Expr} {es : List Expr} {ta tb tc te : TE} {ua ub uc ue : DTE} {pos p p2 : Pos} {t t' : TT} {u u' : DTT} {tr : TA} {ur : DTA}
theorem de_var (i : Nat) {x : Str} (hN : X.N[i]? = some x := by rfl) (hv : Vis X.env.scope x := by first | exact Or.inl rfl | exact Or.inr (Or.inl rfl) | exact Or.inr (Or.inr rfl)) (hd : (x == ("__debug__" : Str)) = false := by decide)
    (hcd : (x == ("__classdict__" : Str)) = false := by decide) : DE X (.Name x pos) (tVar i) (dVar i) := ⟨pe_var hN hv hd hcd, re_var⟩
theorem de_int {i j} : DE X (.Constant (.int i) j pos) (tC (.int i)) (dC (.int i)) := ⟨pe_int, re_c fun _ => .int i⟩
theorem de_bl {k j} : DE X (.Constant (.bool k) j pos) (tC (.bl k)) (dC (.bool k)) := ⟨pe_bl, re_c fun _ => .bl k⟩
theorem de_non {j} : DE X (.Constant .none j pos) (tC .non) (dC .none) := ⟨pe_non, re_c fun _ => .non⟩
theorem de_str {x j} : DE X (.Constant (.str x) j pos) (tC (.str x)) (dC (.str x)) := ⟨pe_str, re_c fun _ => .str x⟩
/-- a constant of the module -/
theorem de_gint {x : Str} {i : Int} (hg : Gl X x) (h : ∃ tk, X.mg x = some (.int i tk)) (hd : (x == ("__debug__" : Str)) = false := by decide) : DE X (.Name x pos) (tC (.int i)) (dC (.int i)) := by
  obtain ⟨tk, h⟩ := h
  exact ⟨pe_glob hg h ⟨_, rfl⟩ hd, re_c fun _ => .int i⟩
theorem de_op {op : Operator} {r : R2} {rd : R2D} (ho : OpR X (binaryOp op) r) (hr : RO X.K r rd) (ha : DE X a ta ua) (hb : DE X b tb ub) : DE X (.BinOp a op b pos) (tOp r ta tb) (dOp rd ua ub) := ⟨pe_op ho ha.pe hb.pe, re_op ha.re hb.re hr⟩
theorem de_cmp {op : CmpOp} {r : R2} {rd : R2D} (ho : OpR X (compareOp op) r) (hr : RO X.K r rd) (hm : behindInMarks op b = false) (ha : DE X a ta ua) (hb : DE X b tb ub) : DE X (.Compare a [op] [b] pos) (tOp r ta tb) (dOp rd ua ub) := ⟨pe_cmpR ho ha.pe hb.pe hm, re_op ha.re hb.re hr⟩
theorem dt_cmp {op : CmpOp} {r : R2} {rd : R2D} (ho : OpR X (compareOp op) r) (hr : RO X.K r rd) (hm : behindInMarks op b = false) (ha : DE X a ta ua) (hb : DE X b tb ub) : DT X (.Compare a [op] [b] pos) (tTest (tOp r ta tb)) (dTest (dOp rd ua ub)) := ⟨pt_cmpR ho ha.pe hb.pe hm, rt_test (re_op ha.re hb.re hr)⟩
theorem dt_val (h : DE X e te ue) (he : ∀ whole, isTrue e X.env whole = (do let v ← whole; standAt e.pos; holding [v] (truthy v)) := by intro _; rfl) : DT X e (tTest te) (dTest ue) := ⟨pt_val h.pe he, rt_test h.re⟩
theorem dt_not (h : DT X a t u) : DT X (.UnaryOp .Not a pos) (tNot t) (dNot u) := ⟨pt_not h.pt, rt_not h.rt⟩
theorem dw_and1 (h : DT X a t u) : DW X (.BoolOp .And [a] pos) t u := ⟨pw_and1 h.pt, h.rt⟩
theorem dw_or1 (h : DT X a t u) : DW X (.BoolOp .Or [a] pos) t u := ⟨pw_or1 h.pt, h.rt⟩
theorem dw_and {rest : List Expr} (ha : DT X a t u) (hb : DW X (.BoolOp .And (b :: rest) pos) t' u') : DW X (.BoolOp .And (a :: b :: rest) pos) (tAnd t t') (dAnd u u') := ⟨pw_and ha.pt hb.pw, rt_and ha.rt hb.rt⟩
theorem dw_or {rest : List Expr} (ha : DT X a t u) (hb : DW X (.BoolOp .Or (b :: rest) pos) t' u') : DW X (.BoolOp .Or (a :: b :: rest) pos) (tOr t t') (dOr u u') := ⟨pw_or ha.pt hb.pw, rt_or ha.rt hb.rt⟩
theorem dt_w (h : DW X e t u) : DT X e t u := ⟨h.pw.pt, h.rt⟩
theorem de_one {op} (h : DE X a ta ua) : DE X (.BoolOp op [a] pos) ta ua := ⟨pe_one h.pe, h.re⟩
theorem de_and {rest : List Expr} (ha : DE X a ta ua) (hb : DE X (.BoolOp .And (b :: rest) pos) tb ub) : DE X (.BoolOp .And (a :: b :: rest) pos) (tAndV ta tb) (dAndV ua ub) := ⟨pe_and ha.pe hb.pe, re_and ha.re hb.re⟩
theorem de_or {rest : List Expr} (ha : DE X a ta ua) (hb : DE X (.BoolOp .Or (b :: rest) pos) tb ub) : DE X (.BoolOp .Or (a :: b :: rest) pos) (tOrV ta tb) (dOrV ua ub) := ⟨pe_or ha.pe hb.pe, re_or ha.re hb.re⟩
theorem de_not (ha : DE X a ta ua) : DE X (.UnaryOp .Not a pos) (tNotV ta) (dNotV ua) := ⟨pe_not ha.pe, re_not ha.re⟩
theorem de_if (hc : DT X c t u) (ha : DE X a ta ua) (hb : DE X b tb ub) : DE X (.IfExp c a b pos) (tIf t ta tb) (dIf u ua ub) := ⟨pe_ifExp hc.pt ha.pe hb.pe, re_if hc.rt ha.re hb.re⟩
theorem da_nil : DA X [] tNil dNil := ⟨pa_nil, ra_nil⟩
theorem da_cons (ha : DE X e te ue) (hr : DA X es tr ur) (hs : starEach (e :: es) X.env = (false, eval e X.env) :: starEach es X.env := by rfl) : DA X (e :: es) (tCons te tr) (dCons ue ur) := ⟨pa_cons ha.pe hr.pa hs, ra_cons ha.re hr.ra⟩
theorem de_tup {x1} (h : DA X es tr ur) : DE X (.Tuple es x1 pos) (tTup tr) (dTup ur) := ⟨pe_tup h.pa, re_tup h.ra⟩
theorem de_lst (h : DA X es tr ur) : DE X (.List es pos) (tLst tr) (dLst ur) := ⟨pe_lst h.pa, re_lst h.ra⟩
theorem do_none : DO X none tNoPart dNoPart := ⟨po_none, ro_none⟩
theorem do_some (h : DE X e te ue) : DO X (some e) (tPart te) (dPart ue) := ⟨po_some h.pe, ro_part h.re⟩
theorem de_ix {r : R2} {rd : R2D} (hi : IxR X r) (hr : RO X.K r rd) (ha : DE X a ta ua) (hb : DE X b tb ub) (hs : PlainIx b := by exact fun _ _ => rfl) : DE X (.Subscript a b pos) (tOp r ta tb) (dOp rd ua ub) := ⟨pe_ix hi ha.pe hb.pe hs, re_op ha.re hb.re hr⟩
theorem de_sl {r : V → Option Int → Option Int → Hp → VK → Prop} {rd : R3D} {lo hi : Option Expr} {tl th : TO} {ul uh : DTO} (hs : SlR X r) (hr : RSl X.K r rd) (he : DE X e te ue) (hl : DO X lo tl ul) (hh : DO X hi th uh) :
    DE X (.Subscript e (.Slice lo hi none p2) pos) (tSl r te tl th) (dSl rd ue ul uh) := ⟨pe_slice hs he.pe hl.po hh.po, re_sl he.re hl.ro hh.ro hr⟩
theorem de_slScr (i : Nat) {x : Str} {lo hi : Option Expr} {tl th : TO} {ul uh : DTO} (hl : DO X lo tl ul) (hh : DO X hi th uh) (hN : X.N[i]? = some x := by rfl) (hv : Vis X.env.scope x := by first | exact Or.inl rfl | exact Or.inr (Or.inl rfl) | exact Or.inr (Or.inr rfl)) (hd : (x == ("__debug__" : Str)) = false := by decide)
    (hcd : (x == ("__classdict__" : Str)) = false := by decide) :
    DE X (.Subscript (.Name x p) (.Slice lo hi none p2) pos) (tSl (rSlL X.K) (tVar i) tl th) (dSlScr i ul uh) := ⟨pe_slice sl_list (pe_var hN hv hd hcd) hl.po hh.po, re_slScr hl.ro hh.ro⟩
theorem op_mulS : OpR X (binaryOp .Mult) rMulS := by
  intro pins s σ H x y v u Q I rx ry h
  obtain ⟨z, i, rfl, rfl, ⟨h1, h2, h3⟩, q⟩ := h
  obtain ⟨t, rfl⟩ := rx
  obtain ⟨t', rfl⟩ := ry
  exact SB.mul (PyProof.Rows.mulOk_of 800 20000 h3 h2 h1 (by decide) (by decide)) fun t' k => ⟨.str _, H, I.tok k, ⟨t', rfl⟩, q⟩
/-- 'a' <= x <= 'z' and its like -/
def dChain (r r' : R2D) (ua ub uc : DTE) : DTE := fun δ R => ua δ fun d1 δ1 => ub δ1 fun d2 δ2 => r d1 d2 fun d => match d with
  | .bool k => if k = true then uc δ2 fun d3 δ3 => r' d2 d3 fun d' => R d' δ3 else R (.bool false) δ2
  | _ => False
end
end TL

set_option Elab.async false
set_option linter.all false
set_option maxRecDepth 100000
set_option maxHeartbeats 2000000
/-! TL3: statements, loops, comprehensions by data. -/
namespace TL
open PySem PySem.Spec L2

theorem EnvOk.new0 {K : PySem.W.Frag} {c : Cf} {G H : Hp} {σ : L2.St} {δ : List Sl} (E : EnvOk K c G H σ δ) {p : Addr} (hp : H p = none) : c.H0 p = none := by
  cases q : c.H0 p with
  | none => rfl
  | some o =>
    by_cases ht : ∃ j, j < c.n ∧ p = c.τ j
    · obtain ⟨j, hj, e⟩ := ht
      exact absurd (by rw [← e]; exact hp) (E.tg j hj).1
    · have z := E.fr p o q fun j hj e => ht ⟨j, hj, e⟩
      rw [hp] at z
      cases z

/-! ### what is left of expressions -/
section
variable {K : PySem.W.Frag} {ta tb tc : TE} {ua ub uc : DTE} {r r' : R2} {rd rd' : R2D}
theorem re_chain (ha : RE K ta ua) (hb : RE K tb ub) (hc : RE K tc uc) (hr : RO K r rd) (hr' : RO K r' rd') : RE K (tChain r r' ta tb tc) (dChain rd rd' ua ub uc) := by
  intro c σ G H δ Q R E h k
  refine ha c σ G H δ _ _ E h fun d1 δ1 v1 G1 H1 h1 E1 e1 r1 => ?_
  refine hb c σ G1 H1 δ1 _ _ E1 h1 fun d2 δ2 v2 G2 H2 h2 E2 e2 r2 => ?_
  refine hr G2 H2 v1 v2 d1 d2 _ _ E2.ex (r1.up e2) r2 h2 fun d v G3 H3 h3 A r3 => ?_
  cases d with
  | bool b =>
    refine ⟨b, r3.bl_of, ?_⟩
    cases b with
    | true =>
      refine hc c σ G3 H3 δ2 _ _ (E2.al A) h3 fun d3 δ3 v3 G4 H4 h4 E4 e4 r4 => ?_
      refine hr' G4 H4 v2 v3 d2 d3 _ _ E4.ex ((r2.up A.g).up e4) r4 h4 fun d v G5 H5 h5 A5 r5 => ?_
      exact k d δ3 v G5 H5 h5 (E4.al A5) ((((e1.trans e2).trans A.g).trans e4).trans A5.g) r5
    | false => exact k _ δ2 _ G3 H3 h3 (E2.al A) ((e1.trans e2).trans A.g) (.bl false)
  | _ => exact False.elim h3
/-- a list that stands in a slot, one that is being made too -/
def slL : Option Sl → Option (List PyData)
  | some (.own _ ds) => some ds
  | some (.dat (.list ds)) => some ds
  | _ => none
theorem slL_ok {c : Cf} {G H : Hp} {σ : L2.St} {δ : List Sl} (E : EnvOk K c G H σ δ) {i : Nat} {ds : List PyData} (h : slL δ[i]? = some ds) : ∃ p xs, σ[i]? = some (some (.ref p)) ∧ H p = some (.lst xs) ∧ RpAll K G xs ds := by
  cases hs : δ[i]? with
  | none =>
    rw [hs] at h
    cases h
  | some s =>
    rw [hs] at h
    have z := E.sl i s hs
    cases s with
    | no => cases h
    | scr es => cases h
    | own t es =>
      have e := Option.some.inj h
      subst e
      obtain ⟨p, xs, e, _, hh, r, _⟩ := z
      exact ⟨p, xs, e, hh, r⟩
    | dat x =>
      cases x <;> first
        | cases h
        | skip
      obtain ⟨x, e, rx⟩ := z
      obtain ⟨a, xs, rfl, q1, q2⟩ := rx.lst_of
      exact ⟨a, xs, e, E.ex _ _ q1, q2⟩
/-- an item of a list by its name -/
def dIxV (i : Nat) (ub : DTE) : DTE := fun δ R => (slL δ[i]?).isSome = true ∧ ub δ fun d δ1 => match slL δ1[i]?, d with
  | some ds, .int k => (match atI ds k with
    | some x => R x δ1
    | none => False)
  | _, _ => False
theorem re_ixV {i : Nat} (hb : RE K tb ub) : RE K (tOp (rIxL K) (tVar i) tb) (dIxV i ub) := by
  intro c σ G H δ Q R E h k
  obtain ⟨h0, h⟩ := h
  obtain ⟨ds0, h0⟩ := Option.isSome_iff_exists.mp h0
  obtain ⟨p, xs0, hv, _, _⟩ := slL_ok E h0
  refine ⟨.ref p, hv, ?_⟩
  refine hb c σ G H δ _ _ E h fun d δ1 y G1 H1 h1 E1 e1 r1 => ?_
  cases hs : slL δ1[i]? with
  | none =>
    rw [hs] at h1
    exact False.elim h1
  | some ds =>
    rw [hs] at h1
    cases d <;> first
      | exact False.elim h1
      | skip
    rename_i j
    have h1 : (match atI ds j with
      | some x => R x δ1
      | none => False) := h1
    obtain ⟨p', xs, hv', hh, rr⟩ := slL_ok E1 hs
    rw [hv] at hv'
    have ev := V.ref.inj (Option.some.inj (Option.some.inj hv'))
    subst ev
    cases q : atI ds j with
    | none =>
      rw [q] at h1
      exact h1.elim
    | some w =>
      rw [q] at h1
      obtain ⟨u, hu, ru⟩ := at_rp rr q
      exact ⟨p, xs, j, u, rfl, r1.int_of, .inl (.inl hh), hu, k w δ1 u G1 H1 h1 E1 e1 ru⟩
/-- how long something is -/
def dLen (u : DTE) : DTE := fun δ R => u δ fun d δ1 => match d with
  | .str x => x.length ≤ sizeLine ∧ R (.int (x.length : Int)) δ1
  | .list ds => R (.int (ds.length : Int)) δ1
  | .tuple ds => R (.int (ds.length : Int)) δ1
  | _ => False
def rLen (K : PySem.W.Frag) : List V → Hp → VK → Prop := fun xs H Q => ∃ x n, xs = [x] ∧ LenV K x H n ∧ Q (.int n) H
theorem re_len (ha : RE K ta ua) : RE K (tCB (rLen K) (tCons ta tNil)) (dLen ua) := by
  intro c σ G H δ Q R E h k
  refine ha c σ G H δ _ _ E h fun d δ1 v G1 H1 h1 E1 e1 r1 => ?_
  cases d <;> first
    | exact False.elim h1
    | skip
  · have e := r1.str_of
    subst e
    exact ⟨_, _, rfl, ⟨h1.1, rfl⟩, k _ δ1 _ G1 H1 h1.2 E1 e1 (.int _)⟩
  · obtain ⟨a, xs, rfl, q1, q2⟩ := r1.lst_of
    exact ⟨_, _, rfl, .inl ⟨xs, .inl (.inl (E1.ex _ _ q1)), rfl⟩, by rw [q2.len]; exact k _ δ1 _ G1 H1 h1 E1 e1 (.int _)⟩
  · obtain ⟨a, xs, rfl, q1, q2⟩ := r1.tup_of
    exact ⟨_, _, rfl, .inr ⟨xs, .inl (.inl (E1.ex _ _ q1)), rfl⟩, by rw [q2.len]; exact k _ δ1 _ G1 H1 h1 E1 e1 (.int _)⟩
/-- .. of a list, or of what was handed in, by its name -/
def dLenV (i : Nat) : DTE := fun δ R => match δ[i]? with
  | some (.own _ ds) => R (.int (ds.length : Int)) δ
  | some (.dat (.list ds)) => R (.int (ds.length : Int)) δ
  | some (.scr ds) => R (.int (ds.length : Int)) δ
  | _ => False
theorem re_lenV {i : Nat} : RE K (tCB (rLen K) (tCons (tVar i) tNil)) (dLenV i) := by
  intro c σ G H δ Q R E h k
  have fin : ∀ p xs (ds : List PyData), σ[i]? = some (some (.ref p)) → SqL K H p xs → RpAll K G xs ds → R (.int (ds.length : Int)) δ → tCB (rLen K) (tCons (tVar i) tNil) σ H Q := fun p xs ds e q r hr =>
    ⟨_, e, _, _, rfl, .inl ⟨xs, q, rfl⟩, by rw [r.len]; exact k _ δ _ G H hr E (Ex.refl _) (.int _)⟩
  cases hs : δ[i]? with
  | none =>
    unfold dLenV at h
    rw [hs] at h
    exact False.elim h
  | some s =>
    have z := E.sl i s hs
    unfold dLenV at h
    rw [hs] at h
    cases s with
    | no => exact False.elim h
    | scr ds =>
      obtain ⟨a, xs, e, q, r⟩ := z
      exact fin a xs ds e (ex_l E.ex q) r h
    | own t ds =>
      obtain ⟨p, xs, e, _, hh, r, _⟩ := z
      exact fin p xs ds e (.inl (.inl hh)) r h
    | dat d =>
      cases d <;> first
        | exact False.elim h
        | skip
      obtain ⟨x, e, rx⟩ := z
      obtain ⟨a, xs, rfl, q1, q2⟩ := rx.lst_of
      exact fin a xs _ e (.inl (.inl (E.ex _ _ q1))) q2 h
/-- isinstance with a built-in type -/
def tyD : PyData → String
  | .none => "NoneType"
  | .bool _ => "bool"
  | .int _ => "int"
  | .str _ => "str"
  | .list _ => "list"
  | .tuple _ => "tuple"
  | .dict _ => "dict"
def dIsi (T : String) (u : DTE) : DTE := fun δ R => u δ fun d δ1 => match kitB (tyD d) T with
  | some b => R (.bool b) δ1
  | none => False
theorem re_isi {T : String} (ha : RE K ta ua) : RE K (tCB (rIsi K) (tCons ta (tCons (tC (.ty T)) tNil))) (dIsi T ua) := by
  intro c σ G H δ Q R E h k
  refine ha c σ G H δ _ _ E h fun d δ1 v G1 H1 h1 E1 e1 r1 => ?_
  have h1 : (match kitB (tyD d) T with
    | some b => R (.bool b) δ1
    | none => False) := h1
  have ty : TyX K H1 v (.type (tyD d)) := by
    cases r1 with
    | non => exact .base .non
    | bl b => exact .base (.bl b)
    | int i => exact .base (.int i)
    | str x => exact .base (.str x)
    | lst q r => exact .base (.lst (E1.ex _ _ q))
    | tup q r => exact .base (.tup (E1.ex _ _ q))
    | dic q r => exact .base (.dK (E1.ex _ _ q))
  cases q : kitB (tyD d) T with
  | none =>
    rw [q] at h1
    exact h1.elim
  | some b =>
    rw [q] at h1
    exact ⟨v, .ty T, _, _, b, rfl, .ty T, ty, kit_ty q, k _ δ1 _ G1 H1 h1 E1 e1 (.bl b)⟩
/-- int(..) -/
def dInt1 (u : DTE) : DTE := fun δ R => u δ fun d δ1 => match d with
  | .int i => R (.int i) δ1
  | .bool b => R (.int (if b then 1 else 0)) δ1
  | _ => False
def rInt1 : List V → Hp → VK → Prop := fun xs H Q => (∃ i, xs = [.int i] ∧ Q (.int i) H) ∨ ∃ k, xs = [.bl k] ∧ Q (.int (if k then 1 else 0)) H
theorem re_int1 (ha : RE K ta ua) : RE K (tCB rInt1 (tCons ta tNil)) (dInt1 ua) := by
  intro c σ G H δ Q R E h k
  refine ha c σ G H δ _ _ E h fun d δ1 v G1 H1 h1 E1 e1 r1 => ?_
  cases d <;> first
    | exact False.elim h1
    | skip
  · have e := r1.bl_of
    subst e
    exact .inr ⟨_, rfl, k _ δ1 _ G1 H1 h1 E1 e1 (.int _)⟩
  · have e := r1.int_of
    subst e
    exact .inl ⟨_, rfl, k _ δ1 _ G1 H1 h1 E1 e1 (.int _)⟩
/-- a.join(list of texts) -/
def strsOf : List PyData → Option (List Str)
  | [] => some []
  | .str x :: r => (strsOf r).map (x :: ·)
  | _ :: _ => none
theorem strs_rp {G : Hp} : ∀ {ds : List PyData} {xs : List V} {ys : List Str}, RpAll K G xs ds → strsOf ds = some ys → xs = ys.map V.str
  | _, _, _, .nil, h => by
    cases h
    rfl
  | d :: ds, _, ys, .cons (v := v) (vs := vs) r rr, h => by
    cases d <;> first
      | (cases h; done)
      | skip
    rename_i x
    have h : (strsOf ds).map (x :: ·) = some ys := h
    cases q : strsOf ds with
    | none =>
      rw [q] at h
      cases h
    | some zs =>
      rw [q] at h
      cases h
      rw [strs_rp rr q, r.str_of]
      rfl
def dJoin (ua ub : DTE) : DTE := fun δ R => ua δ fun d1 δ1 => match d1 with
  | .str a => ub δ1 fun d2 δ2 => (match d2 with
    | .list ds => (match strsOf ds with
      | some ys => (ys.map (·.length)).sum + ys.length * a.length ≤ 16777216 ∧ R (.str (Txt.join a ys)) δ2
      | none => False)
    | _ => False)
  | _ => False
def rJoin (K : PySem.W.Frag) : V → List V → Hp → VK → Prop := fun x xs H Q => ∃ a p, ∃ ys : List Str, x = .str a ∧ xs = [.ref p] ∧ (SqL K H p (ys.map V.str) ∨ SqT K H p (ys.map V.str)) ∧
      (ys.map (·.length)).sum + ys.length * a.length ≤ 16777216 ∧ Q (.str (Txt.join a ys)) H
theorem re_join (ha : RE K ta ua) (hb : RE K tb ub) : RE K (tM1 (rJoin K) ta tb) (dJoin ua ub) := by
  intro c σ G H δ Q R E h k
  refine ha c σ G H δ _ _ E h fun d1 δ1 v1 G1 H1 h1 E1 e1 r1 => ?_
  have sv : ∃ a, d1 = .str a := by
    cases d1 <;> first
      | exact ⟨_, rfl⟩
      | exact False.elim h1
  obtain ⟨a, rfl⟩ := sv
  refine ⟨⟨a, r1.str_of⟩, ?_⟩
  refine hb c σ G1 H1 δ1 _ _ E1 h1 fun d2 δ2 v2 G2 H2 h2 E2 e2 r2 => ?_
  cases d2 <;> first
    | exact False.elim h2
    | skip
  rename_i ds
  have h2 : (match strsOf ds with
    | some ys => (ys.map (·.length)).sum + ys.length * a.length ≤ 16777216 ∧ R (.str (Txt.join a ys)) δ2
    | none => False) := h2
  obtain ⟨p, xs, rfl, q1, q2⟩ := r2.lst_of
  cases q : strsOf ds with
  | none =>
    rw [q] at h2
    exact h2.elim
  | some ys =>
    rw [q] at h2
    exact ⟨a, p, ys, r1.str_of, rfl, .inl (.inl (.inl (by rw [← strs_rp q2 q]; exact E2.ex _ _ q1))), h2.1, k _ δ2 _ G2 H2 h2.2 E2 (e1.trans e2) (.str _)⟩
end
end TL

set_option Elab.async false
set_option linter.all false
set_option maxRecDepth 100000
set_option maxHeartbeats 2000000
/-! TL4: statements, loops, comprehensions by data. -/
namespace TL
open PySem PySem.Spec L2

structure DEnds where
  nx : List Sl → Prop
  rt : PyData → List Sl → Prop
  bk : List Sl → Prop := fun _ => False
  ct : List Sl → Prop := fun _ => False
  rn : List PyData → List Sl → Prop := fun _ _ => False
abbrev DTS := DEnds → List Sl → Prop
structure EndsOk (K : PySem.W.Frag) (c : Cf) (G : Hp) (E : DEnds) (D : Ends) : Prop where
  nx : ∀ σ' G' H' δ', E.nx δ' → EnvOk K c G' H' σ' δ' → Ex G G' → D.nx σ' H'
  rt : ∀ d δ' v σ' G' H', E.rt d δ' → EnvOk K c G' H' σ' δ' → Ex G G' → Rp K G' v d → D.rt v H'
  bk : ∀ σ' G' H' δ', E.bk δ' → EnvOk K c G' H' σ' δ' → Ex G G' → D.bk σ' H'
  ct : ∀ σ' G' H' δ', E.ct δ' → EnvOk K c G' H' σ' δ' → Ex G G' → D.ct σ' H'
  rn : ∀ ds δ' p xs σ' G' H', E.rn ds δ' → EnvOk K { c with hid := (p, .lst xs) :: c.hid } G' H' σ' δ' → (∀ zs, (p, zs) ∉ c.hid) → Ex G G' → RpAll K G' xs ds → D.rt (.ref p) H'
theorem EndsOk.up {K : PySem.W.Frag} {c : Cf} {G G1 : Hp} {E : DEnds} {D : Ends} (h : EndsOk K c G E D) (e : Ex G G1) : EndsOk K c G1 E D :=
  ⟨fun σ' G' H' δ' a b k => h.nx σ' G' H' δ' a b (e.trans k), fun d δ' v σ' G' H' a b k r => h.rt d δ' v σ' G' H' a b (e.trans k) r, fun σ' G' H' δ' a b k => h.bk σ' G' H' δ' a b (e.trans k), fun σ' G' H' δ' a b k => h.ct σ' G' H' δ' a b (e.trans k), fun ds δ' p xs σ' G' H' a b n k r => h.rn ds δ' p xs σ' G' H' a b n (e.trans k) r⟩
def RS (K : PySem.W.Frag) (t : TS) (u : DTS) : Prop := ∀ (c : Cf) (σ : L2.St) (G H : Hp) (δ : List Sl) (D : Ends) (E : DEnds), EnvOk K c G H σ δ → u E δ → EndsOk K c G E D → t D σ H
structure DS (X : Cx) (st : Stmt) (t : TS) (u : DTS) : Prop where
  ps : PS X st t
  rs : RS X.K t u
structure DSs (X : Cx) (st : List Stmt) (t : TS) (u : DTS) : Prop where
  ps : PSs X st t
  rs : RS X.K t u

/-! ### targets -/
abbrev DTG := PyData → List Sl → (List Sl → Prop) → Prop
abbrev DTGs := List PyData → List Sl → (List Sl → Prop) → Prop
/-- js: the slots that are stored to -/
def RG (K : PySem.W.Frag) (g : TG) (u : DTG) (js : List Nat) : Prop := ∀ (c : Cf) (σ : L2.St) (G H : Hp) (δ : List Sl) (v : V) (d : PyData) (Q : L2.St → Hp → Prop) (R : List Sl → Prop), EnvOk K c G H σ δ → Rp K G v d → u d δ R →
  (∀ σ' δ', R δ' → EnvOk K c G H σ' δ' → σ'.length = σ.length → (∀ i, i ∉ js → σ'[i]? = σ[i]?) → Q σ' H) → g v σ H Q
def RGs (K : PySem.W.Frag) (g : TGs) (u : DTGs) (js : List Nat) : Prop := ∀ (c : Cf) (σ : L2.St) (G H : Hp) (δ : List Sl) (vs : List V) (ds : List PyData) (Q : L2.St → Hp → Prop) (R : List Sl → Prop), EnvOk K c G H σ δ → RpAll K G vs ds → u ds δ R →
  (∀ σ' δ', R δ' → EnvOk K c G H σ' δ' → σ'.length = σ.length → (∀ i, i ∉ js → σ'[i]? = σ[i]?) → Q σ' H) → g vs σ H Q
structure DG (X : Cx) (e : Expr) (g : TG) (u : DTG) (js : List Nat) : Prop where
  pg : PG X e g
  rg : RG X.K g u js
structure DGs (X : Cx) (es : List Expr) (g : TGs) (u : DTGs) (js : List Nat) : Prop where
  pg : PGs X es g
  rg : RGs X.K g u js
def dgName (i : Nat) : DTG := fun d δ R => R (δ.set i (.dat d))
def dgNil : DTGs := fun ds δ R => match ds with
  | [] => R δ
  | _ => False
def dgCons (u : DTG) (us : DTGs) : DTGs := fun ds δ R => match ds with
  | d :: r => u d δ fun δ1 => us r δ1 R
  | [] => False
def dgTup (n : Nat) (us : DTGs) : DTG := fun d δ R => match d with
  | .tuple ds => ds.length = n ∧ us ds δ R
  | _ => False
section
variable {K : PySem.W.Frag}
theorem rg_name {i : Nat} : RG K (gName i) (dgName i) [i] := by
  intro c σ G H δ v d Q R E r h k
  refine k _ _ h (E.put r) List.length_set fun j hj => ?_
  rw [List.getElem?_set_ne]
  exact fun z => hj (by rw [z]; exact List.mem_singleton.mpr rfl)
theorem rgs_nil : RGs K gNil dgNil [] := by
  intro c σ G H δ vs ds Q R E r h k
  cases r with
  | nil => exact ⟨rfl, k σ δ h E rfl fun _ _ => rfl⟩
  | cons _ _ => exact False.elim h
theorem rgs_cons {g : TG} {u : DTG} {gs : TGs} {us : DTGs} {js js' : List Nat} (h1 : RG K g u js) (h2 : RGs K gs us js') : RGs K (gCons g gs) (dgCons u us) (js ++ js') := by
  intro c σ G H δ vs ds Q R E r h k
  cases r with
  | nil => exact False.elim h
  | cons r rr =>
    refine ⟨_, _, rfl, ?_⟩
    refine h1 c σ G H δ _ _ _ _ E r h fun σ1 δ1 q1 E1 l1 s1 => ?_
    refine h2 c σ1 G H δ1 _ _ _ _ E1 rr q1 fun σ2 δ2 q2 E2 l2 s2 => ?_
    exact k σ2 δ2 q2 E2 (l2.trans l1) fun i hi => (s2 i fun z => hi (List.mem_append_right _ z)).trans (s1 i fun z => hi (List.mem_append_left _ z))
theorem rg_tup {n : Nat} {gs : TGs} {us : DTGs} {js : List Nat} (h1 : RGs K gs us js) : RG K (gTup K n gs) (dgTup n us) js := by
  intro c σ G H δ v d Q R E r h k
  cases d <;> first
    | exact False.elim h
    | skip
  obtain ⟨a, xs, rfl, q1, q2⟩ := r.tup_of
  exact ⟨a, xs, rfl, .inl (.inl (E.ex _ _ q1)), by rw [q2.len]; exact h.1, h1 c σ G H δ xs _ Q R E q2 h.2 k⟩
end

/-! ### statements -/
def dNext : DTS := fun E δ => E.nx δ
def dSeq (u u' : DTS) : DTS := fun E δ => u { E with nx := u' E } δ
def dBreak : DTS := fun E δ => E.bk δ
def dCont : DTS := fun E δ => E.ct δ
def dDrop (u : DTE) : DTS := fun E δ => u δ fun _ δ1 => E.nx δ1
def dRet (u : DTE) : DTS := fun E δ => u δ E.rt
/-- return [..], a list that the asker may change -/
def dRetNew (u : DTA) : DTS := fun E δ => u δ fun ds δ1 => ds.length ≤ sizeLine ∧ E.rn ds δ1
def dRetN : DTS := fun E δ => E.rt .none δ
def dIfS (t : DTT) (u u' : DTS) : DTS := fun E δ => t δ fun b δ1 => if b = true then u E δ1 else u' E δ1
def dAsg (u : DTE) (g : DTG) : DTS := fun E δ => u δ fun d δ1 => g d δ1 E.nx
/-- name op= e, of iotaD -/
def dAug (f : Int → Int → Int) (i : Nat) (u : DTE) : DTS := fun E δ => match δ[i]? with
  | some (.dat (.int a)) => u δ fun d δ1 => (match d with
    | .int b => E.nx (δ1.set i (.dat (.int (f a b))))
    | _ => False)
  | _ => False
/-- xs[i] = e, xs a name -/
def dSetI (i : Nat) (u ui : DTE) : DTS := fun E δ => u δ fun d δ1 => (slL δ1[i]?).isSome = true ∧ ui δ1 fun di δ2 => match δ2[i]?, di with
  | some (.own t ds), .int k => (match ixN ds.length k with
    | some j => E.nx (δ2.set i (.own t (ds.set j d)))
    | none => False)
  | _, _ => False
/-- xs.append(e), xs a name -/
def dApp (i : Nat) (u : DTE) : DTS := fun E δ => (slL δ[i]?).isSome = true ∧ u δ fun d δ1 => match δ1[i]? with
  | some (.own t ds) => ds.length < sizeLine ∧ E.nx (δ1.set i (.own t (ds ++ [d])))
  | _ => False
/-- xs = [..], a list that is to change -/
def dAsgOwn (i : Nat) (u : DTA) : DTS := fun E δ => u δ fun ds δ1 => ds.length ≤ sizeLine ∧ E.nx (δ1.set i (.own none ds))
section
variable {K : PySem.W.Frag} {te tb : TE} {ue ub : DTE} {t t' : TS} {u u' : DTS} {g : TG} {ug : DTG} {js : List Nat}
theorem rs_next : RS K tNext dNext := fun c σ G H δ D E EV h k => k.nx σ G H δ h EV (Ex.refl _)
theorem rs_break : RS K tBreak dBreak := fun c σ G H δ D E EV h k => k.bk σ G H δ h EV (Ex.refl _)
theorem rs_cont : RS K tCont dCont := fun c σ G H δ D E EV h k => k.ct σ G H δ h EV (Ex.refl _)
theorem rs_seq (h1 : RS K t u) (h2 : RS K t' u') : RS K (tSeq t t') (dSeq u u') := by
  intro c σ G H δ D E EV h k
  refine h1 c σ G H δ { D with nx := t' D } { E with nx := u' E } EV h ⟨fun σ' G' H' δ' a b e => ?_, k.rt, k.bk, k.ct, k.rn⟩
  exact h2 c σ' G' H' δ' D E b a (k.up e)
theorem rs_drop (ha : RE K te ue) : RS K (tDrop te) (dDrop ue) := by
  intro c σ G H δ D E EV h k
  exact ha c σ G H δ _ _ EV h fun d δ1 v G1 H1 h1 E1 e1 _ => k.nx σ G1 H1 δ1 h1 E1 e1
theorem rs_ret (ha : RE K te ue) : RS K (tRet te) (dRet ue) := by
  intro c σ G H δ D E EV h k
  exact ha c σ G H δ _ _ EV h fun d δ1 v G1 H1 h1 E1 e1 r => k.rt d δ1 v σ G1 H1 h1 E1 e1 r
theorem rs_retNew {ta : TA} {ua : DTA} (ha : RA K ta ua) : RS K (tRet (tLst ta)) (dRetNew ua) := by
  intro c σ G H δ D E EV h k
  refine ha c σ G H δ _ _ EV h fun ds δ1 vs G1 H1 h1 E1 e1 r => ?_
  refine ⟨by rw [r.len]; exact h1.1, fun p hp => ?_⟩
  refine k.rn ds δ1 p vs σ G1 _ h1.2 (E1.hide hp (E1.new0 hp)) (fun zs z => ?_) e1 r
  have q := (E1.hd p zs z).1
  rw [hp] at q
  cases q
theorem rs_retN : RS K tRetN dRetN := fun c σ G H δ D E EV h k => k.rt .none δ .non σ G H h EV (Ex.refl _) .non
theorem rs_if {tc : TT} {uc : DTT} (hc : RT K tc uc) (h1 : RS K t u) (h2 : RS K t' u') : RS K (tIfS tc t t') (dIfS uc u u') := by
  intro c σ G H δ D E EV h k
  refine hc c σ G H δ _ _ EV h fun b δ1 G1 H1 q E1 e1 => ?_
  cases b with
  | true => exact h1 c σ G1 H1 δ1 D E E1 q (k.up e1)
  | false => exact h2 c σ G1 H1 δ1 D E E1 q (k.up e1)
theorem rs_asg (ha : RE K te ue) (hg : RG K g ug js) : RS K (tAsg te g) (dAsg ue ug) := by
  intro c σ G H δ D E EV h k
  refine ha c σ G H δ _ _ EV h fun d δ1 v G1 H1 h1 E1 e1 r => ?_
  exact hg c σ G1 H1 δ1 v d _ _ E1 r h1 fun σ' δ' q E2 _ _ => k.nx σ' G1 H1 δ' q E2 e1
theorem rs_aug {f : Int → Int → Int} {i : Nat} (ha : RE K te ue) : RS K (tAug i te (ipI f)) (dAug f i ue) := by
  intro c σ G H δ D E EV h k
  unfold dAug at h
  cases hs : δ[i]? with
  | none =>
    rw [hs] at h
    exact False.elim h
  | some s =>
    rw [hs] at h
    have z := EV.sl i s hs
    cases s <;> first
      | exact False.elim h
      | skip
    rename_i d0
    cases d0 <;> first
      | exact False.elim h
      | skip
    rename_i a
    obtain ⟨x, e, rx⟩ := z
    have ex := rx.int_of
    subst ex
    refine ⟨_, e, ?_⟩
    refine ha c σ G H δ _ _ EV h fun d δ1 v G1 H1 h1 E1 e1 r => ?_
    cases d <;> first
      | exact False.elim h1
      | skip
    rename_i b
    exact ⟨a, b, rfl, r.int_of, k.nx _ G1 H1 _ h1 (E1.put (.int _)) e1⟩
theorem rs_setI {i : Nat} (ha : RE K te ue) (hi : RE K tb ub) : RS K (tAsg te (gSub (tVar i) tb rSetL)) (dSetI i ue ub) := by
  intro c σ G H δ D E EV h k
  refine ha c σ G H δ _ _ EV h fun d δ1 v G1 H1 h1 E1 e1 r => ?_
  obtain ⟨hsome, h1⟩ := h1
  obtain ⟨ds0, h0⟩ := Option.isSome_iff_exists.mp hsome
  obtain ⟨p, xs0, hv, _, _⟩ := slL_ok E1 h0
  refine ⟨.ref p, hv, ?_⟩
  refine hi c σ G1 H1 δ1 _ _ E1 h1 fun di δ2 y G2 H2 h2 E2 e2 r2 => ?_
  cases hs : δ2[i]? with
  | none =>
    rw [hs] at h2
    exact False.elim h2
  | some s =>
    rw [hs] at h2
    cases s <;> first
      | exact False.elim h2
      | skip
    rename_i tg ds
    cases di <;> first
      | exact False.elim h2
      | skip
    rename_i kk
    have h2 : (match ixN ds.length kk with
      | some j => E.nx (δ2.set i (.own tg (ds.set j d)))
      | none => False) := h2
    obtain ⟨p', xs, e, hg, hh, rr, q⟩ := E2.sl i _ hs
    have e' := e
    rw [hv] at e'
    have ev := V.ref.inj (Option.some.inj (Option.some.inj e'))
    subst ev
    cases q : ixN ds.length kk with
    | none =>
      rw [q] at h2
      exact h2.elim
    | some j =>
      rw [q] at h2
      refine ⟨p, xs, kk, j, rfl, r2.int_of, hh, by rw [rr.len]; exact q, ?_⟩
      exact k.nx σ G2 _ _ h2 (E2.poke hs hv (RpAll.set (r.up e2) j rr)) (e1.trans e2)
theorem rs_app {i : Nat} (ha : RE K te ue) : RS K (tDrop (tBM K "list" rAppend (tVar i) (tCons te tNil))) (dApp i ue) := by
  intro c σ G H δ D E EV h k
  obtain ⟨hsome, h⟩ := h
  obtain ⟨ds0, h0⟩ := Option.isSome_iff_exists.mp hsome
  obtain ⟨p, xs0, hv, hh0, _⟩ := slL_ok EV h0
  refine ⟨.ref p, hv, .inl ⟨rfl, _, .inl (.inl hh0)⟩, ?_⟩
  refine ha c σ G H δ _ _ EV h fun d δ1 v G1 H1 h1 E1 e1 r => ?_
  cases hs : δ1[i]? with
  | none =>
    rw [hs] at h1
    exact False.elim h1
  | some s =>
    rw [hs] at h1
    cases s <;> first
      | exact False.elim h1
      | skip
    rename_i tg ds
    obtain ⟨p', xs, e, hg, hh, rr, q⟩ := E1.sl i _ hs
    have e' := e
    rw [hv] at e'
    have ev := V.ref.inj (Option.some.inj (Option.some.inj e'))
    subst ev
    refine ⟨p, xs, v, rfl, rfl, hh, by rw [rr.len]; exact h1.1, ?_⟩
    exact k.nx σ G1 _ _ h1.2 (E1.poke hs hv (rr.app (.one r))) e1
theorem rs_asgOwn {i : Nat} {ta : TA} {ua : DTA} (ha : RA K ta ua) : RS K (tAsg (tLst ta) (gName i)) (dAsgOwn i ua) := by
  intro c σ G H δ D E EV h k
  refine ha c σ G H δ _ _ EV h fun ds δ1 vs G1 H1 h1 E1 e1 r => ?_
  refine ⟨by rw [r.len]; exact h1.1, fun p hp => ?_⟩
  exact k.nx _ G1 _ _ h1.2 (E1.fresh hp (E1.new0 hp) r) e1
end

/-! ### what is walked -/
structure Yields (K : PySem.W.Frag) (G : Hp) (J : It) (ds : List PyData) : Prop where
  stop : ∀ G1 H1, Ex G G1 → Ex G1 H1 → J.stop ds.length H1
  go : ∀ G1 H1 i d, Ex G G1 → Ex G1 H1 → ds[i]? = some d → J.go i H1 ∧ ∀ x H2, J.yld i H1 x H2 → ∃ G2, Al G1 H1 G2 H2 ∧ Rp K G2 x d
abbrev DTI := List Sl → (List PyData → List Sl → Prop) → Prop
def RI (K : PySem.W.Frag) (w : TI) (u : DTI) : Prop := ∀ (c : Cf) (σ : L2.St) (G H : Hp) (δ : List Sl) (Q : It → Hp → Prop) (R : List PyData → List Sl → Prop), EnvOk K c G H σ δ → u δ R →
  (∀ ds δ' J G' H', R ds δ' → EnvOk K c G' H' σ δ' → Ex G G' → Yields K G' J ds → Q J H') → w σ H Q
structure DI (X : Cx) (tg iter : Expr) (w : TI) (u : DTI) : Prop where
  pi : PI X tg iter w
  ri : RI X.K w u
def diL (u : DTE) : DTI := fun δ R => u δ fun d δ1 => match d with
  | .list ds => R ds δ1
  | _ => False
def diT (u : DTE) : DTI := fun δ R => u δ fun d δ1 => match d with
  | .tuple ds => R ds δ1
  | _ => False
def diS (u : DTE) : DTI := fun δ R => u δ fun d δ1 => match d with
  | .str x => R (x.cps.toList.map fun c => .str ⟨#[c]⟩) δ1
  | _ => False
def iotaD (lo : Int) (n : Nat) : List PyData := (List.range n).map fun (i : Nat) => PyData.int (lo + (i : Int))
def diR1 (u : DTE) : DTI := fun δ R => u δ fun d δ1 => match d with
  | .int n => (-(2 ^ 62) ≤ n ∧ n < 2 ^ 62) ∧ R (iotaD 0 n.toNat) δ1
  | _ => False
def diR2 (u u' : DTE) : DTI := fun δ R => u δ fun d δ1 => u' δ1 fun d' δ2 => match d, d' with
  | .int m, .int n => (-(2 ^ 62) ≤ m ∧ m < 2 ^ 62 ∧ -(2 ^ 62) ≤ n ∧ n < 2 ^ 62) ∧ R (iotaD m (n - m).toNat) δ2
  | _, _ => False
section
variable {K : PySem.W.Frag} {te tb : TE} {ue ub : DTE}
theorem ri_list (ha : RE K te ue) : RI K (iList K te) (diL ue) := by
  intro c σ G H δ Q R E h k
  refine ha c σ G H δ _ _ E h fun d δ1 v G1 H1 h1 E1 e1 r => ?_
  cases d <;> first
    | exact False.elim h1
    | skip
  rename_i ds
  obtain ⟨a, xs, rfl, q1, q2⟩ := r.lst_of
  refine ⟨a, rfl, ⟨xs, .inl (.inl (E1.ex _ _ q1))⟩, k ds δ1 _ G1 H1 h1 E1 e1 ⟨fun G2 H2 a1 a2 => ⟨xs, .inl (.inl (a2 _ _ (a1 _ _ q1))), by rw [q2.len]; exact Nat.le_refl _⟩, fun G2 H2 i d a1 a2 hd => ?_⟩⟩
  obtain ⟨v, hv, rv⟩ := q2.get hd
  have hq : SqL K H2 a xs := .inl (.inl (a2 _ _ (a1 _ _ q1)))
  refine ⟨⟨xs, v, hq, hv⟩, fun x H3 hy => ?_⟩
  obtain ⟨rfl, hy⟩ := hy
  have e := (hy xs hq).symm.trans hv
  cases e
  exact ⟨G2, Al.refl a2, rv.up a1⟩
theorem ri_tup (ha : RE K te ue) : RI K (iTup K te) (diT ue) := by
  intro c σ G H δ Q R E h k
  refine ha c σ G H δ _ _ E h fun d δ1 v G1 H1 h1 E1 e1 r => ?_
  cases d <;> first
    | exact False.elim h1
    | skip
  rename_i ds
  obtain ⟨a, xs, rfl, q1, q2⟩ := r.tup_of
  refine ⟨a, rfl, ⟨xs, .inl (.inl (E1.ex _ _ q1))⟩, k ds δ1 _ G1 H1 h1 E1 e1 ⟨fun G2 H2 a1 a2 => ⟨xs, .inl (.inl (a2 _ _ (a1 _ _ q1))), by rw [q2.len]; exact Nat.le_refl _⟩, fun G2 H2 i d a1 a2 hd => ?_⟩⟩
  obtain ⟨v, hv, rv⟩ := q2.get hd
  have hq : SqT K H2 a xs := .inl (.inl (a2 _ _ (a1 _ _ q1)))
  refine ⟨⟨xs, v, hq, hv⟩, fun x H3 hy => ?_⟩
  obtain ⟨rfl, hy⟩ := hy
  have e := (hy xs hq).symm.trans hv
  cases e
  exact ⟨G2, Al.refl a2, rv.up a1⟩
theorem ri_str (ha : RE K te ue) : RI K (iStr te) (diS ue) := by
  intro c σ G H δ Q R E h k
  refine ha c σ G H δ _ _ E h fun d δ1 v G1 H1 h1 E1 e1 r => ?_
  cases d <;> first
    | exact False.elim h1
    | skip
  rename_i x
  refine ⟨x, r.str_of, k _ δ1 _ G1 H1 h1 E1 e1 ⟨fun G2 H2 a1 a2 => ?_, fun G2 H2 i d a1 a2 hd => ?_⟩⟩
  · show x.cps.size ≤ (x.cps.toList.map fun c => PyData.str ⟨#[c]⟩).length
    rw [List.length_map, Array.length_toList]
    exact Nat.le_refl _
  · rw [List.getElem?_map] at hd
    cases q : x.cps.toList[i]? with
    | none =>
      rw [q] at hd
      cases hd
    | some ch =>
      rw [q] at hd
      cases hd
      have hl := (List.getElem?_eq_some_iff.mp q).1
      rw [Array.length_toList] at hl
      refine ⟨hl, fun y H3 hy => ?_⟩
      obtain ⟨rfl, ch', hc, rfl⟩ := hy
      rw [Array.getElem?_toList] at q
      rw [q] at hc
      cases hc
      exact ⟨G2, Al.refl a2, .str _⟩
theorem iotaD_get {lo : Int} {n i : Nat} {d : PyData} (h : (iotaD lo n)[i]? = some d) : i < n ∧ d = .int (lo + (i : Int)) := by
  unfold iotaD at h
  rw [List.getElem?_map] at h
  cases q : (List.range n)[i]? with
  | none =>
    rw [q] at h
    cases h
  | some j =>
    rw [q] at h
    obtain ⟨h1, h2⟩ := List.getElem?_eq_some_iff.mp q
    rw [List.getElem_range] at h2
    subst h2
    rw [List.length_range] at h1
    exact ⟨h1, (Option.some.inj h).symm⟩
theorem yld_iotaD {G : Hp} {lo : Int} {n : Nat} : Yields K G (Itr lo n) (iotaD lo n) := ⟨fun G2 H2 a1 a2 => by
    show n ≤ (iotaD lo n).length
    unfold iotaD
    rw [List.length_map, List.length_range]
    exact Nat.le_refl _, fun G2 H2 i d a1 a2 hd => by
    obtain ⟨h1, rfl⟩ := iotaD_get hd
    refine ⟨h1, fun x H3 hy => ?_⟩
    obtain ⟨rfl, rfl⟩ := hy
    exact ⟨G2, Al.refl a2, .int _⟩⟩
theorem ri_r1 (ha : RE K te ue) : RI K (iRng1 (tCons te tNil)) (diR1 ue) := by
  intro c σ G H δ Q R E h k
  refine ha c σ G H δ _ _ E h fun d δ1 v G1 H1 h1 E1 e1 r => ?_
  cases d <;> first
    | exact False.elim h1
    | skip
  rename_i n
  have e := r.int_of
  subst e
  exact ⟨n, rfl, h1.1.1, h1.1.2, k _ δ1 _ G1 H1 h1.2 E1 e1 yld_iotaD⟩
theorem ri_r2 (ha : RE K te ue) (hb : RE K tb ub) : RI K (iRng2 (tCons te (tCons tb tNil))) (diR2 ue ub) := by
  intro c σ G H δ Q R E h k
  refine ha c σ G H δ _ _ E h fun d δ1 v G1 H1 h1 E1 e1 r => ?_
  refine hb c σ G1 H1 δ1 _ _ E1 h1 fun d2 δ2 v2 G2 H2 h2 E2 e2 r2 => ?_
  cases d <;> cases d2 <;> first
    | exact False.elim h2
    | skip
  rename_i m n
  have e := r.int_of
  subst e
  have e' := r2.int_of
  subst e'
  exact ⟨m, n, rfl, h2.1, k _ δ2 _ G2 H2 h2.2 E2 (e1.trans e2) yld_iotaD⟩
end

/-! ### loops -/
def forW (g : DTG) (u : DTS) (E : DEnds) : List PyData → List Sl → Prop
  | [], δ => E.nx δ
  | d :: r, δ => g d δ fun δ1 => u { E with nx := forW g u E r, ct := forW g u E r, bk := E.nx } δ1
def dFor (w : DTI) (g : DTG) (u : DTS) : DTS := fun E δ => w δ fun ds δ1 => forW g u E ds δ1
def whW (t : DTT) (u : DTS) (E : DEnds) : Nat → List Sl → Prop
  | 0, _ => False
  | n + 1, δ => t δ fun b δ1 => if b = true then u { E with nx := whW t u E n, ct := whW t u E n, bk := E.nx } δ1 else E.nx δ1
def dWhile (t : DTT) (u : DTS) : DTS := fun E δ => ∃ n, whW t u E n δ
section
variable {K : PySem.W.Frag} {w : TI} {uw : DTI} {g : TG} {ug : DTG} {js : List Nat} {t : TS} {u : DTS} {tc : TT} {uc : DTT}
theorem rs_for (hw : RI K w uw) (hg : RG K g ug js) (hb : RS K t u) : RS K (tFor w g t) (dFor uw ug u) := by
  intro c σ G H δ D E EV h k
  refine hw c σ G H δ _ _ EV h fun ds δ1 J G1 H1 h1 E1 e1 Y => ?_
  refine ⟨fun i m σ H => ∃ G δ, EnvOk K c G H σ δ ∧ Ex G1 G ∧ i ≤ ds.length ∧ m = ds.length - i ∧ forW ug u E (ds.drop i) δ, ⟨ds.length, G1, δ1, E1, Ex.refl _, Nat.zero_le _, rfl, h1⟩, ?_⟩
  rintro i m σ2 H2 ⟨G2, δ2, E2, e2, hi, rfl, h2⟩
  by_cases hlt : i < ds.length
  · have hd : ds[i]? = some ds[i] := List.getElem?_eq_getElem hlt
    rw [List.drop_eq_getElem_cons hlt] at h2
    obtain ⟨hgo, hy⟩ := Y.go G2 H2 i _ e2 E2.ex hd
    refine .inr ⟨hgo, fun σ' H' => ∃ G δ, EnvOk K c G H' σ' δ ∧ Ex G1 G ∧ forW ug u E (ds.drop (i + 1)) δ, fun σ' H' ⟨G', δ', a1, a2, a3⟩ => ⟨ds.length - (i + 1), by omega, G', δ', a1, a2, hlt, rfl, a3⟩, fun x H3 hx => ?_⟩
    obtain ⟨G3, A, rx⟩ := hy x H3 hx
    refine hg c σ2 G3 H3 δ2 x _ _ _ (E2.al A) rx h2 fun σ4 δ4 h4 E4 _ _ => ?_
    have e13 : Ex G1 G3 := e2.trans A.g
    refine hb c σ4 G3 H3 δ4 _ { E with nx := forW ug u E (ds.drop (i + 1)), ct := forW ug u E (ds.drop (i + 1)), bk := E.nx } E4 h4 ⟨?_, ?_, ?_, ?_, ?_⟩
    · exact fun σ' G' H' δ' a b e => ⟨G', δ', b, e13.trans e, a⟩
    · exact fun d δ' v σ' G' H' a b e r => k.rt d δ' v σ' G' H' a b ((e1.trans e13).trans e) r
    · exact fun σ' G' H' δ' a b e => k.nx σ' G' H' δ' a b ((e1.trans e13).trans e)
    · exact fun σ' G' H' δ' a b e => ⟨G', δ', b, e13.trans e, a⟩
    · exact fun ds δ' p xs σ' G' H' a b n e r => k.rn ds δ' p xs σ' G' H' a b n ((e1.trans e13).trans e) r
  · have ei : i = ds.length := by omega
    subst ei
    rw [List.drop_length] at h2
    exact .inl ⟨Y.stop G2 H2 e2 E2.ex, k.nx σ2 G2 H2 δ2 h2 E2 (e1.trans e2)⟩
theorem rs_while (hc : RT K tc uc) (hb : RS K t u) : RS K (tWhile tc t) (dWhile uc u) := by
  intro c σ G H δ D E EV h k
  obtain ⟨n, h⟩ := h
  refine ⟨fun m σ H => ∃ G' δ, EnvOk K c G' H σ δ ∧ Ex G G' ∧ whW uc u E m δ, ⟨n, G, δ, EV, Ex.refl _, h⟩, ?_⟩
  rintro m σ1 H1 ⟨G1, δ1, E1, e1, h1⟩
  cases m with
  | zero => exact False.elim h1
  | succ m =>
    refine hc c σ1 G1 H1 δ1 _ _ E1 h1 fun b δ2 G2 H2 h2 E2 e2 => ?_
    cases b with
    | false =>
      exact k.nx σ1 G2 H2 δ2 h2 E2 (e1.trans e2)
    | true =>
      refine ⟨fun σ' H' => ∃ G' δ, EnvOk K c G' H' σ' δ ∧ Ex G G' ∧ whW uc u E m δ, fun σ' H' q => ⟨m, Nat.lt_succ_self m, q⟩, ?_⟩
      refine hb c σ1 G2 H2 δ2 _ { E with nx := whW uc u E m, ct := whW uc u E m, bk := E.nx } E2 h2 ⟨?_, ?_, ?_, ?_, ?_⟩
      · exact fun σ' G' H' δ' a b e => ⟨G', δ', b, (e1.trans e2).trans e, a⟩
      · exact fun d δ' v σ' G' H' a b e r => k.rt d δ' v σ' G' H' a b ((e1.trans e2).trans e) r
      · exact fun σ' G' H' δ' a b e => k.nx σ' G' H' δ' a b ((e1.trans e2).trans e)
      · exact fun σ' G' H' δ' a b e => ⟨G', δ', b, (e1.trans e2).trans e, a⟩
      · exact fun ds δ' p xs σ' G' H' a b n e r => k.rn ds δ' p xs σ' G' H' a b n ((e1.trans e2).trans e) r
end

/-! ### comprehensions -/
def wipeS (δ : List Sl) : List Nat → List Sl
  | [] => δ
  | v :: vs => (wipeS δ vs).set v .no
def lcW (vs : List Nat) (g : DTG) (t : DTT) (u : DTE) (R : List PyData → List Sl → Prop) : List PyData → List PyData → List Sl → Prop
  | [], acc, δ => R acc δ
  | d :: r, acc, δ => g d (wipeS δ vs) fun δ1 => t δ1 fun b δ2 => if b = true then u δ2 fun y δ3 => acc.length < sizeLine ∧ lcW vs g t u R r (acc ++ [y]) (wipeS δ3 vs) else lcW vs g t u R r acc (wipeS δ2 vs)
def dLc (w : DTI) (g : DTG) (t : DTT) (u : DTE) (vs : List Nat) : DTE := fun δ R => w δ fun ds δ1 => lcW vs g t u (fun acc δ' => R (.list acc) δ') ds [] δ1
/-- .. given to a name that is to change -/
def dLcOwn (i : Nat) (w : DTI) (g : DTG) (t : DTT) (u : DTE) (vs : List Nat) : DTS := fun E δ => w δ fun ds δ1 => lcW vs g t u (fun acc δ' => E.nx (δ'.set i (.own none acc))) ds [] δ1
def dYes : DTT := fun δ R => R true δ
section
variable {K : PySem.W.Frag} {w : TI} {uw : DTI} {g : TG} {ug : DTG} {js : List Nat} {tt : TT} {ut : DTT} {te : TE} {ue : DTE}
theorem rt_yes : RT K tYes dYes := fun c σ G H δ Q R E h k => k true δ G H h E (Ex.refl _)
theorem wipe_get (σ : L2.St) (i : Nat) : ∀ vs : List Nat, (wipe σ vs)[i]? = if i ∈ vs ∧ i < σ.length then some none else σ[i]?
  | [] => by simp [wipe]
  | v :: vs => by
    have ih := wipe_get σ i vs
    show ((wipe σ vs).set v none)[i]? = _
    rw [List.getElem?_set, wipe_length]
    by_cases h : v = i
    · subst h
      by_cases hl : v < σ.length
      · simp [hl]
      · simp [hl]
    · rw [if_neg h, ih]
      have e : (i ∈ v :: vs) ↔ i ∈ vs := by
        rw [List.mem_cons]
        exact ⟨fun z => z.elim (fun z => absurd z.symm h) id, Or.inr⟩
      by_cases hm : i ∈ vs
      · by_cases hl : i < σ.length
        · simp [hm, hl]
        · simp [hm, hl]
      · simp [hm, Ne.symm h]
theorem wipe_eq {σ σ' : L2.St} {vs : List Nat} (hl : σ'.length = σ.length) (h : ∀ i, i ∉ vs → σ'[i]? = σ[i]?) : wipe σ' vs = wipe σ vs := by
  apply List.ext_getElem?
  intro i
  rw [wipe_get, wipe_get, hl]
  by_cases hm : i ∈ vs
  · by_cases hi : i < σ.length
    · simp [hm, hi]
    · rw [if_neg (fun z => hi z.2), if_neg (fun z => hi z.2), List.getElem?_eq_none (by omega), List.getElem?_eq_none (by omega)]
  · rw [if_neg (fun z => hm z.1), if_neg (fun z => hm z.1)]
    exact h i hm
theorem EnvOk.wipe {c : Cf} {G H : Hp} {σ : L2.St} {δ : List Sl} (E : EnvOk K c G H σ δ) : ∀ vs : List Nat, EnvOk K c G H (L2.wipe σ vs) (wipeS δ vs)
  | [] => E
  | v :: vs => (EnvOk.wipe E vs).drop
theorem wipeS_no {δ : List Sl} {i : Nat} {s : Sl} : ∀ (vs : List Nat), i ∈ vs → (wipeS δ vs)[i]? = some s → s = Sl.no
  | [], hi, _ => nomatch hi
  | v :: vs, hi, hs => by
    have hs : ((wipeS δ vs).set v Sl.no)[i]? = some s := hs
    rw [List.getElem?_set] at hs
    by_cases hv : v = i
    · rw [if_pos hv] at hs
      split at hs
      · exact (Option.some.inj hs).symm
      · cases hs
    · rw [if_neg hv] at hs
      rcases List.mem_cons.mp hi with z | z
      · exact absurd z.symm hv
      · exact wipeS_no vs z hs
/-- other values in slots that nothing is known of -/
theorem EnvOk.other {c : Cf} {G H : Hp} {σ σ' : L2.St} {δ : List Sl} {vs : List Nat} (E : EnvOk K c G H σ (wipeS δ vs)) (hl : σ'.length = σ.length) (h : ∀ i, i ∉ vs → σ'[i]? = σ[i]?) : EnvOk K c G H σ' (wipeS δ vs) := by
  have same : ∀ (i : Nat) (s : Sl), (wipeS δ vs)[i]? = some s → s ≠ Sl.no → σ'[i]? = σ[i]? := fun i s hs hn => h i fun z => hn (wipeS_no vs z hs)
  exact {
    g0 := E.g0, ex := E.ex, fr := E.fr, fs := E.fs, tg := E.tg
    len := by rw [hl]; exact E.len
    sl := fun i s hs => by
      cases s with
      | no => trivial
      | dat d => rw [same i _ hs (by intro z; cases z)]; exact E.sl i _ hs
      | scr d => rw [same i _ hs (by intro z; cases z)]; exact E.sl i _ hs
      | own t d => rw [same i _ hs (by intro z; cases z)]; exact E.sl i _ hs
    ap := fun i j t1 d1 t2 d2 hij h1 h2 => by
      rw [same i _ h1 (by intro z; cases z), same j _ h2 (by intro z; cases z)]
      exact E.ap i j t1 d1 t2 d2 hij h1 h2
    hd := fun p xs hm => by
      obtain ⟨a1, a2, a3, a4, a5⟩ := E.hd p xs hm
      refine ⟨a1, a2, a3, a4, fun i t ds hs => ?_⟩
      rw [same i _ hs (by intro z; cases z)]
      exact a5 i t ds hs }
end
end TL

set_option Elab.async false
set_option linter.all false
set_option maxRecDepth 100000
set_option maxHeartbeats 2000000
/-! TL5: comprehensions, calls, defs by data. -/
namespace TL
open PySem PySem.Spec L2

section
variable {K : PySem.W.Frag} {w : TI} {uw : DTI} {g : TG} {ug : DTG} {js vs : List Nat} {tt : TT} {ut : DTT} {te : TE} {ue : DTE}
/-- the turns of a comprehension, from the list that is being made at D -/
theorem lc_turns (hg : RG K g ug js) (ht : RT K tt ut) (he : RE K te ue) (hj : ∀ j ∈ js, j ∈ vs) {c : Cf} {σ : L2.St} {G1 : Hp} {ds : List PyData} {J : It} {D : Addr} {Q : VK} {R : List PyData → List Sl → Prop} {H1 : Hp} {δ1 : List Sl}
    (E1 : EnvOk K { c with hid := (D, .lst []) :: c.hid } G1 H1 σ δ1) (hn : ∀ zs, (D, zs) ∉ c.hid) (Y : Yields K G1 J ds) (h : lcW vs ug ut ue R ds [] δ1)
    (k : ∀ acc δ' xs G' H', R acc δ' → EnvOk K { c with hid := (D, .lst xs) :: c.hid } G' H' σ δ' → Ex G1 G' → RpAll K G' xs acc → Q (.ref D) H') :
    ∃ W : Nat → Nat → Hp → Prop, (∃ m, W 0 m H1) ∧ ∀ i m H, W i m H →
      (J.stop i H ∧ Q (.ref D) H) ∨ (J.go i H ∧ ∃ Nx : Hp → Prop, (∀ H', Nx H' → ∃ m', m' < m ∧ W (i + 1) m' H') ∧ ∀ x H', J.yld i H x H' → g x (wipe σ vs) H' fun σ2 H2 => wipe σ2 vs = wipe σ vs ∧ tt σ2 H2 fun b H3 =>
        if b = true then te σ2 H3 fun y H4 => ∃ acc, H4 D = some (.lst acc) ∧ acc.length < sizeLine ∧ Nx (upd H4 D (.lst (acc ++ [y]))) else Nx H3) := by
  refine ⟨fun i m H => ∃ G δ acc xs, EnvOk K { c with hid := (D, .lst xs) :: c.hid } G H σ δ ∧ Ex G1 G ∧ RpAll K G xs acc ∧ i ≤ ds.length ∧ m = ds.length - i ∧ lcW vs ug ut ue R (ds.drop i) acc δ, ⟨ds.length, G1, δ1, [], [], E1, Ex.refl _, .nil, Nat.zero_le _, rfl, h⟩, ?_⟩
  rintro i m H ⟨G, δ, acc, xs, E, e, r, hi, rfl, h⟩
  by_cases hlt : i < ds.length
  · have hd : ds[i]? = some ds[i] := List.getElem?_eq_getElem hlt
    rw [List.drop_eq_getElem_cons hlt] at h
    obtain ⟨hgo, hy⟩ := Y.go G H i _ e E.ex hd
    refine .inr ⟨hgo, fun H' => ∃ G δ acc xs, EnvOk K { c with hid := (D, .lst xs) :: c.hid } G H' σ δ ∧ Ex G1 G ∧ RpAll K G xs acc ∧ lcW vs ug ut ue R (ds.drop (i + 1)) acc δ, fun H' ⟨G', δ', acc', xs', a1, a2, a3, a4⟩ => ⟨ds.length - (i + 1), by omega, G', δ', acc', xs', a1, a2, a3, hlt, rfl, a4⟩, fun x H2 hx => ?_⟩
    obtain ⟨G2, A, rx⟩ := hy x H2 hx
    have E2 := (E.al A).wipe vs
    refine hg _ (wipe σ vs) G2 H2 _ x _ _ _ E2 rx h fun σ3 δ3 h3 E3 l3 s3 => ?_
    rw [wipe_length] at l3
    have o3 : ∀ i, i ∉ vs → σ3[i]? = σ[i]? := fun i hi => by
      rw [s3 i fun z => hi (hj i z), wipe_get, if_neg fun z => hi z.1]
    refine ⟨wipe_eq l3 o3, ?_⟩
    have back : ∀ {cc : Cf} {G H : Hp} {δ : List Sl}, EnvOk K cc G H σ3 δ → EnvOk K cc G H σ (wipeS δ vs) := fun {cc G H δ} E => by
      have z := E.wipe vs
      rw [wipe_eq l3 o3] at z
      refine z.other (by rw [wipe_length]) fun i hi => ?_
      rw [wipe_get, if_neg fun z => hi z.1]
    refine ht _ σ3 G2 H2 δ3 _ _ E3 h3 fun b δ4 G4 H4 h4 E4 e4 => ?_
    have e14 : Ex G1 G4 := (e.trans A.g).trans e4
    cases b with
    | false => exact ⟨G4, wipeS δ4 vs, acc, xs, back E4, e14, r.up (A.g.trans e4), h4⟩
    | true =>
      refine he _ σ3 G4 H4 δ4 _ _ E4 h4 fun y δ5 v G5 H5 h5 E5 e5 r5 => ?_
      have r' : RpAll K G5 xs acc := r.up ((A.g.trans e4).trans e5)
      obtain ⟨q1, q2⟩ := E5.hd D (.lst xs) List.mem_cons_self
      refine ⟨xs, q1, by rw [r'.len]; exact h5.1, G5, wipeS δ5 vs, acc ++ [y], xs ++ [v], (back E5).grow hn, e14.trans e5, r'.app (.one r5), h5.2⟩
  · have ei : i = ds.length := by omega
    subst ei
    rw [List.drop_length] at h
    exact .inl ⟨Y.stop G H e E.ex, k acc δ xs G H h E e r⟩
theorem hid_new {c : Cf} {G H : Hp} {σ : L2.St} {δ : List Sl} (E : EnvOk K c G H σ δ) {D : Addr} (hD : H D = none) : ∀ zs, (D, zs) ∉ c.hid := fun zs z => by
  have q := (E.hd D zs z).1
  rw [hD] at q
  cases q
theorem Yields.up {G G' : Hp} {J : It} {ds : List PyData} (Y : Yields K G J ds) (e : Ex G G') : Yields K G' J ds := ⟨fun G1 H1 a b => Y.stop G1 H1 (e.trans a) b, fun G1 H1 i d a b h => Y.go G1 H1 i d (e.trans a) b h⟩
theorem re_lc (hw : RI K w uw) (hg : RG K g ug js) (ht : RT K tt ut) (he : RE K te ue) (hj : ∀ j ∈ js, j ∈ vs) : RE K (tLc w g tt te vs) (dLc uw ug ut ue vs) := by
  intro c σ G H δ Q R E h k
  refine hw c σ G H δ _ _ E h fun ds δ1 J G1 H1 h1 E1 e1 Y => ?_
  intro D hD
  have hn := hid_new E1 hD
  refine lc_turns hg ht he hj (E1.hide (ob := .lst []) hD (E1.new0 hD)) hn Y h1 fun acc δ' xs G' H' hR E' e' r' => ?_
  obtain ⟨G2, e2, rp, E2⟩ := E'.show hn r'
  exact k _ δ' _ G2 H' hR E2 ((e1.trans e').trans e2) rp
/-- what was made beside is given to a name -/
theorem EnvOk.give {c : Cf} {G H : Hp} {σ : L2.St} {δ : List Sl} {p : Addr} {xs : List V} {ds : List PyData} (E : EnvOk K { c with hid := (p, .lst xs) :: c.hid } G H σ δ) (hn : ∀ zs, (p, zs) ∉ c.hid) (r : RpAll K G xs ds) (i : Nat) :
    EnvOk K c G H (σ.set i (some (.ref p))) (δ.set i (.own none ds)) := by
  obtain ⟨a1, a2, a3, a4, a5⟩ := E.hd p (.lst xs) List.mem_cons_self
  exact {
    g0 := E.g0, ex := E.ex, fr := E.fr, fs := E.fs, tg := E.tg
    len := by rw [List.length_set, List.length_set, E.len]
    sl := fun j s h => by
      rw [List.getElem?_set] at h ⊢
      by_cases hj : i = j
      · rw [if_pos hj] at h ⊢
        by_cases hl : i < δ.length
        · rw [if_pos hl] at h
          rw [if_pos (by rw [E.len]; exact hl)]
          cases h
          exact ⟨p, xs, rfl, a2, a1, r, a3, a4⟩
        · rw [if_neg hl] at h
          cases h
      · rw [if_neg hj] at h ⊢
        have z := E.sl j s h
        cases s with
        | no => trivial
        | dat d => exact z
        | scr d => exact z
        | own t d => exact z
    ap := fun a b t1 d1 t2 d2 hab h1 h2 => by
      rw [List.getElem?_set] at h1 h2
      by_cases ha : i = a
      · have hb : ¬ i = b := fun z => hab (ha.symm.trans z)
        rw [if_neg hb] at h2
        rw [List.getElem?_set, if_pos ha, List.getElem?_set_ne hb]
        split
        · exact fun z => a5 b t2 d2 h2 z.symm
        · rw [if_pos ha] at h1
          split at h1
          · rename_i u w
            rw [E.len] at u
            exact absurd w u
          · cases h1
      · rw [if_neg ha] at h1
        rw [List.getElem?_set_ne ha]
        by_cases hb : i = b
        · rw [List.getElem?_set, if_pos hb]
          split
          · exact a5 a t1 d1 h1
          · rw [if_pos hb] at h2
            split at h2
            · rename_i u w
              rw [E.len] at u
              exact absurd w u
            · cases h2
        · rw [if_neg hb] at h2
          rw [List.getElem?_set_ne hb]
          exact E.ap a b t1 d1 t2 d2 hab h1 h2
    hd := fun q ys h => by
      obtain ⟨h1, h2, h3, h4, h5⟩ := E.hd q ys (List.mem_cons_of_mem _ h)
      have ne : q ≠ p := fun z => hn ys (by rw [← z]; exact h)
      refine ⟨h1, h2, h3, h4, fun j t es hs => ?_⟩
      rw [List.getElem?_set] at hs ⊢
      by_cases hj : i = j
      · rw [if_pos hj]
        split
        · exact fun z => ne (V.ref.inj (Option.some.inj (Option.some.inj z))).symm
        · exact fun z => nomatch z
      · rw [if_neg hj] at hs ⊢
        exact h5 j t es hs }
theorem rs_lcOwn {i : Nat} (hw : RI K w uw) (hg : RG K g ug js) (ht : RT K tt ut) (he : RE K te ue) (hj : ∀ j ∈ js, j ∈ vs) : RS K (tAsg (tLc w g tt te vs) (gName i)) (dLcOwn i uw ug ut ue vs) := by
  intro c σ G H δ D' E EV h k
  refine hw c σ G H δ _ _ EV h fun ds δ1 J G1 H1 h1 E1 e1 Y => ?_
  intro D hD
  have hn := hid_new E1 hD
  refine lc_turns (Q := fun x H1 => gName i x σ H1 D'.nx) hg ht he hj (E1.hide (ob := .lst []) hD (E1.new0 hD)) hn Y h1 fun acc δ' xs G' H' hR E' e' r' => ?_
  exact k.nx _ G' H' _ hR (E'.give hn r' i) (e1.trans e')
end
end TL

set_option Elab.async false
set_option linter.all false
set_option maxRecDepth 100000
set_option maxHeartbeats 2000000
/-! TL6: calls and defs by data. -/
namespace TL
open PySem PySem.Spec L2

/-- an argument: a datum, or a slot handed on (a list that the callee may change, or what was handed in) -/
inductive CA where
  | d (d : PyData)
  | s (i : Nat)
inductive CAs (K : PySem.W.Frag) (G : Hp) (σ : L2.St) : List V → List CA → Prop
  | nil : CAs K G σ [] []
  | d {v : V} {d : PyData} {vs : List V} {cs : List CA} : Rp K G v d → CAs K G σ vs cs → CAs K G σ (v :: vs) (.d d :: cs)
  | s {v : V} {i : Nat} {vs : List V} {cs : List CA} : σ[i]? = some (some v) → CAs K G σ vs cs → CAs K G σ (v :: vs) (.s i :: cs)
theorem CAs.up {K : PySem.W.Frag} {G G' : Hp} {σ : L2.St} (e : Ex G G') : ∀ {vs : List V} {cs : List CA}, CAs K G σ vs cs → CAs K G' σ vs cs
  | _, _, .nil => .nil
  | _, _, .d r t => .d (r.up e) (CAs.up e t)
  | _, _, .s r t => .s r (CAs.up e t)
theorem CAs.len {K : PySem.W.Frag} {G : Hp} {σ : L2.St} : ∀ {vs : List V} {cs : List CA}, CAs K G σ vs cs → vs.length = cs.length
  | _, _, .nil => rfl
  | _, _, .d r t => by rw [List.length_cons, List.length_cons, CAs.len t]
  | _, _, .s r t => by rw [List.length_cons, List.length_cons, CAs.len t]
abbrev DCA := List Sl → (List CA → List Sl → Prop) → Prop
def RCA (K : PySem.W.Frag) (t : TA) (u : DCA) : Prop := ∀ (c : Cf) (σ : L2.St) (G H : Hp) (δ : List Sl) (Q : List V → Hp → Prop) (R : List CA → List Sl → Prop), EnvOk K c G H σ δ → u δ R →
  (∀ cs δ' vs G' H', R cs δ' → EnvOk K c G' H' σ δ' → Ex G G' → CAs K G' σ vs cs → Q vs H') → t σ H Q
structure DCa (X : Cx) (es : List Expr) (t : TA) (u : DCA) : Prop where
  pa : PA X es t
  ra : RCA X.K t u
def cNil : DCA := fun δ R => R [] δ
def cD (u : DTE) (ur : DCA) : DCA := fun δ R => u δ fun d δ1 => ur δ1 fun cs δ2 => R (.d d :: cs) δ2
def isS : Option Sl → Bool
  | some (.own _ _) => true
  | some (.scr _) => true
  | _ => false
def cS (i : Nat) (ur : DCA) : DCA := fun δ R => isS δ[i]? = true ∧ ur δ fun cs δ2 => R (.s i :: cs) δ2
section
variable {K : PySem.W.Frag} {te : TE} {ue : DTE} {tr : TA} {ur : DCA}
theorem rca_nil : RCA K tNil cNil := fun c σ G H δ Q R E h k => k [] δ [] G H h E (Ex.refl _) .nil
theorem rca_d (ha : RE K te ue) (hr : RCA K tr ur) : RCA K (tCons te tr) (cD ue ur) := by
  intro c σ G H δ Q R E h k
  refine ha c σ G H δ _ _ E h fun d δ1 v1 G1 H1 h1 E1 e1 r1 => ?_
  exact hr c σ G1 H1 δ1 _ _ E1 h1 fun ds δ2 vs G2 H2 h2 E2 e2 r2 => k _ δ2 _ G2 H2 h2 E2 (e1.trans e2) (.d (r1.up e2) r2)
theorem rca_s {i : Nat} (hr : RCA K tr ur) : RCA K (tCons (tVar i) tr) (cS i ur) := by
  intro c σ G H δ Q R E h k
  obtain ⟨h0, h⟩ := h
  have val : ∃ v, σ[i]? = some (some v) := by
    cases hs : δ[i]? with
    | none =>
      rw [hs] at h0
      cases h0
    | some s =>
      rw [hs] at h0
      have z := E.sl i s hs
      cases s with
      | no => cases h0
      | dat d => cases h0
      | scr ds =>
        obtain ⟨a, xs, e, _⟩ := z
        exact ⟨_, e⟩
      | own t ds =>
        obtain ⟨a, xs, e, _⟩ := z
        exact ⟨_, e⟩
  obtain ⟨v, hv⟩ := val
  refine ⟨v, hv, ?_⟩
  exact hr c σ G H δ _ _ E h fun ds δ2 vs G2 H2 h2 E2 e2 r2 => k _ δ2 _ G2 H2 h2 E2 e2 (.s hv r2)
end
/-- the slots that the callee gets -/
def asOf (δ : List Sl) : List CA → Nat → List Sl
  | [], _ => []
  | .d d :: r, j => .dat d :: asOf δ r j
  | .s i :: r, j => match δ[i]? with
    | some (.own _ ds) => .own (some j) ds :: asOf δ r (j + 1)
    | some (.scr ds) => .scr ds :: asOf δ r j
    | _ => .no :: asOf δ r j
/-- the slots whose lists it may change -/
def muts (δ : List Sl) : List CA → List Nat
  | [] => []
  | .d _ :: r => muts δ r
  | .s i :: r => match δ[i]? with
    | some (.own _ _) => i :: muts δ r
    | _ => muts δ r
def setOut (δ : List Sl) (i : Nat) (o : List PyData) : List Sl := match δ[i]? with
  | some (.own t _) => δ.set i (.own t o)
  | _ => δ
def setOuts : List Sl → List Nat → List (List PyData) → List Sl
  | δ, i :: M, o :: os => setOuts (setOut δ i o) M os
  | δ, _, _ => δ
def addr (σ : L2.St) (i : Nat) : Addr := match σ[i]? with
  | some (some (.ref p)) => p
  | _ => 0
abbrev DSp := List Sl → (PyData → List (List PyData) → Prop) → Prop
/-- what is left behind a def -/
structure Fin (K : PySem.W.Frag) (c : Cf) (G H : Hp) (outs : List (List PyData)) : Prop where
  g0 : Ex c.G0 G
  ex : Ex G H
  fr : ∀ a o, c.H0 a = some o → (∀ j, j < c.n → a ≠ c.τ j) → H a = some o
  fs : ∀ a, c.G0 a = none → c.H0 a ≠ none → G a = none
  tg : ∀ j, j < c.n → H (c.τ j) ≠ none ∧ G (c.τ j) = none
  out : ∀ j cs, outs[j]? = some cs → ∃ xs, H (c.τ j) = some (.lst xs) ∧ RpAll K G xs cs
def spD (K : PySem.W.Frag) (S : DSp) : Sp := fun vs H Q _ => ∃ (c : Cf) (as : List Sl) (R : PyData → List (List PyData) → Prop), c.hid = [] ∧ c.H0 = H ∧ EnvOk K c c.G0 H (vs.map some) as ∧ S as R ∧
  ∀ d outs v G' H', R d outs → Fin K c G' H' outs → Rp K G' v d → Q v H'
/-- .. and a new list comes back, the asker's own -/
abbrev DSn := List Sl → (List PyData → List (List PyData) → Prop) → Prop
def spN (K : PySem.W.Frag) (S : DSn) : Sp := fun vs H Q _ => ∃ (c : Cf) (as : List Sl) (R : List PyData → List (List PyData) → Prop), c.hid = [] ∧ c.H0 = H ∧ EnvOk K c c.G0 H (vs.map some) as ∧ S as R ∧
  ∀ ds outs p xs G' H', R ds outs → Fin K c G' H' outs → H p = none → G' p = none → H' p = some (.lst xs) → RpAll K G' xs ds → Q (.ref p) H'
/-- name = f(..), a new list, to change -/
def dCallOwn (i : Nat) (S : DSn) (ua : DCA) (E : List Sl → Prop) (δ : List Sl) : Prop := ua δ fun cs δ1 => (muts δ1 cs).Nodup ∧ S (asOf δ1 cs 0) fun ds outs => outs.length = (muts δ1 cs).length ∧ E ((setOuts δ1 (muts δ1 cs) outs).set i (.own none ds))
def dCall (S : DSp) (ua : DCA) : DTE := fun δ R => ua δ fun cs δ1 => (muts δ1 cs).Nodup ∧ S (asOf δ1 cs 0) fun d outs => outs.length = (muts δ1 cs).length ∧ R d (setOuts δ1 (muts δ1 cs) outs)

/-! ### the slots handed on -/
theorem muts_own {δ : List Sl} : ∀ {cs : List CA} {i : Nat}, i ∈ muts δ cs → ∃ t ds, δ[i]? = some (.own t ds)
  | [], i, h => nomatch h
  | .d _ :: r, i, h => muts_own (cs := r) h
  | .s k :: r, i, h => by
    cases hs : δ[k]? with
    | none =>
      have h : i ∈ (match δ[k]? with
        | some (.own _ _) => k :: muts δ r
        | _ => muts δ r) := h
      rw [hs] at h
      exact muts_own (cs := r) h
    | some s =>
      have h : i ∈ (match δ[k]? with
        | some (.own _ _) => k :: muts δ r
        | _ => muts δ r) := h
      rw [hs] at h
      cases s with
      | own t ds =>
        rcases List.mem_cons.mp h with e | h
        · rw [e]
          exact ⟨t, ds, hs⟩
        · exact muts_own (cs := r) h
      | no => exact muts_own (cs := r) h
      | dat d => exact muts_own (cs := r) h
      | scr d => exact muts_own (cs := r) h
theorem asOf_own {δ : List Sl} : ∀ {cs : List CA} {j0 i : Nat} {t : Option Nat} {ds : List PyData}, (asOf δ cs j0)[i]? = some (.own t ds) → ∃ k i' t', t = some (j0 + k) ∧ (muts δ cs)[k]? = some i' ∧ δ[i']? = some (.own t' ds) ∧ cs[i]? = some (.s i')
  | [], j0, i, t, ds, h => by
    have h : ([] : List Sl)[i]? = some (.own t ds) := h
    simp at h
  | .d x :: r, j0, i, t, ds, h => by
    cases i with
    | zero =>
      have h : some (Sl.dat x) = some (.own t ds) := h
      cases h
    | succ i =>
      have h : (asOf δ r j0)[i]? = some (.own t ds) := h
      exact asOf_own (cs := r) (i := i) (j0 := j0) h
  | .s k :: r, j0, i, t, ds, h => by
    have hm : muts δ (.s k :: r) = (match δ[k]? with
        | some (.own _ _) => k :: muts δ r
        | _ => muts δ r) := rfl
    have ha : asOf δ (.s k :: r) j0 = (match δ[k]? with
        | some (.own _ ds) => .own (some j0) ds :: asOf δ r (j0 + 1)
        | some (.scr ds) => .scr ds :: asOf δ r j0
        | _ => .no :: asOf δ r j0) := rfl
    rw [ha] at h
    rw [hm]
    have rest : ∀ i, (asOf δ r j0)[i]? = some (.own t ds) → ∃ k' i' t', t = some (j0 + k') ∧ (muts δ r)[k']? = some i' ∧ δ[i']? = some (.own t' ds) ∧ (CA.s k :: r)[i + 1]? = some (.s i') := fun i h => asOf_own (cs := r) (i := i) (j0 := j0) h
    cases hs : δ[k]? with
    | none =>
      rw [hs] at h
      cases i with
      | zero => cases (show some Sl.no = some (.own t ds) from h)
      | succ i => exact rest i h
    | some s =>
      rw [hs] at h
      cases s with
      | no =>
        cases i with
        | zero => cases (show some Sl.no = some (.own t ds) from h)
        | succ i => exact rest i h
      | dat d =>
        cases i with
        | zero => cases (show some Sl.no = some (.own t ds) from h)
        | succ i => exact rest i h
      | scr d =>
        cases i with
        | zero => cases (show some (Sl.scr d) = some (.own t ds) from h)
        | succ i => exact rest i h
      | own t0 d =>
        cases i with
        | zero =>
          cases (show some (Sl.own (some j0) d) = some (.own t ds) from h)
          exact ⟨0, k, t0, rfl, rfl, hs, rfl⟩
        | succ i =>
          have h : (asOf δ r (j0 + 1))[i]? = some (.own t ds) := h
          obtain ⟨k', i', t', e, a, b, cc⟩ := asOf_own (cs := r) (i := i) (j0 := j0 + 1) h
          exact ⟨k' + 1, i', t', by rw [e]; congr 1; omega, a, b, cc⟩
theorem asOf_tag {δ : List Sl} {cs : List CA} {i i' j : Nat} {ds ds' : List PyData} (hn : (muts δ cs).Nodup) : ∀ {cs' : List CA} {j0 : Nat}, (asOf δ cs' j0)[i]? = some (.own (some j) ds) → (asOf δ cs' j0)[i']? = some (.own (some j) ds') → i = i' := by
  intro cs'
  induction cs' generalizing i i' with
  | nil =>
    intro j0 h
    simp [asOf] at h
  | cons a r ih =>
    intro j0 h h'
    have ge : ∀ {q : Nat} {es : List PyData} {j1 : Nat}, (asOf δ r j1)[q]? = some (.own (some j) es) → j1 ≤ j := fun {q es j1} h => by
      obtain ⟨k, _, _, e, _⟩ := asOf_own (cs := r) h
      have := Option.some.inj e
      omega
    cases a with
    | d x =>
      cases i with
      | zero => cases (show some (Sl.dat x) = some (.own (some j) ds) from h)
      | succ i =>
        cases i' with
        | zero => cases (show some (Sl.dat x) = some (.own (some j) ds') from h')
        | succ i' => rw [ih (i := i) (i' := i') (j0 := j0) h h']
    | s k =>
      have ha : asOf δ (.s k :: r) j0 = (match δ[k]? with
        | some (.own _ ds) => .own (some j0) ds :: asOf δ r (j0 + 1)
        | some (.scr ds) => .scr ds :: asOf δ r j0
        | _ => .no :: asOf δ r j0) := rfl
      rw [ha] at h h'
      cases hs : δ[k]? with
      | none =>
        rw [hs] at h h'
        cases i with
        | zero => cases (show some Sl.no = some (.own (some j) ds) from h)
        | succ i =>
          cases i' with
          | zero => cases (show some Sl.no = some (.own (some j) ds') from h')
          | succ i' => rw [ih (i := i) (i' := i') (j0 := j0) h h']
      | some s =>
        rw [hs] at h h'
        cases s with
        | no =>
          cases i with
          | zero => cases (show some Sl.no = some (.own (some j) ds) from h)
          | succ i =>
            cases i' with
            | zero => cases (show some Sl.no = some (.own (some j) ds') from h')
            | succ i' => rw [ih (i := i) (i' := i') (j0 := j0) h h']
        | dat d =>
          cases i with
          | zero => cases (show some Sl.no = some (.own (some j) ds) from h)
          | succ i =>
            cases i' with
            | zero => cases (show some Sl.no = some (.own (some j) ds') from h')
            | succ i' => rw [ih (i := i) (i' := i') (j0 := j0) h h']
        | scr d =>
          cases i with
          | zero => cases (show some (Sl.scr d) = some (.own (some j) ds) from h)
          | succ i =>
            cases i' with
            | zero => cases (show some (Sl.scr d) = some (.own (some j) ds') from h')
            | succ i' => rw [ih (i := i) (i' := i') (j0 := j0) h h']
        | own t0 d =>
          cases i with
          | zero =>
            cases (show some (Sl.own (some j0) d) = some (.own (some j) ds) from h)
            cases i' with
            | zero => rfl
            | succ i' =>
              have h' : (asOf δ r (j + 1))[i']? = some (.own (some j) ds') := h'
              have := ge h'
              omega
          | succ i =>
            have h : (asOf δ r (j0 + 1))[i]? = some (.own (some j) ds) := h
            cases i' with
            | zero =>
              cases (show some (Sl.own (some j0) d) = some (.own (some j) ds') from h')
              have := ge h
              omega
            | succ i' => rw [ih (i := i) (i' := i') (j0 := j0 + 1) h h']
theorem asOf_len {δ : List Sl} : ∀ (cs : List CA) (j0 : Nat), (asOf δ cs j0).length = cs.length
  | [], _ => rfl
  | .d x :: r, j0 => by
    show (asOf δ r j0).length + 1 = r.length + 1
    rw [asOf_len r]
  | .s k :: r, j0 => by
    show (match δ[k]? with
        | some (.own _ ds) => Sl.own (some j0) ds :: asOf δ r (j0 + 1)
        | some (.scr ds) => .scr ds :: asOf δ r j0
        | _ => .no :: asOf δ r j0).length = r.length + 1
    split <;> rw [List.length_cons, asOf_len r]
theorem asOf_dat {δ : List Sl} : ∀ {cs : List CA} {j0 i : Nat} {x : PyData}, (asOf δ cs j0)[i]? = some (.dat x) → cs[i]? = some (.d x)
  | [], _, i, _, h => by
    have h : ([] : List Sl)[i]? = some _ := h
    simp at h
  | .d y :: r, j0, i, x, h => by
    cases i with
    | zero =>
      cases (show some (Sl.dat y) = some (.dat x) from h)
      rfl
    | succ i => exact asOf_dat (cs := r) (j0 := j0) h
  | .s k :: r, j0, i, x, h => by
    have h : (match δ[k]? with
        | some (.own _ ds) => Sl.own (some j0) ds :: asOf δ r (j0 + 1)
        | some (.scr ds) => .scr ds :: asOf δ r j0
        | _ => .no :: asOf δ r j0)[i]? = some (.dat x) := h
    split at h
    · cases i with
      | zero => simp at h
      | succ i => exact asOf_dat (cs := r) (j0 := j0 + 1) h
    · cases i with
      | zero => simp at h
      | succ i => exact asOf_dat (cs := r) (j0 := j0) h
    · cases i with
      | zero => simp at h
      | succ i => exact asOf_dat (cs := r) (j0 := j0) h
theorem asOf_scr {δ : List Sl} : ∀ {cs : List CA} {j0 i : Nat} {x : List PyData}, (asOf δ cs j0)[i]? = some (.scr x) → ∃ k, cs[i]? = some (.s k) ∧ δ[k]? = some (.scr x)
  | [], _, i, _, h => by
    have h : ([] : List Sl)[i]? = some _ := h
    simp at h
  | .d y :: r, j0, i, x, h => by
    cases i with
    | zero => cases (show some (Sl.dat y) = some (.scr x) from h)
    | succ i => exact asOf_scr (cs := r) (j0 := j0) h
  | .s k :: r, j0, i, x, h => by
    have h : (match δ[k]? with
        | some (.own _ ds) => Sl.own (some j0) ds :: asOf δ r (j0 + 1)
        | some (.scr ds) => .scr ds :: asOf δ r j0
        | _ => .no :: asOf δ r j0)[i]? = some (.scr x) := h
    split at h
    · cases i with
      | zero => simp at h
      | succ i => exact asOf_scr (cs := r) (j0 := j0 + 1) h
    · rename_i ds hk
      cases i with
      | zero =>
        cases (show some (Sl.scr ds) = some (.scr x) from h)
        exact ⟨k, rfl, hk⟩
      | succ i => exact asOf_scr (cs := r) (j0 := j0) h
    · cases i with
      | zero => simp at h
      | succ i => exact asOf_scr (cs := r) (j0 := j0) h
theorem CAs.get_s {K : PySem.W.Frag} {G : Hp} {σ : L2.St} : ∀ {vs : List V} {cs : List CA} {i k : Nat}, CAs K G σ vs cs → cs[i]? = some (.s k) → ∃ v, vs[i]? = some v ∧ σ[k]? = some (some v)
  | _, _, _, _, .nil, h => by simp at h
  | _, _, 0, k, .d _ _, h => by simp at h
  | _, _, 0, k, .s q _, h => by
    simp at h
    subst h
    exact ⟨_, rfl, q⟩
  | _, _, i + 1, k, .d _ t, h => by
    obtain ⟨v, a, b⟩ := CAs.get_s (i := i) (k := k) t (by simpa using h)
    exact ⟨v, by simpa using a, b⟩
  | _, _, i + 1, k, .s _ t, h => by
    obtain ⟨v, a, b⟩ := CAs.get_s (i := i) (k := k) t (by simpa using h)
    exact ⟨v, by simpa using a, b⟩
theorem CAs.get_d {K : PySem.W.Frag} {G : Hp} {σ : L2.St} : ∀ {vs : List V} {cs : List CA} {i : Nat} {x : PyData}, CAs K G σ vs cs → cs[i]? = some (.d x) → ∃ v, vs[i]? = some v ∧ Rp K G v x
  | _, _, _, _, .nil, h => by simp at h
  | _, _, 0, x, .d q _, h => by
    simp at h
    subst h
    exact ⟨_, rfl, q⟩
  | _, _, 0, x, .s _ _, h => by simp at h
  | _, _, i + 1, x, .d _ t, h => by
    obtain ⟨v, a, b⟩ := CAs.get_d (i := i) (x := x) t (by simpa using h)
    exact ⟨v, by simpa using a, b⟩
  | _, _, i + 1, x, .s _ t, h => by
    obtain ⟨v, a, b⟩ := CAs.get_d (i := i) (x := x) t (by simpa using h)
    exact ⟨v, by simpa using a, b⟩
theorem setOut_len {δ : List Sl} {i : Nat} {o : List PyData} : (setOut δ i o).length = δ.length := by
  unfold setOut
  split
  · rw [List.length_set]
  · rfl
theorem setOut_get {δ : List Sl} {i k : Nat} {o : List PyData} {t : Option Nat} {ds : List PyData} (hi : δ[i]? = some (.own t ds)) : (setOut δ i o)[k]? = if i = k then some (.own t o) else δ[k]? := by
  unfold setOut
  rw [hi]
  show (δ.set i (.own t o))[k]? = _
  rw [List.getElem?_set]
  by_cases h : i = k
  · rw [if_pos h, if_pos h, if_pos (List.getElem?_eq_some_iff.mp hi).1]
  · rw [if_neg h, if_neg h]
theorem setOuts_get : ∀ {M : List Nat} {δ : List Sl} {outs : List (List PyData)} {k : Nat}, M.Nodup → outs.length = M.length → (∀ i ∈ M, ∃ t ds, δ[i]? = some (.own t ds)) →
    (setOuts δ M outs).length = δ.length ∧ (k ∉ M → (setOuts δ M outs)[k]? = δ[k]?) ∧ (∀ (j : Nat) (t : Option Nat) (ds : List PyData), M[j]? = some k → δ[k]? = some (.own t ds) → ∃ o, outs[j]? = some o ∧ (setOuts δ M outs)[k]? = some (.own t o))
  | [], δ, outs, k, _, _, _ => ⟨rfl, fun _ => rfl, fun j t ds h => by simp at h⟩
  | i :: M, δ, [], k, _, hl, _ => by simp at hl
  | i :: M, δ, o :: os, k, hn, hl, ho => by
    obtain ⟨hi, hn'⟩ := List.nodup_cons.mp hn
    obtain ⟨t0, ds0, h0⟩ := ho i List.mem_cons_self
    have ho' : ∀ q ∈ M, ∃ t ds, (setOut δ i o)[q]? = some (.own t ds) := fun q hq => by
      obtain ⟨t, ds, h⟩ := ho q (List.mem_cons_of_mem _ hq)
      rw [setOut_get h0, if_neg (fun z => hi (by rw [z]; exact hq))]
      exact ⟨t, ds, h⟩
    obtain ⟨a, b, cc⟩ := setOuts_get (M := M) (δ := setOut δ i o) (outs := os) (k := k) hn' (by simpa using hl) ho'
    show (setOuts (setOut δ i o) M os).length = δ.length ∧ _ ∧ _
    refine ⟨by rw [a, setOut_len], fun hk => ?_, fun j t ds hj hd => ?_⟩
    · show (setOuts (setOut δ i o) M os)[k]? = δ[k]?
      rw [b fun z => hk (List.mem_cons_of_mem _ z), setOut_get h0, if_neg fun z => hk (by rw [z]; exact List.mem_cons_self)]
    · show ∃ o', (o :: os)[j]? = some o' ∧ (setOuts (setOut δ i o) M os)[k]? = some (.own t o')
      cases j with
      | zero =>
        have e : i = k := by simpa using hj
        subst e
        rw [h0] at hd
        cases hd
        refine ⟨o, rfl, ?_⟩
        rw [b hi, setOut_get h0, if_pos rfl]
      | succ j =>
        have hj' : M[j]? = some k := by simpa using hj
        have ne : ¬ i = k := fun z => hi (by rw [z]; exact List.mem_of_getElem? hj')
        obtain ⟨o', q1, q2⟩ := cc j t ds hj' (by rw [setOut_get h0, if_neg ne]; exact hd)
        exact ⟨o', by simpa using q1, q2⟩
end TL

set_option Elab.async false
set_option linter.all false
set_option maxRecDepth 100000
set_option maxHeartbeats 2000000
/-! TLg: defs that run where nothing is being shown by repr (so that repr tells one text for one datum). -/
namespace TL
open PySem PySem.Spec PyProof.Rows L2

/-- room, and no repr under way -/
structure RoomG (k : Nat) (A : Around) : Prop where
  room : Room k A
  gd : A.guards = some []
theorem RoomG.mono {j k : Nat} {A : Around} (r : RoomG k A) (h : j ≤ k) : RoomG j A := ⟨r.room.mono h, r.gd⟩
theorem RoomG.deeper {k : Nat} {A : Around} (r : RoomG (k + 1) A) (env : Env) : RoomG k (A.deeper env) := ⟨r.room.deeper env, r.gd⟩
theorem RoomG.un {k : Nat} {A : Around} (r : RoomG k A) : A.units + 16 * k + 200 < cLine := r.room.un
theorem RoomG.units {k : Nat} {A : Around} (r : RoomG k A) : A.units + 64 < cLine := by
  have := r.un
  omega
theorem RoomG.units1 {k : Nat} {A : Around} (r : RoomG k A) : A.units + 65 < cLine := by
  have := r.un
  omega
structure FnOkG (P : Program) (w : World) (K : PySem.W.Frag) (mg : Str → Option Value) (base : Heap) (CX : CXT) (k : Nat) (f : Addr) (fd : FuncData) (ps : List Str) (sp : Sp) : Prop where
  len : ∀ vs H Q E, sp vs H Q E → vs.length = ps.length
  run : ∀ (B : Around) (out : List Env) (t : Shared) (H : Hp) (as : Args) (us : List Value) (vs : List V) (Q : VK) (E : XK), RoomG k B → Env0 P w K mg base B out t H → BindsTo t fd as (ps.zip us) → Vals vs us → sp vs H Q E →
    codeAny (model P w) B (.call (.ref f) as) (CR CX out P w H t Q E) t
section
variable {P : Program} {w : World} {K : PySem.W.Frag} {mg : Str → Option Value} {base : Heap} {CX : CXT} {j k : Nat} {f : Addr} {fd : FuncData} {ps : List Str} {sp sp' : Sp}
theorem FnOkG.mono (F : FnOkG P w K mg base CX j f fd ps sp) (h : j ≤ k) : FnOkG P w K mg base CX k f fd ps sp := ⟨F.len, fun B o t H as us vs Q E r => F.run B o t H as us vs Q E (r.mono h)⟩
theorem FnOkG.imp (F : FnOkG P w K mg base CX k f fd ps sp) (h : ∀ vs H Q E, sp' vs H Q E → sp vs H Q E) : FnOkG P w K mg base CX k f fd ps sp' :=
  ⟨fun vs H Q E q => F.len vs H Q E (h _ _ _ _ q), fun B o t H as us vs Q E r e b v q => F.run B o t H as us vs Q E r e b v (h _ _ _ _ q)⟩
end
section
variable {X : Cx} {CX : CXT} {k : Nat} {f : Addr} {fd : FuncData} {ps ks : List Str} {sp : Sp} {dvs : List V} {ds : List Value} {E : XK} {x : Str} {p pos : Pos} {e : Expr} {es : List Expr} {kws : List Keyword} {t tk : TA}
/-- the callee runs -/
theorem run_fnG {pins : List (Addr × Obj)} {σ : L2.St} {H : Hp} {z : Shared} {Q : VK} {us : List Value} {vs : List V} (F : FnOkG X.prog X.w X.K X.mg X.base CX k f fd ps sp) (hr : RoomG k X.A) (hb : Binds X.K fd ps ds) (hd : Vals dvs ds) (hx : Passes CX X E)
    (I : Inv X pins σ H z) (r : Vals vs us) (h : sp (vs ++ dvs) H Q E) : wpAny (model X.prog X.w) X.A (call (.ref f) us) (EP X pins σ Q) X.xe z := by
  have rr := r.append hd
  have len := rr.length.symm.trans (F.len _ _ _ _ h)
  refine wpAny_call (codeAny_mono (F.run X.A X.stack z H _ _ _ Q E hr I.env0 (hb z us I.kIn len) rr h) ?_)
  rintro (er | fl) z' hq
  · exact hx pins σ H z er z' I hq
  · cases fl <;> first
      | exact I.after hq
      | exact False.elim hq
theorem run_fnkG {g : List Value → List Value → List Value} {gV : List V → List V → List V} {pins : List (Addr × Obj)} {σ : L2.St} {H : Hp} {z : Shared} {Q : VK} {us ws : List Value} {vs zs : List V} (F : FnOkG X.prog X.w X.K X.mg X.base CX k f fd ps sp) (hr : RoomG k X.A)
    (hb : KBinds X.K fd ps ks g gV) (hx : Passes CX X E) (I : Inv X pins σ H z) (r : Vals vs us) (rz : Vals zs ws) (h : sp (gV vs zs) H Q E) : wpAny (model X.prog X.w) X.A (call (.ref f) us (ks.zip ws)) (EP X pins σ Q) X.xe z := by
  have rr := hb.rel r rz
  have len := rr.length.symm.trans (F.len _ _ _ _ h)
  refine wpAny_call (codeAny_mono (F.run X.A X.stack z H _ _ _ Q E hr I.env0 (hb.to z us ws I.kIn len) rr h) ?_)
  rintro (er | fl) z' hq
  · exact hx pins σ H z er z' I hq
  · cases fl <;> first
      | exact I.after hq
      | exact False.elim hq
theorem pe_callG (F : FnOkG X.prog X.w X.K X.mg X.base CX k f fd ps sp) (hr : RoomG k X.A) (hg : Gl X x) (hm : X.mg x = some (.ref f)) (hk : PySem.W.keepIn X.K (.ref f) = true) (hb : Binds X.K fd ps ds) (hd : Vals dvs ds) (hx : Passes CX X E) (ha : PA X (e :: es) t)
    (hdb : (x == ("__debug__" : Str)) = false := by decide) (he : starEach (e :: es) X.env = (false, eval e X.env) :: starEach es X.env := by rfl) (hpl : (backTo pos (starEach es X.env)).any (·.1) = false := by rfl) : PE X (.Call (.Name x p) (e :: es) [] pos) (tCall sp dvs E t) := by
  constructor
  intro pins z σ H Q I h
  refine wpAny_Call_Name_kw (ld_glob I hg hm ?_ hdb)
  exact PySem.W.callWith_K (h₀ := X.base) I.ok.mod.kin hk (thn (ha.run pos pins z σ H _ I h) fun us z1 ⟨vs, H1, I1, r, q⟩ => ⟨I1.kIn, run_fnG F hr hb hd hx I1 r q⟩) he hpl
theorem pe_callG0 (F : FnOkG X.prog X.w X.K X.mg X.base CX k f fd ps sp) (hr : RoomG k X.A) (hg : Gl X x) (hm : X.mg x = some (.ref f)) (hk : PySem.W.keepIn X.K (.ref f) = true) (hb : Binds X.K fd ps ds) (hd : Vals dvs ds) (hx : Passes CX X E)
    (hdb : (x == ("__debug__" : Str)) = false := by decide) : PE X (.Call (.Name x p) [] [] pos) (tCall sp dvs E tNil) := by
  constructor
  intro pins z σ H Q I h
  exact wpAny_Call_Name_kw (ld_glob I hg hm (PySem.W.callWith_K0 I.kIn hk (run_fnG (us := []) F hr hb hd hx I .nil h)) hdb)
end
section
variable {P : Program} {w : World} {K : PySem.W.Frag} {mg : Str → Option Value} {base : Heap} {CX : CXT}
/-- a def by its body -/
theorem fn_ofG {k : Nat} {f : Addr} {name qual : Str} {params : Arguments} {body : List Stmt} {scope : Scope} {dV kV doc pm cdv ct oc : Value} {an od : Option Addr} {osl : Array (Option Value)} {N ps : List Str} {sp : Sp}
    (lk : K.lookup f = some ⟨oc, od, .func (PySem.W.fnOf name qual params body scope dV kV doc pm an cdv ct), osl⟩) (hcd : PySem.W.codeIn K cdv qual = true) (S : FnScope N ps scope) (len : ∀ vs H Q E, sp vs H Q E → vs.length = ps.length)
    (hbody : ∀ (B : Around) (out : List Env) (z : Shared) (H : Hp) (vs : List V) (Q : VK) (E : XK), RoomG k (B.deeper (envOfC qual scope z.heap.objs.size f cdv)) → sp vs H Q E →
      ∃ t, PSs (cxOf CX P w K mg base N qual scope f cdv B out z H E) body t ∧ t { nx := fun _ H' => Q .non H', rt := Q } (start N vs) H) : FnOkG P w K mg base CX (k + 1) f (PySem.W.fnOf name qual params body scope dV kV doc pm an cdv ct) ps sp := by
  constructor
  · exact len
  intro B out z H as us vs Q E hr e0 hb r hsp
  have KZ := e0.mod.kin.keeps fun b o e => (e0.bs b o e).1
  have room := hr.deeper (envOfC qual scope z.heap.objs.size f cdv)
  obtain ⟨t, ht, hq⟩ := hbody B out z H vs Q E room hsp
  have kinds : ∀ y ∈ ps.zip us, scope.names.lookup y.1 = some .local ∨ (scope.names.lookup y.1 = some .cell ∧ ((cellsFrom (z.heap.objs.size + 1) scope.names []).lookup y.1).isSome = true) := by
    rintro ⟨n, v⟩ hy
    cases S.par n (List.of_mem_zip hy).1 with
    | inl q => exact Or.inl q
    | inr q => exact Or.inr ⟨q, PySem.W.cellsFrom_some _ _ _ (Or.inl q)⟩
  refine codeAny_call_function hr.room.depth (KZ _ _ lk) rfl S.co S.gen rfl (PySem.W.codeRec_of KZ hcd) (hb _ _ _ _ (wpAny_newFunctionEnv_cells S.kind kinds ?_))
  rintro env rfl z1 x
  have lim := (e0.mod.nolimit.keeps fun b o e => (e0.bs b o e).1).keeps x.toInCall.keep
  refine ⟨lim, codeAny_func ?_⟩
  have I := inv_start (CX := CX) (E := E) S hr.room.hd e0 (len _ _ _ _ hsp) r x
  refine wpAny_mono (ht.run [] z1 (start N vs) H _ I hq) ?_ (fun e s' hs => hs)
  intro fl z2 hs
  cases fl with
  | ret u =>
    obtain ⟨v, σ', H', J, rv, q⟩ := hs
    exact ⟨v, H', J.os, J.bare, J.base, J.hok, rv, q⟩
  | next =>
    obtain ⟨σ', H', J, q⟩ := hs
    exact ⟨V.non, H', J.os, J.bare, J.base, J.hok, rfl, q⟩
  | brk =>
    obtain ⟨_, _, _, q⟩ := hs
    cases q
  | cont =>
    obtain ⟨_, _, _, q⟩ := hs
    cases q
theorem fun_okG {x qual : Str} {st : Stmt} {f : Addr} {fd : FuncData} {N ps : List Str} {k : Nat} {sp : Sp} (F : Fun K x qual st f fd) (S : FnScope N ps (defScope st)) (len : ∀ vs H Q E, sp vs H Q E → vs.length = ps.length)
    (hbody : ∀ (cdv : Value) (B : Around) (out : List Env) (z : Shared) (H : Hp) (vs : List V) (Q : VK) (E : XK), RoomG k (B.deeper (envOfC qual (defScope st) z.heap.objs.size f cdv)) → sp vs H Q E →
      ∃ t, PSs (cxOf CX P w K mg base N qual (defScope st) f cdv B out z H E) (defBody st) t ∧ t { nx := fun _ H' => Q .non H', rt := Q } (start N vs) H) : FnOkG P w K mg base CX (k + 1) f fd ps sp := by
  obtain ⟨oc, od, kV, doc, pm, an, cdv, ct, osl, e, lk, hcd⟩ := F.ex
  subst e
  exact fn_ofG lk hcd S len (hbody cdv)

/-! ### the law's call -/
/-- nothing but the script is tracked -/
theorem law_at {fa a : Addr} {fd : FuncData} {x : Str} {k : Nat} {sp : Sp} {z : Shared} {us : List Value} {ns : List Int} {mb : Str → Option Value} (KX : K.In z.heap) (hns : z.heap.Ns mainGlobals mg) (hb : z.heap.Ns builtinsNs mb) (hbb : ∀ x : Str, x ≠ "__name__" → mb x = bootBuiltins x) (hlim : z.heap.NoLimit) (hg : z.gens = #[])
    (ha : z.heap.get? a = some { cls := .type "list", data := .seq us.toArray }) (hr : RoomG k callerA) (F : ∀ base : Heap, K.In base → base.Ns mainGlobals mg → FnOkG P w K mg base CX0 k fa fd [x] sp) (hbind : ∀ (s : Shared) (u : Value), BindsTo s fd ⟨[u], []⟩ [(x, u)])
    (H : Hp) (hO : Only H) (hok : HOk P w H z.heap) (hA : ∀ b, H b ≠ none → b = a ∧ K.lookup a = none) (hsp : sp [.ref a] H (fun v _ => v = .bl true) fun _ _ _ => False) :
    codeAny (model P w) callerA (.call (.ref fa) ⟨[.ref a], []⟩) (fun r s' => r = .ok (.ret (.bool true)) ∧ OldK z.heap s'.heap ∧ s'.os = z.os ∧ AllBare s'.gens) z := by
  have dict0 : ∀ {b : Addr} {o : Obj} {es : Array DictEntry} {ep : Nat}, z.heap.get? b = some o → o.data = .dict es ep → H b = none := by
    intro b o es ep e d
    by_cases q : H b = none
    · exact q
    · have eb := (hA b q).1
      rw [eb, ha] at e
      cases e
      cases (show Data.seq us.toArray _ = Data.dict es ep from d)
  have ns0 : ∀ {b : Addr} {m : Str → Option Value}, z.heap.Ns b m → (hidT z.heap H).Ns b m := by
    rintro b m ⟨o, es, ep, e, d, r⟩
    exact ⟨o, es, ep, hidT_get e (dict0 e d), d, r⟩
  have K0 : K.In (hidT z.heap H) := by
    intro b o e
    refine hidT_get (KX b o e) ?_
    by_cases q : H b = none
    · exact q
    · obtain ⟨eb, hk⟩ := hA b q
      rw [eb, hk] at e
      cases e
  obtain ⟨mc, l1, l2⟩ := hlim
  have M0 : Mod K mg (hidT z.heap H) := { kin := K0, glob := ns0 hns, blt := ⟨mb, ns0 hb, hbb⟩, nolimit := ⟨mc, ns0 l1, l2⟩ }
  have E0' : Env0 P w K mg (hidT z.heap H) callerA [] z H := { frames := rfl, mod := M0, bs := fun b o e => of_hidT e, bsz := Nat.le_of_eq (hidT_size _ _), funs := trivial, frf := (fun b hb => nomatch (show b ∈ ([] : List Addr) from hb)), hok := hok, bare := .of_eq hg }
  refine codeAny_mono ((F _ K0 (ns0 hns)).run callerA [] z H _ [.ref a] [.ref a] _ _ hr E0' (hbind z (.ref a)) (.cons rfl .nil) hsp) ?_
  rintro (er | fl) s' h
  · exact False.elim h
  cases fl <;> first
    | exact False.elim h
    | skip
  rename_i u
  obtain ⟨v, H', os, bare, un, hok', r', q⟩ := h
  have q : v = .bl true := q
  subst q
  have r' : u = Value.bool true := r'
  subst r'
  refine ⟨rfl, OldK.of_keep ?_, os, bare⟩
  intro b o e
  rcases hO b with q | ⟨ob, xs, q⟩
  · exact un.keep b o e q (fun m => nomatch (show b ∈ ([] : List Addr) from m)) (fun m => nomatch m)
  · obtain ⟨e1, _⟩ := hok b _ q
    obtain ⟨e2, _⟩ := hok' b _ (un.frzs b ob _ q)
    rw [e] at e1
    cases e1
    exact e2
theorem law_callG {fa a : Addr} {fd : FuncData} {x : Str} {k : Nat} {sp : Sp} {z : Shared} {us : List Value} {ns : List Int} {mb : Str → Option Value} (KX : K.In z.heap) (hns : z.heap.Ns mainGlobals mg) (hb : z.heap.Ns builtinsNs mb) (hbb : ∀ x : Str, x ≠ "__name__" → mb x = bootBuiltins x) (hlim : z.heap.NoLimit) (hg : z.gens = #[])
    (ha : z.heap.get? a = some { cls := .type "list", data := .seq us.toArray }) (hi : IntsAre us ns) (hl : ns.length ≤ sizeLine) (hr : RoomG k callerA) (F : ∀ base : Heap, K.In base → base.Ns mainGlobals mg → FnOkG P w K mg base CX0 k fa fd [x] sp) (hbind : ∀ (s : Shared) (u : Value), BindsTo s fd ⟨[u], []⟩ [(x, u)])
    (hsp : ∀ H : Hp, Only H → SqL K H a (ns.map V.int) → sp [.ref a] H (fun v _ => v = .bl true) fun _ _ _ => False) :
    codeAny (model P w) callerA (.call (.ref fa) ⟨[.ref a], []⟩) (fun r s' => r = .ok (.ret (.bool true)) ∧ OldK z.heap s'.heap ∧ s'.os = z.os ∧ AllBare s'.gens) z := by
  have rv := vals_ints hi
  have at_ := fun H hO hok hA hS => law_at (ns := ns) KX hns hb hbb hlim hg ha hr F hbind H hO hok hA (hsp H hO hS)
  cases hk : K.lookup a with
  | some o =>
    have e := KX a o hk
    rw [ha] at e
    cases e
    refine at_ (fun _ => none) (fun _ => .inl rfl) (fun b u q => nomatch (show (none : Option HO) = some u from q)) (fun b q => absurd rfl q) ?_
    exact .inr ⟨_, us.toArray, _, hk, rfl, rfl, rfl, by rw [List.size_toArray, hi.length]; exact hl, by simpa using rv⟩
  | none =>
    have on : ∀ {b : Addr} {u : HO}, (fun b => if b = a then some (HO.frz { cls := .type "list", data := .seq us.toArray } (.lst (ns.map V.int))) else none) b = some u → b = a ∧ u = .frz { cls := .type "list", data := .seq us.toArray } (.lst (ns.map V.int)) := by
      intro b u q
      by_cases h : b = a
      · exact ⟨h, (Option.some.inj ((if_pos h).symm.trans q)).symm⟩
      · cases (if_neg h).symm.trans q
    refine at_ (fun b => if b = a then some (.frz { cls := .type "list", data := .seq us.toArray } (.lst (ns.map V.int))) else none) (fun b => ?_) (fun b u q => ?_) (fun b q => ?_) (.inl (.inr ⟨_, if_pos rfl⟩))
    · by_cases h : b = a
      · exact .inr ⟨_, _, if_pos h⟩
      · exact .inl (if_neg h)
    · obtain ⟨rfl, rfl⟩ := on q
      exact ⟨ha, by rw [List.length_map]; exact hl, us, _, rv, ha⟩
    · by_cases h : b = a
      · exact ⟨h, hk⟩
      · exact absurd (if_neg h) q
theorem walk_ofG {l : PySem.W.OpenLaw} {n k : Nat} {q : Program} {loose : List Str} {XP : (Str → Option Value) → Heap → Prop} {YP : World → Heap → Prop} {d : DefRec} {K : Params → PySem.W.Frag} {sp : World → Sp} {x : Str}
    (hn : l.most = some n) (hn2 : n ≤ sizeLine) (hdf : d.params.defaults = []) (hr : Room k callerA) (hY : ∀ (w : World) (h : Heap), YP w h → (K w.params).In h)
    (F : ∀ (w : World) (mg : Str → Option Value) (fa : Addr) (h : Heap), (K w.params).In h → h.Ns mainGlobals mg → mg d.name = some (.ref fa) →
      ∃ fd : FuncData, (∀ (s : Shared) (u : Value), BindsTo s fd ⟨[u], []⟩ [(x, u)]) ∧ ∀ base : Heap, (K w.params).In base → base.Ns mainGlobals mg → FnOkG l.prog w (K w.params) mg base CX0 k fa fd [x] (sp w))
    (hsp : ∀ (w : World) (H : Hp) (a : Addr) (ns : List Int), ns.length ≤ n → Only H → SqL (K w.params) H a (ns.map V.int) → sp w [.ref a] H (fun v _ => v = .bl true) fun _ _ _ => False) :
    PySem.W.WalkO q loose XP YP l.row.toRowW d [] (fun f vs => PySem.call f vs) := by
  refine Att.attach_call hn hdf ?_
  intro w s0 z mg mb fa o pm cd doc a us ns G Y ho hd hcd hmg hobj hints hlen hg
  have KX := hY w _ Y
  obtain ⟨fd, hb, hF⟩ := F w mg fa _ KX G.T.g hmg
  exact law_callG KX G.T.g G.T.b G.T.builtins G.T.nolimit hg hobj hints (Nat.le_trans hlen hn2) ⟨hr, rfl⟩ hF hb fun H hO hS => hsp w H a ns hlen hO hS
end
end TL

set_option Elab.async false
set_option linter.all false
set_option maxRecDepth 100000
set_option maxHeartbeats 2000000
/-! TL7: calls and defs by data, the rules. -/
namespace TL
open PySem PySem.Spec L2

theorem map_some_get {vs : List V} {i : Nat} {v : V} (h : vs[i]? = some v) : (vs.map some)[i]? = some (some v) := by
  rw [List.getElem?_map, h]
  rfl
theorem addr_of {σ : L2.St} {i : Nat} {p : Addr} (h : σ[i]? = some (some (.ref p))) : addr σ i = p := by
  unfold addr
  rw [h]
theorem getD_of {M : List Nat} {j i : Nat} (h : M[j]? = some i) : M.getD j 0 = i := by
  rw [List.getD_eq_getElem?_getD, h]
  rfl
section
variable {K : PySem.W.Frag} {c : Cf} {G H G' H' : Hp} {σ : L2.St} {δ : List Sl} {cs : List CA} {vs : List V} {outs : List (List PyData)}
abbrev calleeC (σ : L2.St) (M : List Nat) (G H : Hp) : Cf := ⟨fun j => addr σ (M.getD j 0), M.length, G, H, []⟩
/-- the list in a slot handed on -/
theorem mut_at (E : EnvOk K c G H σ δ) {j : Nat} (hj : j < (muts δ cs).length) : ∃ i t ds p xs, (muts δ cs)[j]? = some i ∧ δ[i]? = some (.own t ds) ∧ σ[i]? = some (some (.ref p)) ∧ G p = none ∧ H p = some (.lst xs) ∧ RpAll K G xs ds ∧ addr σ ((muts δ cs).getD j 0) = p ∧
    (match t with
        | some j => j < c.n ∧ p = c.τ j
        | none => c.H0 p = none ∧ ∀ j, j < c.n → p ≠ c.τ j) := by
  have hi : (muts δ cs)[j]? = some (muts δ cs)[j] := List.getElem?_eq_getElem hj
  obtain ⟨t, ds, h⟩ := muts_own (List.mem_of_getElem? hi)
  obtain ⟨p, xs, e, g, hh, r, q⟩ := E.sl _ _ h
  exact ⟨_, t, ds, p, xs, hi, h, e, g, hh, r, by rw [getD_of hi]; exact addr_of e, q⟩
theorem callee_env (E : EnvOk K c G H σ δ) (r : CAs K G σ vs cs) (hn : (muts δ cs).Nodup) : EnvOk K (calleeC σ (muts δ cs) G H) G H (vs.map some) (asOf δ cs 0) where
  g0 := Ex.refl _
  ex := E.ex
  fr := fun a o h _ => h
  fs := fun a h _ => h
  tg := fun j hj => by
    obtain ⟨i, t, ds, p, xs, _, _, _, g, hh, _, ea, _⟩ := mut_at E hj
    show H (addr σ ((muts δ cs).getD j 0)) ≠ none ∧ G (addr σ ((muts δ cs).getD j 0)) = none
    rw [ea, hh]
    exact ⟨(by intro z; cases z), g⟩
  len := by rw [List.length_map, r.len, asOf_len]
  sl := fun i s h => by
    cases s with
    | no => trivial
    | dat x =>
      obtain ⟨v, hv, rv⟩ := r.get_d (asOf_dat h)
      exact ⟨v, map_some_get hv, rv⟩
    | scr x =>
      obtain ⟨k, h1, h2⟩ := asOf_scr h
      obtain ⟨v, hv, hσ⟩ := r.get_s h1
      obtain ⟨a, xs, e, q, rr⟩ := E.sl k _ h2
      rw [hσ] at e
      have ev := Option.some.inj (Option.some.inj e)
      subst ev
      exact ⟨a, xs, map_some_get hv, q, rr⟩
    | own t ds =>
      obtain ⟨k, i', t', et, hM, hδ, hc⟩ := asOf_own h
      obtain ⟨v, hv, hσ⟩ := r.get_s hc
      obtain ⟨p, xs, e, g, hh, rr, _⟩ := E.sl i' _ hδ
      rw [hσ] at e
      have ev := Option.some.inj (Option.some.inj e)
      subst ev
      refine ⟨p, xs, map_some_get hv, g, hh, rr, ?_⟩
      rw [et, Nat.zero_add]
      refine ⟨(List.getElem?_eq_some_iff.mp hM).1, ?_⟩
      show p = addr σ ((muts δ cs).getD k 0)
      rw [getD_of hM, addr_of hσ]
  ap := fun i j t1 d1 t2 d2 hij h1 h2 => by
    obtain ⟨k1, i1, t1', e1, hM1, hδ1, hc1⟩ := asOf_own h1
    obtain ⟨k2, i2, t2', e2, hM2, hδ2, hc2⟩ := asOf_own h2
    obtain ⟨v1, hv1, hσ1⟩ := r.get_s hc1
    obtain ⟨v2, hv2, hσ2⟩ := r.get_s hc2
    rw [map_some_get hv1, map_some_get hv2]
    intro z
    have ev := Option.some.inj (Option.some.inj z)
    by_cases hk : k1 = k2
    · subst hk
      rw [e1] at h1
      rw [e2] at h2
      exact hij (asOf_tag hn h1 h2)
    · have ne : i1 ≠ i2 := fun q => hk (nd_ix hn hM1 (by rw [q]; exact hM2))
      exact E.ap i1 i2 _ _ _ _ ne hδ1 hδ2 (by rw [hσ1, hσ2, ev])
  hd := fun p xs h => nomatch h
theorem caller_back (E : EnvOk K c G H σ δ) (hn : (muts δ cs).Nodup) (hl : outs.length = (muts δ cs).length) (F : Fin K (calleeC σ (muts δ cs) G H) G' H' outs) : EnvOk K c G' H' σ (setOuts δ (muts δ cs) outs) := by
  have so := fun k => setOuts_get (M := muts δ cs) (δ := δ) (outs := outs) (k := k) hn hl fun i hi => muts_own hi
  -- what is no callee's own list stays
  have far : ∀ a, (∀ (i : Nat) (t : Option Nat) (ds : List PyData), i ∈ muts δ cs → δ[i]? = some (.own t ds) → σ[i]? ≠ some (some (.ref a))) → ∀ o, H a = some o → H' a = some o := fun a ha o h => by
    refine F.fr a o h fun j hj z => ?_
    obtain ⟨i, t, ds, p, xs, hi, hd, hσ, _, _, _, ea, _⟩ := mut_at E hj
    have z : a = addr σ ((muts δ cs).getD j 0) := z
    rw [ea] at z
    exact ha i t ds (List.mem_of_getElem? hi) hd (by rw [hσ, z])
  have gno : ∀ a, G a = none → H a ≠ none → G' a = none := F.fs
  have back : ∀ (k : Nat) (t : Option Nat) (ds : List PyData), (setOuts δ (muts δ cs) outs)[k]? = some (.own t ds) → ∃ ds', δ[k]? = some (.own t ds') := fun k t ds h => by
    by_cases hk : k ∈ muts δ cs
    · obtain ⟨j, hj, e⟩ := List.mem_iff_getElem.mp hk
      obtain ⟨t', ds', hd⟩ := muts_own hk
      obtain ⟨o, _, q⟩ := (so k).2.2 j t' ds' (by rw [List.getElem?_eq_getElem hj, e]) hd
      rw [h] at q
      cases q
      exact ⟨ds', hd⟩
    · rw [(so k).2.1 hk] at h
      exact ⟨ds, h⟩
  have tagH : ∀ j, j < c.n → H' (c.τ j) ≠ none := fun j hj => by
    by_cases hk : ∃ j', j' < (muts δ cs).length ∧ c.τ j = addr σ ((muts δ cs).getD j' 0)
    · obtain ⟨j', hj', e⟩ := hk
      rw [e]
      exact (F.tg j' hj').1
    · cases q : H (c.τ j) with
      | none => exact absurd q (E.tg j hj).1
      | some o =>
        rw [F.fr _ o q fun j' hj' z => hk ⟨j', hj', z⟩]
        exact fun z => nomatch z
  exact {
    g0 := E.g0.trans F.g0
    ex := F.ex
    fr := fun a o h k => by
      refine far a (fun i t ds _ hd hσ => ?_) o (E.fr a o h k)
      obtain ⟨p, xs, e, _, _, _, q⟩ := E.sl i _ hd
      rw [hσ] at e
      have ev := V.ref.inj (Option.some.inj (Option.some.inj e))
      subst ev
      cases t with
      | none =>
        rw [q.1] at h
        cases h
      | some j => exact k j q.1 q.2
    fs := fun a h1 h2 => by
      by_cases ht : ∃ j, j < c.n ∧ a = c.τ j
      · obtain ⟨j, hj, rfl⟩ := ht
        exact gno _ (E.tg j hj).2 (E.tg j hj).1
      · refine gno a (E.fs a h1 h2) ?_
        cases q : c.H0 a with
        | none => exact absurd q h2
        | some o =>
          rw [E.fr a o q fun j hj z => ht ⟨j, hj, z⟩]
          exact fun z => nomatch z
    tg := fun j hj => ⟨tagH j hj, gno _ (E.tg j hj).2 (E.tg j hj).1⟩
    len := by rw [E.len, (so 0).1]
    sl := fun k s h => by
      by_cases hk : k ∈ muts δ cs
      · obtain ⟨j, hj, e⟩ := List.mem_iff_getElem.mp hk
        have hj' : (muts δ cs)[j]? = some k := by rw [List.getElem?_eq_getElem hj, e]
        obtain ⟨i, t, ds, p, xs, hi, hd, hσ, g, hh, _, ea, q⟩ := mut_at E hj
        rw [hj'] at hi
        cases hi
        obtain ⟨o, ho, so'⟩ := (so k).2.2 j t ds hj' hd
        rw [h] at so'
        cases so'
        obtain ⟨ys, f1, f2⟩ := F.out j o ho
        have f1 : H' (addr σ ((muts δ cs).getD j 0)) = some (.lst ys) := f1
        rw [ea] at f1
        exact ⟨p, ys, hσ, gno p g (by rw [hh]; exact fun z => nomatch z), f1, f2, q⟩
      · rw [(so k).2.1 hk] at h
        have z := E.sl k s h
        cases s with
        | no => trivial
        | dat d =>
          obtain ⟨x, e, r⟩ := z
          exact ⟨x, e, r.up F.g0⟩
        | scr d =>
          obtain ⟨a, xs, e, q, r⟩ := z
          exact ⟨a, xs, e, ex_l F.g0 q, r.up F.g0⟩
        | own t ds =>
          obtain ⟨p, xs, e, g, hh, r, q⟩ := z
          refine ⟨p, xs, e, gno p g (by rw [hh]; exact fun z => nomatch z), far p (fun i t' ds' hi hd hσ => ?_) _ hh, r.up F.g0, q⟩
          exact E.ap k i _ _ _ _ (fun z => hk (by rw [z]; exact hi)) h hd (by rw [e, hσ])
    ap := fun i j t1 d1 t2 d2 hij h1 h2 => by
      obtain ⟨e1, b1⟩ := back i t1 d1 h1
      obtain ⟨e2, b2⟩ := back j t2 d2 h2
      exact E.ap i j _ _ _ _ hij b1 b2
    hd := fun p xs hm => by
      obtain ⟨a1, a2, a3, a4, a5⟩ := E.hd p xs hm
      refine ⟨far p (fun i t ds _ hd => a5 i t ds hd) _ a1, gno p a2 (by rw [a1]; exact fun z => nomatch z), a3, a4, fun i t ds hs => ?_⟩
      obtain ⟨ds', b⟩ := back i t ds hs
      exact a5 i t ds' b }
theorem re_call {S : DSp} {t : TA} {ua : DCA} (ha : RCA K t ua) : RE K (tCall (spD K S) [] E0 t) (dCall S ua) := by
  intro c σ G H δ Q R E h k
  refine ha c σ G H δ _ _ E h fun cs δ1 vs G1 H1 h1 E1 e1 r1 => ?_
  obtain ⟨hn, hS⟩ := h1
  show spD K S (vs ++ []) H1 Q E0
  rw [List.append_nil]
  refine ⟨calleeC σ (muts δ1 cs) G1 H1, asOf δ1 cs 0, _, rfl, rfl, callee_env E1 r1 hn, hS, fun d outs v G' H' hR F rv => ?_⟩
  exact k d _ v G' H' hR.2 (caller_back E1 hn hR.1 F) (e1.trans F.g0) rv
theorem rs_callOwn {S : DSn} {t : TA} {ua : DCA} {i : Nat} (ha : RCA K t ua) : RS K (tAsg (tCall (spN K S) [] E0 t) (gName i)) (fun E δ => dCallOwn i S ua E.nx δ) := by
  intro c σ G H δ D E EV h k
  refine ha c σ G H δ _ _ EV h fun cs δ1 vs G1 H1 h1 E1 e1 r1 => ?_
  obtain ⟨hn, hS⟩ := h1
  show spN K S (vs ++ []) H1 _ E0
  rw [List.append_nil]
  refine ⟨calleeC σ (muts δ1 cs) G1 H1, asOf δ1 cs 0, _, rfl, rfl, callee_env E1 r1 hn, hS, fun ds outs p xs G' H' hR F hp gp hh rr => ?_⟩
  have EB := caller_back E1 hn hR.1 F
  have old : ∀ (j : Nat) (t : Option Nat) (es : List PyData), (setOuts δ1 (muts δ1 cs) outs)[j]? = some (Sl.own t es) → σ[j]? ≠ some (some (V.ref p)) := fun j t es hs z => by
    have so := setOuts_get (M := muts δ1 cs) (δ := δ1) (outs := outs) (k := j) hn hR.1 fun i hi => muts_own hi
    have hd : ∃ t' ds', δ1[j]? = some (Sl.own t' ds') := by
      by_cases hj : j ∈ muts δ1 cs
      · exact muts_own hj
      · rw [so.2.1 hj] at hs
        exact ⟨_, _, hs⟩
    obtain ⟨t', ds', hd⟩ := hd
    obtain ⟨q, ys, e, _, q1, _⟩ := E1.sl j _ hd
    rw [z] at e
    rw [← V.ref.inj (Option.some.inj (Option.some.inj e)), hp] at q1
    cases q1
  have n0 : ∀ zs, (p, zs) ∉ c.hid := fun zs z => by
    have q := (E1.hd p zs z).1
    rw [hp] at q
    cases q
  have EH : EnvOk K { c with hid := (p, .lst xs) :: c.hid } G' H' σ (setOuts δ1 (muts δ1 cs) outs) := {
    g0 := EB.g0, ex := EB.ex, fr := EB.fr, fs := EB.fs, tg := EB.tg, len := EB.len
    sl := fun i s h => by
      have z := EB.sl i s h
      cases s with
      | no => trivial
      | dat d => exact z
      | scr d => exact z
      | own t d => exact z
    ap := EB.ap
    hd := fun q ys hm => by
      rcases List.mem_cons.mp hm with e | hm
      · cases e
        exact ⟨hh, gp, E1.new0 hp, fun j hj z => (E1.tg j hj).1 (by rw [← z]; exact hp), old⟩
      · exact EB.hd q ys hm }
  exact k.nx _ G' H' _ hR.2 (EH.give n0 rr i) (e1.trans F.g0)
end

/-! ### a def -/
def OutsIn (δ : List Sl) (outs : List (List PyData)) : Prop := ∀ (j : Nat) (cs : List PyData), outs[j]? = some cs → ∃ i : Nat, δ[i]? = some (Sl.own (some j) cs)
theorem outs0 {δ : List Sl} : OutsIn δ [] := fun j cs h => by simp at h
def endsOf (R : PyData → List (List PyData) → Prop) : DEnds where
  nx := fun δ => ∃ outs, R .none outs ∧ OutsIn δ outs
  rt := fun d δ => ∃ outs, R d outs ∧ OutsIn δ outs
section
variable {P : Program} {w : World} {K : PySem.W.Frag} {mg : Str → Option Value} {base : Heap}
theorem EnvOk.more {c : Cf} {G H : Hp} {σ : L2.St} {δ : List Sl} (E : EnvOk K c G H σ δ) (n : Nat) : EnvOk K c G H (σ ++ List.replicate n none) (δ ++ List.replicate n .no) := by
  have g1 : ∀ (i : Nat) (s : Sl), (δ ++ List.replicate n Sl.no)[i]? = some s → s ≠ Sl.no → δ[i]? = some s ∧ (σ ++ List.replicate n none)[i]? = σ[i]? := fun i s h hs => by
    by_cases hi : i < δ.length
    · rw [List.getElem?_append_left hi] at h
      exact ⟨h, List.getElem?_append_left (by rw [E.len]; exact hi)⟩
    · rw [List.getElem?_append_right (by omega), List.getElem?_replicate] at h
      split at h
      · exact absurd (Option.some.inj h).symm hs
      · cases h
  exact {
    g0 := E.g0, ex := E.ex, fr := E.fr, fs := E.fs, tg := E.tg
    len := by rw [List.length_append, List.length_append, List.length_replicate, List.length_replicate, E.len]
    sl := fun i s h => by
      cases s with
      | no => trivial
      | dat d =>
        obtain ⟨a, b⟩ := g1 i _ h (by intro z; cases z)
        rw [b]
        exact E.sl i _ a
      | scr d =>
        obtain ⟨a, b⟩ := g1 i _ h (by intro z; cases z)
        rw [b]
        exact E.sl i _ a
      | own t d =>
        obtain ⟨a, b⟩ := g1 i _ h (by intro z; cases z)
        rw [b]
        exact E.sl i _ a
    ap := fun i j t1 d1 t2 d2 hij h1 h2 => by
      obtain ⟨a, b⟩ := g1 i _ h1 (by intro z; cases z)
      obtain ⟨a', b'⟩ := g1 j _ h2 (by intro z; cases z)
      rw [b, b']
      exact E.ap i j _ _ _ _ hij a a'
    hd := fun p xs h => by
      obtain ⟨a1, a2, a3, a4, a5⟩ := E.hd p xs h
      refine ⟨a1, a2, a3, a4, fun i t ds hs => ?_⟩
      obtain ⟨a, b⟩ := g1 i _ hs (by intro z; cases z)
      rw [b]
      exact a5 i t ds a }
theorem fnD {x qual : Str} {st : Stmt} {f : Addr} {fd : FuncData} {N ps : List Str} {k : Nat} {S : DSp} (F : Fun K x qual st f fd) (sc : FnScope N ps (defScope st)) (len : ∀ as R, S as R → as.length = ps.length)
    (hbody : ∀ (cdv : Value) (A : Around) (outer : List Env) (s : Shared) (H : Hp) (E : XK), RoomG k (A.deeper (PyProof.Rows.envOfC qual (defScope st) s.heap.objs.size f cdv)) →
      ∃ t u, DSs (cxOf CX0 P w K mg base N qual (defScope st) f cdv A outer s H E).nox (defBody st) t u ∧ ∀ as R, S as R → u (endsOf R) (as ++ List.replicate (N.length - ps.length) .no)) : FnOkG P w K mg base CX0 (k + 1) f fd ps (spD K S) := by
  refine fun_okG F sc (fun vs H Q E h => ?_) (fun cdv A outer s H vs Q E hr h => ?_)
  · obtain ⟨c, as, R, _, _, EV, hS, _⟩ := h
    have := EV.len
    rw [List.length_map] at this
    rw [this]
    exact len as R hS
  · obtain ⟨c, as, R, hh, h0, EV, hS, k⟩ := h
    obtain ⟨t, u, D, red⟩ := hbody cdv A outer s H E hr
    refine ⟨t, D.ps.nox, ?_⟩
    have l1 : vs.length = ps.length := by
      have := EV.len
      rw [List.length_map] at this
      rw [this]
      exact len as R hS
    have EV' : EnvOk K c c.G0 H (L2.start N vs) (as ++ List.replicate (N.length - ps.length) .no) := by
      have z := EV.more (N.length - ps.length)
      unfold L2.start
      rw [l1]
      exact z
    have fin : ∀ {σ' : L2.St} {G' H' : Hp} {δ' : List Sl} {outs : List (List PyData)}, EnvOk K c G' H' σ' δ' → OutsIn δ' outs → Fin K c G' H' outs := fun {σ' G' H' δ' outs} E ho =>
      ⟨E.g0, E.ex, E.fr, E.fs, E.tg, fun j cs hj => by
        obtain ⟨i, hi⟩ := ho j cs hj
        obtain ⟨p, xs, _, _, hh, r, q⟩ := E.sl i _ hi
        exact ⟨xs, by rw [← q.2]; exact hh, r⟩⟩
    refine D.rs c (L2.start N vs) c.G0 H _ _ (endsOf R) EV' (red as R hS) ⟨?_, ?_, ?_, ?_, ?_⟩
    · rintro σ' G' H' δ' ⟨outs, hR, ho⟩ E' e
      exact k .none outs .non G' H' hR (fin E' ho) .non
    · rintro d δ' v σ' G' H' ⟨outs, hR, ho⟩ E' e r
      exact k d outs v G' H' hR (fin E' ho) r
    · exact fun σ' G' H' δ' a _ _ => False.elim a
    · exact fun σ' G' H' δ' a _ _ => False.elim a
    · exact fun ds δ' p xs σ' G' H' a _ _ _ _ => False.elim a
def endsNew (R : List PyData → List (List PyData) → Prop) : DEnds where
  nx := fun _ => False
  rt := fun _ _ => False
  rn := fun ds δ => ∃ outs, R ds outs ∧ OutsIn δ outs
/-- a def that hands back a new list -/
theorem fnN {x qual : Str} {st : Stmt} {f : Addr} {fd : FuncData} {N ps : List Str} {k : Nat} {S : DSn} (F : Fun K x qual st f fd) (sc : FnScope N ps (defScope st)) (len : ∀ as R, S as R → as.length = ps.length)
    (hbody : ∀ (cdv : Value) (A : Around) (outer : List Env) (s : Shared) (H : Hp) (E : XK), RoomG k (A.deeper (PyProof.Rows.envOfC qual (defScope st) s.heap.objs.size f cdv)) →
      ∃ t u, DSs (cxOf CX0 P w K mg base N qual (defScope st) f cdv A outer s H E).nox (defBody st) t u ∧ ∀ as R, S as R → u (endsNew R) (as ++ List.replicate (N.length - ps.length) .no)) : FnOkG P w K mg base CX0 (k + 1) f fd ps (spN K S) := by
  refine fun_okG F sc (fun vs H Q E h => ?_) (fun cdv A outer s H vs Q E hr h => ?_)
  · obtain ⟨c, as, R, _, _, EV, hS, _⟩ := h
    have := EV.len
    rw [List.length_map] at this
    rw [this]
    exact len as R hS
  · obtain ⟨c, as, R, hh, h0, EV, hS, k⟩ := h
    obtain ⟨t, u, D, red⟩ := hbody cdv A outer s H E hr
    refine ⟨t, D.ps.nox, ?_⟩
    have l1 : vs.length = ps.length := by
      have := EV.len
      rw [List.length_map] at this
      rw [this]
      exact len as R hS
    have EV' : EnvOk K c c.G0 H (L2.start N vs) (as ++ List.replicate (N.length - ps.length) .no) := by
      have z := EV.more (N.length - ps.length)
      unfold L2.start
      rw [l1]
      exact z
    refine D.rs c (L2.start N vs) c.G0 H _ _ (endsNew R) EV' (red as R hS) ⟨fun σ' G' H' δ' a _ _ => False.elim a, fun d δ' v σ' G' H' a _ _ _ => False.elim a, fun σ' G' H' δ' a _ _ => False.elim a, fun σ' G' H' δ' a _ _ => False.elim a, ?_⟩
    rintro ds δ' p xs σ' G' H' ⟨outs, hR, ho⟩ E' hn e r
    obtain ⟨q1, q2, q3, q4, q5⟩ := E'.hd p _ List.mem_cons_self
    refine k ds outs p xs G' H' hR ⟨E'.g0, E'.ex, E'.fr, E'.fs, E'.tg, fun j cs hj => ?_⟩ (by rw [← h0]; exact q3) q2 q1 r
    obtain ⟨i, hi⟩ := ho j cs hj
    obtain ⟨p', ys, _, _, hh', r', q⟩ := E'.sl i _ hi
    exact ⟨ys, by rw [← q.2]; exact hh', r'⟩
end
end TL

set_option Elab.async false
set_option linter.all false
set_option maxRecDepth 100000
set_option maxHeartbeats 2000000
/-! TL8: the rules by syntax. -/
namespace TL
open PySem PySem.Spec L2

/-- a def that may be called by its name -/
structure Kn (P : Program) (w : World) (K : PySem.W.Frag) (mg : Str → Option Value) (base : Heap) (k : Nat) (x : Str) (S : DSp) : Prop where
  ex : ∃ (f : Addr) (fd : FuncData) (ps : List Str), FnOkG P w K mg base CX0 k f fd ps (spD K S) ∧ mg x = some (.ref f) ∧ PySem.W.keepIn K (.ref f) = true ∧ Binds K fd ps []
section
variable {X : Cx} {a b c e : Expr} {es : List Expr} {ta tb tc te : TE} {ua ub uc ue : DTE} {pos p p2 : Pos} {t t' : TS} {u u' : DTS} {tt : TT} {ut : DTT} {tr : TA} {ur : DTA} {tca : TA} {uca : DCA}
theorem de_chain {op op' : CmpOp} {r r' : R2} {rd rd' : R2D} (ho : OpR X (compareOp op) r) (hr : RO X.K r rd) (ho' : OpR X (compareOp op') r') (hr' : RO X.K r' rd') (ha : DE X a ta ua) (hb : DE X b tb ub) (hc : DE X c tc uc)
    (hm : lastMarks [op, op'] [b, c] = false := by with_unfolding_all rfl) : DE X (.Compare a [op, op'] [b, c] pos) (tChain r r' ta tb tc) (dChain rd rd' ua ub uc) := ⟨pe_chain ho ho' ha.pe hb.pe hc.pe hm, re_chain ha.re hb.re hc.re hr hr'⟩
theorem dt_chain {op op' : CmpOp} {r r' : R2} {rd rd' : R2D} (ho : OpR X (compareOp op) r) (hr : RO X.K r rd) (ho' : OpR X (compareOp op') r') (hr' : RO X.K r' rd') (ha : DE X a ta ua) (hb : DE X b tb ub) (hc : DE X c tc uc)
    (hm : lastMarks [op, op'] [b, c] = false := by with_unfolding_all rfl) : DT X (.Compare a [op, op'] [b, c] pos) (tTest (tChain r r' ta tb tc)) (dTest (dChain rd rd' ua ub uc)) := ⟨pt_chain ho ho' ha.pe hb.pe hc.pe hm, rt_test (re_chain ha.re hb.re hc.re hr hr')⟩
theorem de_ixV (i : Nat) {x : Str} (hb : DE X b tb ub) (hN : X.N[i]? = some x := by rfl) (hv : Vis X.env.scope x := by first | exact Or.inl rfl | exact Or.inr (Or.inl rfl) | exact Or.inr (Or.inr rfl)) (hd : (x == ("__debug__" : Str)) = false := by decide)
    (hcd : (x == ("__classdict__" : Str)) = false := by decide) (hs : PlainIx b := by exact fun _ _ => rfl) : DE X (.Subscript (.Name x p) b pos) (tOp (rIxL X.K) (tVar i) tb) (dIxV i ub) := ⟨pe_ix ix_list (pe_var hN hv hd hcd) hb.pe hs, re_ixV hb.re⟩
theorem de_len {ps : Pos} (hm : X.mg "len" = none) (ha : DE X e te ue) (hg : Gl X "len" := by rfl) (hs : starEach [e] X.env = (false, eval e X.env) :: starEach [] X.env := by rfl) (hpl : (backTo pos (starEach [] X.env)).any (·.1) = false := by rfl) :
    DE X (.Call (.Name "len" p) [e] [] pos) (tCB (rLen X.K) (tCons te tNil)) (dLen ue) := ⟨pe_callB call_len hg hm PySem.boot_len (pa_cons ha.pe pa_nil hs) (by decide) (by decide) hs hpl, re_len ha.re⟩
theorem de_lenV (i : Nat) {x : Str} (hm : X.mg "len" = none) (hN : X.N[i]? = some x := by rfl) (hv : Vis X.env.scope x := by first | exact Or.inl rfl | exact Or.inr (Or.inl rfl) | exact Or.inr (Or.inr rfl)) (hd : (x == ("__debug__" : Str)) = false := by decide)
    (hcd : (x == ("__classdict__" : Str)) = false := by decide) (hg : Gl X "len" := by rfl) (hs : starEach [.Name x p2] X.env = (false, eval (.Name x p2) X.env) :: starEach [] X.env := by rfl) (hpl : (backTo pos (starEach [] X.env)).any (·.1) = false := by rfl) :
    DE X (.Call (.Name "len" p) [.Name x p2] [] pos) (tCB (rLen X.K) (tCons (tVar i) tNil)) (dLenV i) := ⟨pe_callB call_len hg hm PySem.boot_len (pa_cons (pe_var hN hv hd hcd) pa_nil hs) (by decide) (by decide) hs hpl, re_lenV⟩
theorem de_isi {T : String} {Tn : Str} (hm : X.mg "isinstance" = none) (hT : X.mg Tn = none) (hv : bootBuiltins Tn = some (.type T)) (ha : DE X e te ue) (hg : Gl X "isinstance" := by rfl) (hgT : Gl X Tn := by rfl) (hb : bootBuiltins "isinstance" = some (.builtin "isinstance") := by decide +kernel)
    (hn : Tn ≠ "__name__" := by decide) (hd : (Tn == ("__debug__" : Str)) = false := by decide)
    (hs : starEach [e, .Name Tn p2] X.env = (false, eval e X.env) :: starEach [.Name Tn p2] X.env := by rfl) (hs2 : starEach [.Name Tn p2] X.env = (false, eval (.Name Tn p2) X.env) :: starEach [] X.env := by rfl) (hpl : (backTo pos (starEach [.Name Tn p2] X.env)).any (·.1) = false := by rfl) :
    DE X (.Call (.Name "isinstance" p) [e, .Name Tn p2] [] pos) (tCB (rIsi X.K) (tCons te (tCons (tC (.ty T)) tNil))) (dIsi T ue) :=
  ⟨pe_callB call_isi hg hm hb (pa_cons ha.pe (pa_cons (pe_bltn (v := .ty T) hgT hT hv rfl hn hd) pa_nil hs2) hs) (by decide) (by decide) hs hpl, re_isi ha.re⟩
theorem de_int1 (hm : X.mg "int" = none) (ha : DE X e te ue) (hg : Gl X "int" := by rfl) (hb : bootBuiltins "int" = some (.type "int") := by decide +kernel) (hs : starEach [e] X.env = (false, eval e X.env) :: starEach [] X.env := by rfl) (hpl : (backTo pos (starEach [] X.env)).any (·.1) = false := by rfl) :
    DE X (.Call (.Name "int" p) [e] [] pos) (tCB rInt1 (tCons te tNil)) (dInt1 ue) := ⟨pe_callTy call_int1 hg hm hb (pa_cons ha.pe pa_nil hs) (by decide) (by decide) hs hpl, re_int1 ha.re⟩
theorem de_join {apos : Pos} (ha : DE X a ta ua) (hb : DE X b tb ub) (hs : starEach [b] X.env = [(false, eval b X.env)] := by rfl) (hbase : attributeBase a "join" X.env (eval a X.env) = eval a X.env := by rfl) (hline : (apos.endLine == pos.line) = true := by rfl) :
    DE X (.Call (.Attribute a "join" apos) [b] [] pos) (tM1 (rJoin X.K) ta tb) (dJoin ua ub) := ⟨pe_join ha.pe hb.pe hs hbase hline, re_join ha.re hb.re⟩
theorem dca_nil : DCa X [] tNil cNil := ⟨pa_nil, rca_nil⟩
theorem dca_d (ha : DE X e te ue) (hr : DCa X es tca uca) (hs : starEach (e :: es) X.env = (false, eval e X.env) :: starEach es X.env := by rfl) : DCa X (e :: es) (tCons te tca) (cD ue uca) := ⟨pa_cons ha.pe hr.pa hs, rca_d ha.re hr.ra⟩
theorem dca_s (i : Nat) {x : Str} (hr : DCa X es tca uca) (hN : X.N[i]? = some x := by rfl) (hv : Vis X.env.scope x := by first | exact Or.inl rfl | exact Or.inr (Or.inl rfl) | exact Or.inr (Or.inr rfl)) (hd : (x == ("__debug__" : Str)) = false := by decide)
    (hcd : (x == ("__classdict__" : Str)) = false := by decide) (hs : starEach (.Name x p :: es) X.env = (false, eval (.Name x p) X.env) :: starEach es X.env := by rfl) : DCa X (.Name x p :: es) (tCons (tVar i) tca) (cS i uca) := ⟨pa_cons (pe_var hN hv hd hcd) hr.pa hs, rca_s hr.ra⟩
theorem de_call {x : Str} {S : DSp} {k j : Nat} (kn : Kn X.prog X.w X.K X.mg X.base k x S) (hr : RoomG j X.A) (hk : k ≤ j) (ha : DCa X (e :: es) tca uca) (hg : Gl X x := by rfl) (hdb : (x == ("__debug__" : Str)) = false := by decide)
    (he : starEach (e :: es) X.env = (false, eval e X.env) :: starEach es X.env := by rfl) (hpl : (backTo pos (starEach es X.env)).any (·.1) = false := by rfl) : DE X (.Call (.Name x p) (e :: es) [] pos) (tCall (spD X.K S) [] E0 tca) (dCall S uca) := by
  obtain ⟨f, fd, ps, F, hm, kp, b⟩ := kn.ex
  exact ⟨pe_callG F (hr.mono hk) hg hm kp b .nil pass0 ha.pa hdb he hpl, re_call ha.ra⟩
theorem de_call0 {x : Str} {S : DSp} {k j : Nat} (kn : Kn X.prog X.w X.K X.mg X.base k x S) (hr : RoomG j X.A) (hk : k ≤ j) (hg : Gl X x := by rfl) (hdb : (x == ("__debug__" : Str)) = false := by decide) :
    DE X (.Call (.Name x p) [] [] pos) (tCall (spD X.K S) [] E0 tNil) (dCall S cNil) := by
  obtain ⟨f, fd, ps, F, hm, kp, b⟩ := kn.ex
  exact ⟨pe_callG0 F (hr.mono hk) hg hm kp b .nil pass0 hdb, re_call rca_nil⟩

/-- a def that hands back a new list -/
structure KnN (P : Program) (w : World) (K : PySem.W.Frag) (mg : Str → Option Value) (base : Heap) (k : Nat) (x : Str) (S : DSn) : Prop where
  ex : ∃ (f : Addr) (fd : FuncData) (ps : List Str), FnOkG P w K mg base CX0 k f fd ps (spN K S) ∧ mg x = some (.ref f) ∧ PySem.W.keepIn K (.ref f) = true ∧ Binds K fd ps []
theorem ds_callOwn (i : Nat) {x y : Str} {cpos : Pos} {S : DSn} {k j : Nat} (hN : X.N.Nodup) (kn : KnN X.prog X.w X.K X.mg X.base k x S) (hr : RoomG j X.A) (hk : k ≤ j) (ha : DCa X (e :: es) tca uca) (hi : X.N[i]? = some y := by rfl) (hx : Loc X.env.scope y := by first | exact Or.inl rfl | exact Or.inr rfl)
    (hs : swapsWith (.Call (.Name x p) (e :: es) [] cpos) (some (.Name y p2)) pos.line X.env = pure false := by rfl) (hf : X.fn y = true ∨ X.env.scope.names.lookup y = some .local := by first | exact .inl rfl | exact .inr rfl | assumption)
    (hg : Gl X x := by rfl) (hdb : (x == ("__debug__" : Str)) = false := by decide)
    (he : starEach (e :: es) X.env = (false, eval e X.env) :: starEach es X.env := by rfl) (hpl : (backTo cpos (starEach es X.env)).any (·.1) = false := by rfl) :
    DS X (.Assign [.Name y p2] (.Call (.Name x p) (e :: es) [] cpos) pos) (tAsg (tCall (spN X.K S) [] E0 tca) (gName i)) (fun E δ => dCallOwn i S uca E.nx δ) := by
  obtain ⟨f, fd, ps, F, hm, kp, b⟩ := kn.ex
  exact ⟨ps_set hN hi hx (pe_callG F (hr.mono hk) hg hm kp b .nil pass0 ha.pa hdb he hpl) hs hf, rs_callOwn ha.ra⟩
theorem ds_retNew (he : DA X es tr ur) : DS X (.Return (some (.List es p)) pos) (tRet (tLst tr)) (dRetNew ur) := ⟨ps_ret (pe_lst he.pa), rs_retNew he.ra⟩
/-! ### statements -/
theorem dss_nil : DSs X [] tNext dNext := ⟨pss_nil, rs_next⟩
theorem dss_cons {st : Stmt} {rest : List Stmt} (h1 : DS X st t u) (h2 : DSs X rest t' u') : DSs X (st :: rest) (tSeq t t') (dSeq u u') := ⟨pss_cons h1.ps h2.ps, rs_seq h1.rs h2.rs⟩
theorem dss_one {st : Stmt} (h1 : DS X st t u) : DSs X [st] t u := ⟨pss_one h1.ps, h1.rs⟩
theorem ds_pass : DS X (.Pass pos) tNext dNext := ⟨ps_pass, rs_next⟩
theorem ds_break : DS X (.Break pos) tBreak dBreak := ⟨ps_break, rs_break⟩
theorem ds_cont : DS X (.Continue pos) tCont dCont := ⟨ps_continue, rs_cont⟩
theorem ds_expr (he : DE X e te ue) (hs : swapsWith e none pos.line X.env = pure false := by rfl) : DS X (.Expr e pos) (tDrop te) (dDrop ue) := ⟨ps_expr he.pe hs, rs_drop he.re⟩
theorem ds_ret (he : DE X e te ue) : DS X (.Return (some e) pos) (tRet te) (dRet ue) := ⟨ps_ret he.pe, rs_ret he.re⟩
theorem ds_retN : DS X (.Return none pos) tRetN dRetN := ⟨ps_retN, rs_retN⟩
theorem ds_if {st st' : List Stmt} (hc : DT X c tt ut) (h1 : DSs X st t u) (h2 : DSs X st' t' u') : DS X (.If c st st' pos) (tIfS tt t t') (dIfS ut u u') := ⟨ps_if hc.pt h1.ps h2.ps, rs_if hc.rt h1.rs h2.rs⟩
theorem dg_name (i : Nat) {x : Str} (hN : X.N.Nodup) (hi : X.N[i]? = some x := by rfl) (hx : Loc X.env.scope x := by first | exact Or.inl rfl | exact Or.inr rfl) (hf : X.fn x = true ∨ X.env.scope.names.lookup x = some .local := by first | exact .inl rfl | exact .inr rfl | assumption) :
    DG X (.Name x pos) (gName i) (dgName i) [i] := ⟨pg_name hN hi hx hf, rg_name⟩
theorem dgs_nil : DGs X [] gNil dgNil [] := ⟨pgs_nil, rgs_nil⟩
theorem dgs_cons {g : TG} {ug : DTG} {gs : TGs} {ugs : DTGs} {js js' : List Nat} (h1 : DG X e g ug js) (h2 : DGs X es gs ugs js') (hs : (assignEach (e :: es) X.env).map (·.2) = assign e X.env :: (assignEach es X.env).map (·.2) := by rfl) :
    DGs X (e :: es) (gCons g gs) (dgCons ug ugs) (js ++ js') := ⟨pgs_cons h1.pg h2.pg hs, rgs_cons h1.rg h2.rg⟩
theorem dg_tup {gs : TGs} {ugs : DTGs} {js : List Nat} {k n : Nat} (hc : X.calm = true) (h : DGs X es gs ugs js) (hn : (assignEach es X.env).length = n := by rfl) (hst : (assignEach es X.env).findIdx? (·.1) = none := by rfl) : DG X (.Tuple es k pos) (gTup X.K n gs) (dgTup n ugs) js :=
  ⟨pg_tup hc h.pg hn hst, rg_tup h.rg⟩
theorem ds_set (i : Nat) {x : Str} (hN : X.N.Nodup) (he : DE X e te ue) (hi : X.N[i]? = some x := by rfl) (hx : Loc X.env.scope x := by first | exact Or.inl rfl | exact Or.inr rfl) (hs : swapsWith e (some (.Name x p)) pos.line X.env = pure false := by rfl)
    (hf : X.fn x = true ∨ X.env.scope.names.lookup x = some .local := by first | exact .inl rfl | exact .inr rfl | assumption) : DS X (.Assign [.Name x p] e pos) (tAsg te (gName i)) (dAsg ue (dgName i)) := ⟨ps_set hN hi hx he.pe hs hf, rs_asg he.re rg_name⟩
theorem ds_setTup {g : TG} {ug : DTG} {js : List Nat} (he : DE X e te ue) (hg : DG X a g ug js) (hs : swapsWithSole [a] e pos.line X.env = pure false := by rfl) (hw : swappedStores [a] e X.env = pure none := by rfl)
    (h1 : (assignEach [a] X.env).map (·.2) = [assign a X.env] := by rfl) : DS X (.Assign [a] e pos) (tAsg te g) (dAsg ue ug) := ⟨ps_asg he.pe hg.pg hs hw h1, rs_asg he.re hg.rg⟩
/-- xs = [..], to change -/
theorem ds_own (i : Nat) {x : Str} (hN : X.N.Nodup) (he : DA X es tr ur) (hi : X.N[i]? = some x := by rfl) (hx : Loc X.env.scope x := by first | exact Or.inl rfl | exact Or.inr rfl) (hs : swapsWith (.List es p2) (some (.Name x p)) pos.line X.env = pure false := by rfl)
    (hf : X.fn x = true ∨ X.env.scope.names.lookup x = some .local := by first | exact .inl rfl | exact .inr rfl | assumption) : DS X (.Assign [.Name x p] (.List es p2) pos) (tAsg (tLst tr) (gName i)) (dAsgOwn i ur) := ⟨ps_set hN hi hx (pe_lst he.pa) hs hf, rs_asgOwn he.ra⟩
theorem ds_setI (i : Nat) {x : Str} (he : DE X e te ue) (hb : DE X b tb ub) (hN : X.N[i]? = some x := by rfl) (hv : Vis X.env.scope x := by first | exact Or.inl rfl | exact Or.inr (Or.inl rfl) | exact Or.inr (Or.inr rfl)) (hd : (x == ("__debug__" : Str)) = false := by decide)
    (hcd : (x == ("__classdict__" : Str)) = false := by decide)
    (hs : swapsWithSole [.Subscript (.Name x p) b p2] e pos.line X.env = pure false := by rfl) (hw : swappedStores [.Subscript (.Name x p) b p2] e X.env = pure none := by rfl) (h1 : (assignEach [.Subscript (.Name x p) b p2] X.env).map (·.2) = [assign (.Subscript (.Name x p) b p2) X.env] := by rfl)
    (ha : ∀ v, assign (.Subscript (.Name x p) b p2) X.env v = (do
      let ov ← holding [v] (eval (.Name x p) X.env)
      let iv ← holding [v, ov] (eval b X.env)
      standAt p2
      holding [v, ov, iv] (setItem ov iv v)
      release [v, ov, iv] []) := by intro _; rfl) :
    DS X (.Assign [.Subscript (.Name x p) b p2] e pos) (tAsg te (gSub (tVar i) tb rSetL)) (dSetI i ue ub) := ⟨ps_asg he.pe (pg_sub (pe_var hN hv hd hcd) hb.pe set_list ha) hs hw h1, rs_setI he.re hb.re⟩
theorem ds_aug (i : Nat) {x : Str} {op : Operator} {f : Int → Int → Int} (hN : X.N.Nodup) (ho : PIp X op (ipI f)) (he : DE X e te ue) (hi : X.N[i]? = some x := by rfl) (hx : Loc X.env.scope x := by first | exact Or.inl rfl | exact Or.inr rfl)
    (hf : X.fn x = true ∨ X.env.scope.names.lookup x = some .local := by first | exact .inl rfl | exact .inr rfl | assumption) : DS X (.AugAssign (.Name x p) op e pos) (tAug i te (ipI f)) (dAug f i ue) := ⟨ps_aug hN hi hx he.pe ho hf, rs_aug he.re⟩
theorem di_list (h : DE X e te ue) : DI X a e (iList X.K te) (diL ue) := ⟨pi_list h.pe, ri_list h.re⟩
theorem di_tup (h : DE X e te ue) : DI X a e (iTup X.K te) (diT ue) := ⟨pi_tup h.pe, ri_tup h.re⟩
theorem di_str (h : DE X e te ue) : DI X a e (iStr te) (diS ue) := ⟨pi_str h.pe, ri_str h.re⟩
theorem di_r1 (hm : X.mg "range" = none) (h : DE X e te ue) (hg : Gl X "range" := by rfl) (hs : starEach [e] X.env = [(false, eval e X.env)] := by rfl) : DI X a (.Call (.Name "range" p) [e] [] pos) (iRng1 (tCons te tNil)) (diR1 ue) := ⟨pi_range1 hg hm (pa_cons h.pe pa_nil hs) hs, ri_r1 h.re⟩
theorem di_r2 (hm : X.mg "range" = none) (h : DE X e te ue) (h' : DE X b tb ub) (hg : Gl X "range" := by rfl) (hs : starEach [e, b] X.env = [(false, eval e X.env), (false, eval b X.env)] := by rfl) (hs2 : starEach [b] X.env = [(false, eval b X.env)] := by rfl) :
    DI X a (.Call (.Name "range" p) [e, b] [] pos) (iRng2 (tCons te (tCons tb tNil))) (diR2 ue ub) := ⟨pi_range2 hg hm (pa_cons h.pe (pa_cons h'.pe pa_nil hs2) (by rw [hs, hs2])) hs hs2, ri_r2 h.re h'.re⟩
theorem ds_for {g : TG} {ug : DTG} {js : List Nat} {w : TI} {uw : DTI} {body : List Stmt} (hp : PassesOwn (model X.prog X.w) X.A X.env X.xe) (hc : X.calm = true) (hi : DI X a e w uw) (hg : DG X a g ug js) (hb : DSs X body t u) (hs : ∀ x, foldedSetIterable e X.env x = pure x := by intro _; rfl) :
    DS X (.For a e body [] pos) (tFor w g t) (dFor uw ug u) := ⟨ps_for hp hc hi.pi hg.pg hb.ps hs, rs_for hi.ri hg.rg hb.rs⟩
theorem ds_while {body : List Stmt} (hp : PassesOwn (model X.prog X.w) X.A X.env X.xe) (hc : DT X c tt ut) (hb : DSs X body t u) : DS X (.While c body [] pos) (tWhile tt t) (dWhile ut u) := ⟨ps_while hp hc.pt hb.ps, rs_while hc.rt hb.rs⟩
theorem ds_app (i : Nat) {x : Str} {apos cpos : Pos} (he : DE X e te ue) (pb : PE X (.Call (.Attribute (.Name x p) "append" apos) [e] [] cpos) (tBM X.K "list" rAppend (tVar i) (tCons te tNil))) (hs : swapsWith (.Call (.Attribute (.Name x p) "append" apos) [e] [] cpos) none pos.line X.env = pure false := by rfl) :
    DS X (.Expr (.Call (.Attribute (.Name x p) "append" apos) [e] [] cpos) pos) (tDrop (tBM X.K "list" rAppend (tVar i) (tCons te tNil))) (dApp i ue) := ⟨ps_expr pb hs, rs_app he.re⟩
/-! ### comprehensions -/
structure DTs (X : Cx) (ifs : List Expr) (t : TT) (u : DTT) : Prop where
  pt : PTs X ifs t
  rt : RT X.K t u
theorem dts_nil : DTs X [] tYes dYes := ⟨pts_nil, rt_yes⟩
theorem dts_one (h : DT X c tt ut) : DTs X [c] tt ut := ⟨pts_one h.pt, h.rt⟩
theorem de_lc {elt tg iter : Expr} {ifs : List Expr} {scope : Scope} (own : List (Str × Nat)) {w : TI} {uw : DTI} {g : TG} {ug : DTG} {js : List Nat} (hc : X.calm = true) (hN : X.N.Nodup) (hi : DI X tg iter w uw) (ok : BlkOk X.N X.env.scope scope own)
    (hg : ∀ (s : Shared) (H : Hp) (C : Addr) (cl : List (Str × Addr)) (fp : List Addr), DG (X.blk s H scope (compEnvC scope cl C X.env) fp) tg g ug js) (ht : ∀ (s : Shared) (H : Hp) (C : Addr) (cl : List (Str × Addr)) (fp : List Addr), DTs (X.blk s H scope (compEnvC scope cl C X.env) fp) ifs tt ut)
    (he : ∀ (s : Shared) (H : Hp) (C : Addr) (cl : List (Str × Addr)) (fp : List Addr), DE (X.blk s H scope (compEnvC scope cl C X.env) fp) elt te ue) (hj : ∀ j ∈ js, j ∈ own.map (·.2)) (hs : ∀ x, foldedSetIterable iter X.env x = pure x := by intro _; rfl) :
    DE X (.ListComp elt [⟨tg, iter, ifs, 0⟩] scope pos) (tLc w g tt te (own.map (·.2))) (dLc uw ug ut ue (own.map (·.2))) :=
  ⟨pe_lc hc hN hi.pi ok (fun a b c d e => (hg a b c d e).pg) (fun a b c d e => (ht a b c d e).pt) (fun a b c d e => (he a b c d e).pe) hs,
   re_lc hi.ri (hg X.s_0 X.H_0 0 [] []).rg (ht X.s_0 X.H_0 0 [] []).rt (he X.s_0 X.H_0 0 [] []).re hj⟩
theorem ds_setLc (i : Nat) {y : Str} {py spos : Pos} {elt tg iter : Expr} {ifs : List Expr} {scope : Scope} (own : List (Str × Nat)) {w : TI} {uw : DTI} {g : TG} {ug : DTG} {js : List Nat} (hc : X.calm = true) (hN : X.N.Nodup) (hi : DI X tg iter w uw) (ok : BlkOk X.N X.env.scope scope own)
    (hg : ∀ (s : Shared) (H : Hp) (C : Addr) (cl : List (Str × Addr)) (fp : List Addr), DG (X.blk s H scope (compEnvC scope cl C X.env) fp) tg g ug js) (ht : ∀ (s : Shared) (H : Hp) (C : Addr) (cl : List (Str × Addr)) (fp : List Addr), DTs (X.blk s H scope (compEnvC scope cl C X.env) fp) ifs tt ut)
    (he : ∀ (s : Shared) (H : Hp) (C : Addr) (cl : List (Str × Addr)) (fp : List Addr), DE (X.blk s H scope (compEnvC scope cl C X.env) fp) elt te ue) (hj : ∀ j ∈ js, j ∈ own.map (·.2))
    (hsw : swapsWith (.ListComp elt [⟨tg, iter, ifs, 0⟩] scope pos) (some (.Name y py)) spos.line X.env = pure true) (hy : X.N[i]? = some y := by rfl) (hyl : X.env.scope.names.lookup y = some .local := by rfl) (hs : ∀ x, foldedSetIterable iter X.env x = pure x := by intro _; rfl) :
    DS X (.Assign [.Name y py] (.ListComp elt [⟨tg, iter, ifs, 0⟩] scope pos) spos) (tAsg (tLc w g tt te (own.map (·.2))) (gName i)) (dAsg (dLc uw ug ut ue (own.map (·.2))) (dgName i)) :=
  ⟨ps_setLc hc hN hy hyl hsw hi.pi ok (fun a b c d e => (hg a b c d e).pg) (fun a b c d e => (ht a b c d e).pt) (fun a b c d e => (he a b c d e).pe) hs,
   rs_asg (re_lc hi.ri (hg X.s_0 X.H_0 0 [] []).rg (ht X.s_0 X.H_0 0 [] []).rt (he X.s_0 X.H_0 0 [] []).re hj) rg_name⟩
end
end TL

set_option Elab.async false
set_option linter.all false
set_option maxRecDepth 100000
set_option maxHeartbeats 2000000
/-! TL9: small dicts, min, max; what stands of texts; a look at what is shaped. -/
namespace TL
open PySem PySem.Spec L2

section
variable {K : PySem.W.Frag} {ta tb : TE} {ua ub : DTE}
theorem re_dict0 : RE K tDNewK (dC (.dict [])) := fun c σ G H δ Q R E h k p hp => by
  have A := Al.new (o := .dK []) E.ex hp
  exact k _ δ _ _ _ h (E.al A) A.g (.dic upd_same rfl)
theorem re_dict1 {x : Str} {v : V} {d : PyData} (hv : ∀ G, Rp K G v d) : RE K (tDisp [(tC (.str x), tC v)]) (dC (.dict [(.str x, d)])) := fun c σ G H δ Q R E h k p hp => by
  refine ⟨upd_same, [(.inr x, v)], rfl, by show 1 ≤ 15; decide, ?_⟩
  have e : upd (upd H p (.dK [])) p (.dK (mergeK [] [(.inr x, v)])) = upd H p (.dK (mergeK [] [(.inr x, v)])) := upd_upd
  rw [e]
  have A := Al.new (o := .dK (mergeK [] [((.inr x : Key), v)])) E.ex hp
  exact k _ δ _ _ _ h (E.al A) A.g (.dic upd_same rfl)
def rMax2 : List V → Hp → VK → Prop := fun xs H Q => ∃ i j, xs = [.int i, .int j] ∧ Q (.int (if j > i then j else i)) H
def rMin2 : List V → Hp → VK → Prop := fun xs H Q => ∃ i j, xs = [.int i, .int j] ∧ Q (.int (if j < i then j else i)) H
def dII (f : Int → Int → Int) (ua ub : DTE) : DTE := fun δ R => ua δ fun d1 δ1 => ub δ1 fun d2 δ2 => match d1, d2 with
  | .int i, .int j => R (.int (f i j)) δ2
  | _, _ => False
theorem re_max2 (ha : RE K ta ua) (hb : RE K tb ub) : RE K (tCB rMax2 (tCons ta (tCons tb tNil))) (dII (fun i j => if j > i then j else i) ua ub) := by
  intro c σ G H δ Q R E h k
  refine ha c σ G H δ _ _ E h fun d1 δ1 v1 G1 H1 h1 E1 e1 r1 => ?_
  refine hb c σ G1 H1 δ1 _ _ E1 h1 fun d2 δ2 v2 G2 H2 h2 E2 e2 r2 => ?_
  cases d1 <;> cases d2 <;> first
    | exact False.elim h2
    | exact ⟨_, _, by rw [r1.int_of, r2.int_of], k _ δ2 _ G2 H2 h2 E2 (e1.trans e2) (.int _)⟩
theorem re_min2 (ha : RE K ta ua) (hb : RE K tb ub) : RE K (tCB rMin2 (tCons ta (tCons tb tNil))) (dII (fun i j => if j < i then j else i) ua ub) := by
  intro c σ G H δ Q R E h k
  refine ha c σ G H δ _ _ E h fun d1 δ1 v1 G1 H1 h1 E1 e1 r1 => ?_
  refine hb c σ G1 H1 δ1 _ _ E1 h1 fun d2 δ2 v2 G2 H2 h2 E2 e2 r2 => ?_
  cases d1 <;> cases d2 <;> first
    | exact False.elim h2
    | exact ⟨_, _, by rw [r1.int_of, r2.int_of], k _ δ2 _ G2 H2 h2 E2 (e1.trans e2) (.int _)⟩
theorem r1_neg : R1 K (rU fun i => .int (-i)) (fun d R => match d with
  | .int i => R (.int (-i))
  | _ => False) := by
  intro G H x d Q R e r h k
  cases d <;> first
    | exact False.elim h
    | exact ⟨_, r.int_of, k _ _ G H h (Al.refl e) (.int _)⟩
end
section
variable {X : Cx} {a b e v : Expr} {ta tb te tv : TE} {ua ub ue uv : DTE} {pos p : Pos}
theorem de_dict0 : DE X (.Dict [] [] pos) tDNewK (dC (.dict [])) := ⟨pe_dnewK, re_dict0⟩
theorem de_dict1 {x : Str} {j : Nat} {q : Pos} {y : V} {d : PyData} (hv : PE X v (tC y)) (hr : ∀ G, Rp X.K G y d) : DE X (.Dict [some (.Constant (.str x) j q)] [v] pos) (tDisp [(tC (.str x), tC y)]) (dC (.dict [(.str x, d)])) :=
  ⟨pe_disp (pps_cons pe_str hv pps_nil) rfl rfl (by simp) (by show 1 ≤ 15; decide), re_dict1 hr⟩
theorem de_un {op : UnaryOp} {r : V → Hp → VK → Prop} {rd : R1D} (ho : UnR X (unaryOp op) r) (hr : R1 X.K r rd) (ha : DE X a ta ua) : DE X (.UnaryOp op a pos) (tUn r ta) (dUn rd ua) := ⟨pe_un ho ha.pe, re_un ha.re hr⟩
theorem de_max2 (hm : X.mg "max" = none) (ha : DE X a ta ua) (hb : DE X b tb ub) (hc : X.calm = true := by rfl) (hg : Gl X "max" := by rfl) (hs : starEach [a, b] X.env = (false, eval a X.env) :: starEach [b] X.env := by rfl) (hs2 : starEach [b] X.env = (false, eval b X.env) :: starEach [] X.env := by rfl) (hpl : (backTo pos (starEach [b] X.env)).any (·.1) = false := by rfl) :
    DE X (.Call (.Name "max" p) [a, b] [] pos) (tCB rMax2 (tCons ta (tCons tb tNil))) (dII (fun i j => if j > i then j else i) ua ub) := ⟨pe_callB (call_max2 hc) hg hm PyProof.Rows.boot_max (pa_cons ha.pe (pa_cons hb.pe pa_nil hs2) hs) (by decide) (by decide) hs hpl, re_max2 ha.re hb.re⟩
theorem de_min2 (hm : X.mg "min" = none) (ha : DE X a ta ua) (hb : DE X b tb ub) (hc : X.calm = true := by rfl) (hg : Gl X "min" := by rfl) (hs : starEach [a, b] X.env = (false, eval a X.env) :: starEach [b] X.env := by rfl) (hs2 : starEach [b] X.env = (false, eval b X.env) :: starEach [] X.env := by rfl) (hpl : (backTo pos (starEach [b] X.env)).any (·.1) = false := by rfl) :
    DE X (.Call (.Name "min" p) [a, b] [] pos) (tCB rMin2 (tCons ta (tCons tb tNil))) (dII (fun i j => if j < i then j else i) ua ub) := ⟨pe_callB (call_min2 hc) hg hm PyProof.Rows.boot_min (pa_cons ha.pe (pa_cons hb.pe pa_nil hs2) hs) (by decide) (by decide) hs hpl, re_min2 ha.re hb.re⟩
end

/-! ### the law's own run -/
def spLaw (K : PySem.W.Frag) : Sp := fun vs H Q _ => ∃ (a : Addr) (ns : List Int), vs = [.ref a] ∧ SqL K H a (ns.map V.int) ∧ ns.length ≤ 63 ∧ ∀ H', Q (.bl true) H'
/-- by data: handed in are at most 63 ints, True comes out -/
def S_law : DSp := fun as R => ∃ ns : List Int, ns.length ≤ 63 ∧ as = [.scr (ns.map PyData.int)] ∧ R (.bool true) []
theorem ints_rp {K : PySem.W.Frag} {G : Hp} : ∀ ns : List Int, RpAll K G (ns.map V.int) (ns.map PyData.int)
  | [] => .nil
  | n :: r => .cons (.int n) (ints_rp r)
theorem law_by {P : Program} {w : World} {K : PySem.W.Frag} {mg : Str → Option Value} {base : Heap} {k : Nat} {f : Addr} {fd : FuncData} {ps : List Str} (F : FnOkG P w K mg base CX0 k f fd ps (spD K S_law)) : FnOkG P w K mg base CX0 k f fd ps (spLaw K) :=
  F.imp fun vs H Q E h => by
    obtain ⟨a, ns, rfl, hS, hl, q⟩ := h
    refine ⟨⟨fun _ => 0, 0, H, H, []⟩, [.scr (ns.map PyData.int)], fun d outs => d = .bool true, rfl, rfl, ?_, ⟨ns, hl, rfl, rfl⟩, fun d outs v G' H' hd _ r => ?_⟩
    · exact {
        g0 := Ex.refl _, ex := Ex.refl _, fr := fun a o h _ => h, fs := fun a h _ => h
        tg := fun j hj => absurd hj (Nat.not_lt_zero j)
        len := rfl
        sl := fun i s h => by
          cases i with
          | zero =>
            cases (show some (Sl.scr (ns.map PyData.int)) = some s from h)
            exact ⟨a, _, rfl, hS, ints_rp ns⟩
          | succ i => simp at h
        ap := fun i j t1 d1 t2 d2 hij h1 h2 => by
          cases i with
          | zero => cases (show some (Sl.scr (ns.map PyData.int)) = some (.own t1 d1) from h1)
          | succ i => simp at h1
        hd := fun p xs h => nomatch h }
    · subst hd
      rw [r.bl_of]
      exact q H'
end TL

set_option Elab.async false
set_option linter.all false
set_option maxRecDepth 100000
set_option maxHeartbeats 4000000
/-! TLs: what the readings are reckoned with. -/
namespace TL
open PySem PySem.Spec L2
theorem kb_ss : kitB "str" "str" = some true := by decide +kernel
theorem kb_ns : kitB "NoneType" "str" = some false := by decide +kernel
theorem kb_bs : kitB "bool" "str" = some false := by decide +kernel
theorem kb_is : kitB "int" "str" = some false := by decide +kernel
theorem kb_ls : kitB "list" "str" = some false := by decide +kernel
theorem kb_ts : kitB "tuple" "str" = some false := by decide +kernel
theorem kb_ds : kitB "dict" "str" = some false := by decide +kernel
theorem kb_bb : kitB "bool" "bool" = some true := by decide +kernel
theorem sh_int (i : Int) : SeqAt.shaped (.int i) = true := rfl
theorem sh_bool (b : Bool) : SeqAt.shaped (.bool b) = true := rfl
theorem sh_none : SeqAt.shaped .none = true := rfl
theorem sh_str {x : Str} (h : PyData.strOk x = true) : SeqAt.shaped (.str x) = true := by
  unfold SeqAt.shaped
  rw [Bool.and_eq_true]
  exact ⟨by simpa [PyData.canLay0] using h, rfl⟩
theorem ev_ii (i j : Int) : PyData.eqv (.int i) (.int j) = (i == j) := by simp [PyData.eqv]
theorem ev_bb (i j : Bool) : PyData.eqv (.bool i) (.bool j) = (i == j) := by simp [PyData.eqv]
theorem ev_ss (i j : Str) : PyData.eqv (.str i) (.str j) = (i == j) := by simp [PyData.eqv]
/-- codes that a text may have -/
def okC (z : Str) : Prop := ∀ c ∈ z.cps.toList, c < 1114112
theorem strOk_of {z : Str} (h : okC z) : PyData.strOk z = true := by
  unfold PyData.strOk
  rw [← Array.all_toList, List.all_eq_true]
  intro c hc
  exact decide_eq_true (h c hc)
/-- one sign below another -/
theorem lt_one {a b : Nat} : decide (([a] : List Nat) < [b]) = decide (a < b) := by
  apply decide_eq_decide.mpr
  constructor
  · intro h
    cases h with
    | rel h => exact h
    | cons h => cases h
  · intro h
    exact List.Lex.rel h
theorem lt_one' {a b : Nat} : ([a] : List Nat) < [b] ↔ a < b := by
  have := lt_one (a := a) (b := b)
  simpa using this
theorem le_one' {a b : Nat} : ([a] : List Nat) ≤ [b] ↔ a ≤ b := by
  show ¬ (([b] : List Nat) < [a]) ↔ _
  rw [lt_one']
  omega
theorem cps_a : (Str.ofString "a").cps.toList = [97] := by decide +kernel
theorem cps_z : (Str.ofString "z").cps.toList = [122] := by decide +kernel
theorem cps_one (c : Nat) : (Str.mk #[c]).cps.toList = [c] := rfl
theorem len_one (c : Nat) : (Str.mk #[c]).length = 1 := rfl

end TL

set_option Elab.async false
set_option linter.all false
set_option maxRecDepth 100000
set_option maxHeartbeats 4000000
/-! TLd: the drawing hand; comprehensions by filter and map. -/
namespace TL
open PySem PySem.Spec L2
def S_hand : DSn := fun as R => ∃ (ns : List Int) (k : Int), as = [.scr (ns.map PyData.int), .dat (.int k)] ∧ ns.length ≤ 63 ∧ (0 ≤ k ∧ k ≤ 63) ∧ ∀ x y : Int, 0 ≤ x → 0 ≤ y → y < 2147483648 → R [.int x, .int y] []
/-- a hand -/
def okH (x y : Int) : Prop := 0 ≤ x ∧ 0 ≤ y ∧ y < 2147483648
def S_draw : DSp := fun as R => ∃ x y n : Int, as = [.own (some 0) [.int x, .int y], .dat (.int n)] ∧ okH x y ∧ (0 < n ∧ n < 1073741824) ∧
  ∀ r x' y' : Int, (0 ≤ r ∧ r < n) → okH x' y' → R (.int r) [[.int x', .int y']]
theorem call_draw {i : Nat} {u : DTE} {δ : List Sl} {R : DQ} {t : Option Nat} {x y n : Int} (hs : δ[i]? = some (.own t [.int x, .int y])) (hv : okH x y) (hn : 0 < n ∧ n < 1073741824) (hu : ∀ Q : DQ, Q (.int n) δ → u δ Q)
    (k : ∀ r x' y' : Int, (0 ≤ r ∧ r < n) → okH x' y' → R (.int r) (δ.set i (.own t [.int x', .int y']))) : dCall S_draw (cS i (cD u cNil)) δ R := by
  refine ⟨by rw [hs]; rfl, hu _ ?_⟩
  have hm : muts δ [.s i, .d (.int n)] = [i] := by
    show (match δ[i]? with
      | some (.own _ _) => i :: muts δ [.d (.int n)]
      | _ => muts δ [.d (.int n)]) = [i]
    rw [hs]
    rfl
  have ha : asOf δ [.s i, .d (.int n)] 0 = [.own (some 0) [.int x, .int y], .dat (.int n)] := by
    show (match δ[i]? with
      | some (.own _ ds) => Sl.own (some 0) ds :: asOf δ [.d (.int n)] 1
      | some (.scr ds) => .scr ds :: asOf δ [.d (.int n)] 0
      | _ => .no :: asOf δ [.d (.int n)] 0) = _
    rw [hs]
    rfl
  show (muts δ [.s i, .d (.int n)]).Nodup ∧ S_draw (asOf δ [.s i, .d (.int n)] 0) fun d outs => outs.length = (muts δ [.s i, .d (.int n)]).length ∧ R d (setOuts δ (muts δ [.s i, .d (.int n)]) outs)
  rw [hm, ha]
  refine ⟨by simp, x, y, n, rfl, hv, hn, fun r x' y' hr hv' => ⟨rfl, ?_⟩⟩
  have e : setOuts δ [i] [[.int x', .int y']] = δ.set i (.own t [.int x', .int y']) := by
    show setOut δ i [.int x', .int y'] = _
    unfold setOut
    rw [hs]
  rw [e]
  exact k r x' y' hr hv'
theorem outs1 {δ : List Sl} {cs : List PyData} (i : Nat) (h : δ[i]? = some (.own (some 0) cs)) : OutsIn δ [cs] := fun j ds hj => by
  cases j with
  | zero =>
    have e : cs = ds := by simpa using hj
    exact ⟨i, by rw [← e]; exact h⟩
  | succ j => simp at hj
/-- a comprehension that changes nothing -/
theorem lc_fm {vs : List Nat} {g : DTG} {t : DTT} {u : DTE} {R : List PyData → List Sl → Prop} (p : PyData → Bool) (f : PyData → PyData) {δ0 : List Sl} : ∀ (ds acc : List PyData) (δ : List Sl), wipeS δ vs = δ0 → acc.length + ds.length ≤ 16777216 →
    (∀ d ∈ ds, ∀ (Y : PyData → List Sl → Prop) (N : List Sl → Prop), (p d = true → ∀ δ3, wipeS δ3 vs = δ0 → Y (f d) δ3) → (p d = false → ∀ δ2, wipeS δ2 vs = δ0 → N δ2) → g d δ0 (fun δ1 => t δ1 fun b δ2 => if b = true then u δ2 Y else N δ2)) →
    wipeS δ0 vs = δ0 → (∀ δ', wipeS δ' vs = δ0 → R (acc ++ (ds.filter p).map f) δ') → lcW vs g t u R ds acc δ
  | [], acc, δ, h0, hl, hs, h00, k => by
    have z := k δ h0
    simp at z
    exact z
  | d :: r, acc, δ, h0, hl, hs, h00, k => by
    show g d (wipeS δ vs) fun δ1 => t δ1 fun b δ2 => if b = true then u δ2 fun y δ3 => acc.length < sizeLine ∧ lcW vs g t u R r (acc ++ [y]) (wipeS δ3 vs) else lcW vs g t u R r acc (wipeS δ2 vs)
    rw [h0]
    have hl' : acc.length + r.length + 1 ≤ 16777216 := by
      rw [List.length_cons] at hl
      omega
    refine hs d List.mem_cons_self (fun y δ3 => acc.length < sizeLine ∧ lcW vs g t u R r (acc ++ [y]) (wipeS δ3 vs)) _ (fun hp δ3 h3 => ⟨by rw [sizeLine_eq]; omega, ?_⟩) (fun hp δ2 h2 => ?_)
    · rw [h3]
      refine lc_fm p f r (acc ++ [f d]) δ0 h00 (by rw [List.length_append, List.length_singleton]; omega) (fun d' hd' => hs d' (List.mem_cons_of_mem _ hd')) h00 fun δ' h' => ?_
      have z := k δ' h'
      rw [List.filter_cons, if_pos hp, List.map_cons] at z
      rw [List.append_assoc]
      exact z
    · rw [h2]
      refine lc_fm p f r acc δ0 h00 (by omega) (fun d' hd' => hs d' (List.mem_cons_of_mem _ hd')) h00 fun δ' h' => ?_
      have z := k δ' h'
      rw [List.filter_cons, if_neg (by rw [hp]; decide)] at z
      exact z
theorem at0 {α : Type} (a : α) (l : List α) : atI (a :: l) 0 = some a := by
  unfold atI ixN
  rw [if_pos (by decide), if_pos (by simp only [List.length_cons]; omega)]
  rfl
theorem at1 {α : Type} (a b : α) (l : List α) : atI (a :: b :: l) 1 = some b := by
  unfold atI ixN
  rw [if_pos (by decide), if_pos (by simp only [List.length_cons]; omega)]
  rfl
theorem ix20 : ixN 2 0 = some 0 := rfl
theorem ix21 : ixN 2 1 = some 1 := rfl
theorem cutP_map (ns : List Int) (lo hi : Option Int) : ∃ ms : List Int, cutP (ns.map PyData.int) lo hi = ms.map PyData.int ∧ ms.length ≤ ns.length := by
  refine ⟨(ns.drop (HT.sIx ns.length 0 lo)).take (HT.sIx ns.length ns.length hi - HT.sIx ns.length 0 lo), ?_, ?_⟩
  · unfold cutP
    rw [List.length_map, List.map_take, List.map_drop]
  · rw [List.length_take, List.length_drop]
    omega
theorem cell_at (ns : List Int) (lo hi : Option Int) : ∃ z : Int, atI (cutP (ns.map PyData.int) lo hi ++ [PyData.int 0]) 0 = some (.int z) := by
  obtain ⟨ms, e, _⟩ := cutP_map ns lo hi
  rw [e]
  cases ms with
  | nil => exact ⟨0, rfl⟩
  | cons m r => exact ⟨m, at0 _ _⟩
theorem nat_le_size {n : Nat} (h : n ≤ 16777216) : n ≤ sizeLine := by
  rw [sizeLine_eq]
  exact h
end TL

set_option Elab.async false
set_option linter.all false
set_option maxRecDepth 100000
set_option maxHeartbeats 4000000
/-! TLe: calls by their kinds; loops by an invariant; texts. -/
namespace TL
open PySem PySem.Spec L2
theorem asOf_d (δ : List Sl) : ∀ (ds : List PyData) (j : Nat), asOf δ (ds.map CA.d) j = ds.map Sl.dat
  | [], _ => rfl
  | d :: r, j => by
    show Sl.dat d :: asOf δ (r.map CA.d) j = _
    rw [asOf_d δ r j]
    rfl
theorem muts_d (δ : List Sl) : ∀ ds : List PyData, muts δ (ds.map CA.d) = []
  | [] => rfl
  | d :: r => muts_d δ r
/-- a call by data alone -/
theorem call_pure {S : DSp} {ua : DCA} {δ : List Sl} {R : DQ} (ds : List PyData) (hu : ∀ Q : List CA → List Sl → Prop, Q (ds.map CA.d) δ → ua δ Q) (k : S (ds.map Sl.dat) fun d outs => outs = [] ∧ R d δ) (mono : ∀ R R' : PyData → List (List PyData) → Prop, (∀ d o, R d o → R' d o) → S (ds.map Sl.dat) R → S (ds.map Sl.dat) R') : dCall S ua δ R := by
  refine hu _ ?_
  rw [muts_d, asOf_d]
  refine ⟨List.nodup_nil, mono _ _ (fun d o h => ?_) k⟩
  obtain ⟨rfl, h⟩ := h
  exact ⟨rfl, h⟩
/-- a call that may change the list in slot i, its first argument -/
theorem call_own1 {S : DSp} {ua : DCA} {δ : List Sl} {R : DQ} {i : Nat} {t : Option Nat} {cs : List PyData} (hs : δ[i]? = some (.own t cs)) (ds : List PyData) (hu : ∀ Q : List CA → List Sl → Prop, Q (ds.map CA.d) δ → ua δ Q)
    (k : S (.own (some 0) cs :: ds.map Sl.dat) fun d outs => ∃ o, outs = [o] ∧ R d (δ.set i (.own t o))) (mono : ∀ R R' : PyData → List (List PyData) → Prop, (∀ d o, R d o → R' d o) → S (.own (some 0) cs :: ds.map Sl.dat) R → S (.own (some 0) cs :: ds.map Sl.dat) R') : dCall S (cS i ua) δ R := by
  refine ⟨by rw [hs]; rfl, hu _ ?_⟩
  have hm : muts δ (.s i :: ds.map CA.d) = [i] := by
    show (match δ[i]? with
      | some (.own _ _) => i :: muts δ (ds.map CA.d)
      | _ => muts δ (ds.map CA.d)) = [i]
    rw [hs, muts_d]
  have ha : asOf δ (.s i :: ds.map CA.d) 0 = .own (some 0) cs :: ds.map Sl.dat := by
    show (match δ[i]? with
      | some (.own _ ds') => Sl.own (some 0) ds' :: asOf δ (ds.map CA.d) 1
      | some (.scr ds') => .scr ds' :: asOf δ (ds.map CA.d) 0
      | _ => .no :: asOf δ (ds.map CA.d) 0) = _
    rw [hs, asOf_d]
  show (muts δ (.s i :: ds.map CA.d)).Nodup ∧ S (asOf δ (.s i :: ds.map CA.d) 0) fun d outs => outs.length = (muts δ (.s i :: ds.map CA.d)).length ∧ R d (setOuts δ (muts δ (.s i :: ds.map CA.d)) outs)
  rw [hm, ha]
  refine ⟨by simp, mono _ _ (fun d o h => ?_) k⟩
  obtain ⟨o, rfl, h⟩ := h
  refine ⟨rfl, ?_⟩
  have e : setOuts δ [i] [o] = δ.set i (.own t o) := by
    show setOut δ i o = _
    unfold setOut
    rw [hs]
  rw [e]
  exact h
/-- a new hand -/
theorem call_hand {i j q : Nat} {δ : List Sl} {E : List Sl → Prop} {ns : List Int} {k : Int} (hs : δ[j]? = some (.scr (ns.map PyData.int))) (hk : δ[q]? = some (.dat (.int k))) (hl : ns.length ≤ 63) (hb : 0 ≤ k ∧ k ≤ 63)
    (h : ∀ x y : Int, okH x y → E (δ.set i (.own none [.int x, .int y]))) : dCallOwn i S_hand (cS j (cD (dVar q) cNil)) E δ := by
  refine ⟨by rw [hs]; rfl, ?_⟩
  show dVar q δ _
  unfold dVar
  rw [hk]
  have hm : muts δ [.s j, .d (.int k)] = [] := by
    show (match δ[j]? with
      | some (.own _ _) => j :: muts δ [.d (.int k)]
      | _ => muts δ [.d (.int k)]) = []
    rw [hs]
    rfl
  have ha : asOf δ [.s j, .d (.int k)] 0 = [.scr (ns.map PyData.int), .dat (.int k)] := by
    show (match δ[j]? with
      | some (.own _ ds) => Sl.own (some 0) ds :: asOf δ [.d (.int k)] 1
      | some (.scr ds) => .scr ds :: asOf δ [.d (.int k)] 0
      | _ => .no :: asOf δ [.d (.int k)] 0) = _
    rw [hs]
    rfl
  show (muts δ [.s j, .d (.int k)]).Nodup ∧ S_hand (asOf δ [.s j, .d (.int k)] 0) fun ds outs => outs.length = (muts δ [.s j, .d (.int k)]).length ∧ E ((setOuts δ (muts δ [.s j, .d (.int k)]) outs).set i (.own none ds))
  rw [hm, ha]
  exact ⟨List.nodup_nil, ns, k, rfl, hl, hb, fun x y a b c => ⟨rfl, h x y ⟨a, b, c⟩⟩⟩
theorem for_inv {g : DTG} {u : DTS} {E : DEnds} (I : List Sl → Prop) (he : ∀ δ, I δ → E.nx δ) : ∀ (ds : List PyData) (δ : List Sl), I δ →
    (∀ d ∈ ds, ∀ δ, I δ → ∀ N : List Sl → Prop, (∀ δ', I δ' → N δ') → g d δ fun δ1 => u { E with nx := N, ct := N, bk := E.nx } δ1) → forW g u E ds δ
  | [], δ, hi, _ => he δ hi
  | d :: r, δ, hi, hs => hs d List.mem_cons_self δ hi _ fun δ' h' => for_inv I he r δ' h' fun d' hd' => hs d' (List.mem_cons_of_mem _ hd')
/-- texts -/
theorem okC_cut {z : Str} (h : okC z) (lo hi : Option Int) : okC (cutS z lo hi) := fun c hc => by
  have hc : c ∈ (z.cps.toList.drop (HT.sIx z.length 0 lo)).take (HT.sIx z.length z.length hi - HT.sIx z.length 0 lo) := hc
  exact h c (List.mem_of_mem_drop (List.mem_of_mem_take hc))
theorem tl_app (x y : Str) : (x ++ y).cps.toList = x.cps.toList ++ y.cps.toList := TL.tl_append x y
theorem okC_app {x y : Str} (hx : okC x) (hy : okC y) : okC (x ++ y) := fun c hc => by
  rw [tl_app, List.mem_append] at hc
  exact hc.elim (hx c) (hy c)
theorem len_app (x y : Str) : (x ++ y).length = x.length + y.length := PySem.Str.length_append x y
theorem okC_one {c : Nat} (h : c < 1114112) : okC ⟨#[c]⟩ := fun d hd => by
  have e : d = c := by simpa using hd
  rw [e]
  exact h
theorem mul01 {x : Str} {i : Int} (h0 : 0 ≤ i) (h1 : i < 2) : (Txt.mul x i = Str.empty) ∨ Txt.mul x i = x := by
  have hi : i = 0 ∨ i = 1 := by omega
  rcases hi with rfl | rfl
  · left
    unfold Txt.mul
    rw [if_pos (by decide)]
  · right
    unfold Txt.mul
    rw [if_neg (by decide), if_pos (by simp)]
theorem join_ones : ∀ cs : List Nat, Txt.join (Str.ofString "") (cs.map fun c => (⟨#[c]⟩ : Str)) = ⟨cs.toArray⟩ := fun cs => by
  apply TL.ext_tl
  rw [TL.join_eq]
  show TL.tl (Str.join _ _) = cs
  rw [TL.tl_join]
  have e0 : TL.tl (Str.ofString "") = [] := by decide +kernel
  rw [e0]
  induction cs with
  | nil => rfl
  | cons c r ih =>
    cases r with
    | nil => rfl
    | cons d r =>
      show [c] ++ ([] ++ TL.joinL [] _) = c :: d :: r
      rw [List.nil_append]
      exact congrArg (c :: ·) ih
theorem strsOf_ones : ∀ cs : List Nat, strsOf (cs.map fun c => PyData.str ⟨#[c]⟩) = some (cs.map fun c => (⟨#[c]⟩ : Str))
  | [] => rfl
  | c :: r => by
    show (strsOf (r.map fun c => PyData.str ⟨#[c]⟩)).map _ = _
    rw [strsOf_ones r]
    rfl
end TL

set_option Elab.async false
set_option linter.all false
set_option maxRecDepth 100000
set_option maxHeartbeats 4000000
/-! TLp: slices of texts with a step; sums, greatest; find; the set of a list of ints, sorted. -/
namespace TL
open PySem PySem.Spec L2

/-! ### z[a:b:k] -/
def sliceS (z : Str) (a b k : Int) : Str :=
  if (k == 1 && (Builtin.Str.strSliceIndices (some a) (some b) k z.length).length == z.length) = true then z
  else ⟨((Builtin.Str.strSliceIndices (some a) (some b) k z.length).filterMap (z.cps[·]?)).toArray⟩
def tSlStep (te ta tb tk : TE) : TE := fun σ H Q => te σ H fun x H1 => ta σ H1 fun a H2 => tb σ H2 fun b H3 => tk σ H3 fun k H4 =>
  ∃ z i j n, x = .str z ∧ a = .int i ∧ b = .int j ∧ k = .int n ∧ n ≠ 0 ∧ z.length ≤ sizeLine ∧ Q (.str (sliceS z i j n)) H4
section
variable {X : Cx} {e a b k : Expr} {te ta tb tk : TE} {pos p2 : Pos}
open PyProof.Rows in
theorem pe_slStep (he : PE X e te) (ha : PE X a ta) (hb : PE X b tb) (hk : PE X k tk) : PE X (.Subscript e (.Slice (some a) (some b) (some k) p2) pos) (tSlStep te ta tb tk) := by
  refine ⟨fun pins s σ H Q I h => ?_⟩
  refine PyProof.Rows.Subscript_ (thn (he.run pins s σ H _ I h) fun v s1 ⟨x, H1, I1, r1, q1⟩ => ?_)
  refine wpAny_Slice ?_
  rw [evalPart_some]
  refine thn (ha.run pins s1 σ H1 _ I1 q1) fun va s2 ⟨x2, H2, I2, r2, q2⟩ => ?_
  rw [evalPart_some]
  refine thn (hb.run pins s2 σ H2 _ I2 q2) fun vb s3 ⟨x3, H3, I3, r3, q3⟩ => ?_
  rw [evalPart_some]
  refine thn (hk.run pins s3 σ H3 _ I3 q3) fun vk s4 ⟨x4, H4, I4, r4, q4⟩ => ?_
  obtain ⟨z, i, j, n, rfl, rfl, rfl, rfl, hn, hz, q⟩ := q4
  obtain ⟨t1, rfl⟩ := r1
  obtain ⟨t2, rfl⟩ := r2
  obtain ⟨t3, rfl⟩ := r3
  obtain ⟨t4, rfl⟩ := r4
  have I5 : Inv X pins σ H4 { s4 with heap := s4.heap.push { cls := .type "slice", data := .fields #[.int i t2, .int j t3, .int n t4] } } := I4.kept (t' := s4.toks) fun b ob q => Heap.get?_push_of_some _ q
  refine tail_any (ops := [.ref s4.heap.objs.size, .str z t1]) (typeIs_str _ _ _) F.slot_str_getitem.lookup ?_ (by with_unfolding_all rfl)
  refine wpAny_getItem_str_slice (l := some (i, t2)) (u := some (j, t3)) (st := some (n, t4)) ⟨_, Heap.get?_push_size _ rfl, rfl, rfl⟩ (by simpa using hn) ?_
  unfold sliceMade slicePicked
  unfold sliceS at q
  show Made.post (if (n == 1 && (Builtin.Str.strSliceIndices (some i) (some j) n z.length).length == z.length) = true then Made.val (.str z t1) else _) _ _
  by_cases c : (n == 1 && (Builtin.Str.strSliceIndices (some i) (some j) n z.length).length == z.length) = true
  · rw [if_pos c] at q ⊢
    exact ⟨.str z, H4, I5, ⟨_, rfl⟩, q⟩
  · rw [if_neg c] at q ⊢
    refine ⟨?_, .str _, H4, I5.tok _, ⟨_, rfl⟩, q⟩
    show (((Builtin.Str.strSliceIndices (some i) (some j) n z.length).filterMap (z.cps[·]?)).toArray).size ≤ sizeLine
    rw [List.size_toArray]
    exact Nat.le_trans (List.length_filterMap_le _ _) (Nat.le_trans (sliceIndicesBy_le _ _ n hn z.length) hz)
def dSlStep (ue ua ub uk : DTE) : DTE := fun δ R => ue δ fun d δ1 => ua δ1 fun d1 δ2 => ub δ2 fun d2 δ3 => uk δ3 fun d3 δ4 => match d, d1, d2, d3 with
  | .str z, .int i, .int j, .int n => (n ≠ 0 ∧ z.length ≤ sizeLine) ∧ R (.str (sliceS z i j n)) δ4
  | _, _, _, _ => False
theorem re_slStep {K : PySem.W.Frag} {ue ua ub uk : DTE} (he : RE K te ue) (ha : RE K ta ua) (hb : RE K tb ub) (hk : RE K tk uk) : RE K (tSlStep te ta tb tk) (dSlStep ue ua ub uk) := by
  intro c σ G H δ Q R E h kk
  refine he c σ G H δ _ _ E h fun d δ1 v G1 H1 h1 E1 e1 r => ?_
  refine ha c σ G1 H1 δ1 _ _ E1 h1 fun d1 δ2 v1 G2 H2 h2 E2 e2 r1 => ?_
  refine hb c σ G2 H2 δ2 _ _ E2 h2 fun d2 δ3 v2 G3 H3 h3 E3 e3 r2 => ?_
  refine hk c σ G3 H3 δ3 _ _ E3 h3 fun d3 δ4 v3 G4 H4 h4 E4 e4 r3 => ?_
  cases d <;> first
    | exact False.elim h4
    | skip
  cases d1 <;> first
    | exact False.elim h4
    | skip
  cases d2 <;> first
    | exact False.elim h4
    | skip
  cases d3 <;> first
    | exact False.elim h4
    | skip
  exact ⟨_, _, _, _, r.str_of, r1.int_of, r2.int_of, r3.int_of, h4.1.1, h4.1.2, kk _ δ4 _ G4 H4 h4.2 E4 (((e1.trans e2).trans e3).trans e4) (.str _)⟩
theorem de_slStep {ue ua ub uk : DTE} (he : DE X e te ue) (ha : DE X a ta ua) (hb : DE X b tb ub) (hk : DE X k tk uk) : DE X (.Subscript e (.Slice (some a) (some b) (some k) p2) pos) (tSlStep te ta tb tk) (dSlStep ue ua ub uk) :=
  ⟨pe_slStep he.pe ha.pe hb.pe hk.pe, re_slStep he.re ha.re hb.re hk.re⟩
end

/-! ### sums, the greatest, find -/
def intsOf : List PyData → Option (List Int)
  | [] => some []
  | .int x :: r => (intsOf r).map (x :: ·)
  | _ :: _ => none
theorem intsOf_map : ∀ ns : List Int, intsOf (ns.map PyData.int) = some ns
  | [] => rfl
  | n :: r => by
    show (intsOf (r.map PyData.int)).map _ = _
    rw [intsOf_map r]
    rfl
section
variable {K : PySem.W.Frag} {ta tb : TE} {ua ub : DTE}
theorem ints_of_rp {G : Hp} : ∀ {ds : List PyData} {xs : List V} {ys : List Int}, RpAll K G xs ds → intsOf ds = some ys → xs = ys.map V.int
  | _, _, _, .nil, h => by
    cases h
    rfl
  | d :: ds, _, ys, .cons (v := v) (vs := vs) r rr, h => by
    cases d <;> first
      | (cases h; done)
      | skip
    rename_i x
    have h : (intsOf ds).map (x :: ·) = some ys := h
    cases q : intsOf ds with
    | none =>
      rw [q] at h
      cases h
    | some zs =>
      rw [q] at h
      cases h
      rw [ints_of_rp rr q, r.int_of]
      rfl
def dSum (u : DTE) : DTE := fun δ R => u δ fun d δ1 => match d with
  | .list ds => (match intsOf ds with
    | some ns => R (.int ns.sum) δ1
    | none => False)
  | _ => False
theorem re_sum (ha : RE K ta ua) : RE K (tCB (rSum K) (tCons ta tNil)) (dSum ua) := by
  intro c σ G H δ Q R E h k
  refine ha c σ G H δ _ _ E h fun d δ1 v G1 H1 h1 E1 e1 r => ?_
  cases d <;> first
    | exact False.elim h1
    | skip
  rename_i ds
  have h1 : (match intsOf ds with
    | some ns => R (.int ns.sum) δ1
    | none => False) := h1
  obtain ⟨a, xs, rfl, q1, q2⟩ := r.lst_of
  cases q : intsOf ds with
  | none =>
    rw [q] at h1
    exact h1.elim
  | some ns =>
    rw [q] at h1
    exact ⟨a, ns, rfl, .inl (.inl (by rw [← ints_of_rp q2 q]; exact E1.ex _ _ q1)), k _ δ1 _ G1 H1 h1 E1 e1 (.int _)⟩
/-- the greatest of a list that is not empty -/
def dMaxL (u : DTE) : DTE := fun δ R => u δ fun d δ1 => match d with
  | .list ds => (match intsOf ds with
    | some ns => 0 < ns.length ∧ ∀ m, m ∈ ns → (∀ y, y ∈ ns → y ≤ m) → R (.int m) δ1
    | none => False)
  | _ => False
theorem re_maxL (ha : RE K ta ua) : RE K (tCB (rMax K) (tCons ta tNil)) (dMaxL ua) := by
  intro c σ G H δ Q R E h k
  refine ha c σ G H δ _ _ E h fun d δ1 v G1 H1 h1 E1 e1 r => ?_
  cases d <;> first
    | exact False.elim h1
    | skip
  rename_i ds
  have h1 : (match intsOf ds with
    | some ns => 0 < ns.length ∧ ∀ m, m ∈ ns → (∀ y, y ∈ ns → y ≤ m) → R (.int m) δ1
    | none => False) := h1
  obtain ⟨a, xs, rfl, q1, q2⟩ := r.lst_of
  cases q : intsOf ds with
  | none =>
    rw [q] at h1
    exact h1.elim
  | some ns =>
    rw [q] at h1
    exact ⟨a, ns, rfl, .inl (.inl (by rw [← ints_of_rp q2 q]; exact E1.ex _ _ q1)), h1.1, fun m hm hy => k _ δ1 _ G1 H1 (h1.2 m hm hy) E1 e1 (.int _)⟩
def rFind : V → List V → Hp → VK → Prop := fun x xs H Q => ∃ a b, x = .str a ∧ xs = [.str b] ∧ Q (.int (Txt.find a b)) H
def dFind (ua ub : DTE) : DTE := fun δ R => ua δ fun d1 δ1 => match d1 with
  | .str a => ub δ1 fun d2 δ2 => (match d2 with
    | .str b => R (.int (Txt.find a b)) δ2
    | _ => False)
  | _ => False
theorem re_find (ha : RE K ta ua) (hb : RE K tb ub) : RE K (tM1 rFind ta tb) (dFind ua ub) := by
  intro c σ G H δ Q R E h k
  refine ha c σ G H δ _ _ E h fun d1 δ1 v1 G1 H1 h1 E1 e1 r1 => ?_
  cases d1 <;> first
    | exact False.elim h1
    | skip
  rename_i a
  refine ⟨⟨a, r1.str_of⟩, ?_⟩
  refine hb c σ G1 H1 δ1 _ _ E1 h1 fun d2 δ2 v2 G2 H2 h2 E2 e2 r2 => ?_
  cases d2 <;> first
    | exact False.elim h2
    | exact ⟨a, _, r1.str_of, by rw [r2.str_of], k _ δ2 _ G2 H2 h2 E2 (e1.trans e2) (.int _)⟩
end
section
variable {X : Cx} {a b : Expr} {ta tb : TE} {ua ub : DTE} {pos p : Pos}
theorem de_sum1 (hm : X.mg "sum" = none) (ha : DE X a ta ua) (hc : X.calm = true := by rfl) (hg : Gl X "sum" := by rfl) (hv : bootBuiltins "sum" = some (.builtin "sum") := by decide +kernel) (hs : starEach [a] X.env = (false, eval a X.env) :: starEach [] X.env := by rfl) (hpl : (backTo pos (starEach [] X.env)).any (·.1) = false := by rfl) :
    DE X (.Call (.Name "sum" p) [a] [] pos) (tCB (rSum X.K) (tCons ta tNil)) (dSum ua) := ⟨pe_callB (cr_sum hc) hg hm hv (pa_cons ha.pe pa_nil hs) (by decide) (by decide) hs hpl, re_sum ha.re⟩
theorem de_max1 (hm : X.mg "max" = none) (ha : DE X a ta ua) (hc : X.calm = true := by rfl) (hg : Gl X "max" := by rfl) (hs : starEach [a] X.env = (false, eval a X.env) :: starEach [] X.env := by rfl) (hpl : (backTo pos (starEach [] X.env)).any (·.1) = false := by rfl) :
    DE X (.Call (.Name "max" p) [a] [] pos) (tCB (rMax X.K) (tCons ta tNil)) (dMaxL ua) := ⟨pe_callB (cr_max hc) hg hm PyProof.Rows.boot_max (pa_cons ha.pe pa_nil hs) (by decide) (by decide) hs hpl, re_maxL ha.re⟩
theorem de_m_find {apos : Pos} (ha : DE X a ta ua) (hb : DE X b tb ub) (hs : starEach [b] X.env = [(false, eval b X.env)] := by rfl) (hbase : attributeBase a "find" X.env (eval a X.env) = eval a X.env := by rfl) (hline : (apos.endLine == pos.line) = true := by rfl) :
    DE X (.Call (.Attribute a "find" apos) [b] [] pos) (tM1 rFind ta tb) (dFind ua ub) := ⟨pe_m1 F.slot_str_find F.type_str_find mt_find ha.pe hb.pe hs hbase hline, re_find ha.re hb.re⟩
end
end TL

set_option Elab.async false
set_option linter.all false
set_option maxRecDepth 100000
set_option maxHeartbeats 4000000
/-! TLq: the set of a list of ints, made by the type's call; sorted of it. -/
namespace TL
open PySem PySem.Spec PyProof.Rows L2
/-- a set without members, as it is laid -/
abbrev setE (w : World) : Obj := { cls := .type "set", dict := none, data := .set #[] 0 (.fresh 0 0 (!w.params.followText "set-order")) }
section
variable {P : Program} {w : World} {A : Around} {E : Value → Shared → Prop} {s : Shared}
/-- what is known behind the filling -/
def Filled (w : World) (s : Shared) (ns : List Int) (s2 : Shared) : Prop := ∃ (g : Heap) (k n : Nat), s2 = { s with heap := g, toks := k } ∧ SetR w g s.heap.objs.size (fun j => decide (j ∈ ns)) n ∧ n ≤ ns.length ∧ ∀ b o, s.heap.get? b = some o → g.get? b = some o
set_option maxHeartbeats 4000000 in
theorem fill_list {l : Addr} {its : Array Value} {ns : List Int} (calm : A.handled = none) (L : s.heap.IsList l its) (hit : IntsAre its.toList ns) (room : ns.length + 1 < scanBound) :
    codeAny (model P w) A (.call (.builtin "set.__init__") ⟨[.ref s.heap.objs.size, .ref l], []⟩) (wants (fun r s2 => r = .none ∧ Filled w s ns s2) E) { s with heap := s.heap.push (setE w) } := by
  have e0 : (s.heap.push (setE w)).get? s.heap.objs.size = some (setE w) := Heap.get?_push_size _ rfl
  have ty : Shared.TypeIs { s with heap := s.heap.push (setE w) } (.ref s.heap.objs.size) "set" := ⟨_, e0, rfl⟩
  have isz : its.size = ns.length := by
    have q := IntsAre.length hit
    rwa [Array.length_toList] at q
  refine codeAny_call_builtin F.called_set.init.plain F.entry_set_init (check_set_init_1 ty ?_)
  have L1 : (s.heap.push (setE w)).IsList l its := L.push _
  obtain ⟨⟨oc, od, ob, os⟩, ho, hc, n0, hd⟩ := L
  simp only at hc hd
  subst hc hd
  have hlt : l < s.heap.objs.size := Heap.lt_size ho
  have ho1 : (s.heap.push (setE w)).get? l = some { cls := .type "list", dict := od, data := .seq its n0, slots := os } := Heap.get?_push_of_some _ ho
  have f1 := F.sub_list_set
  have f2 := F.sub_list_frozenset
  have f3 : (Value.type "list" == Value.type "dict") = false := by decide
  unfold Builtin.«set.__init__» noKeywords Builtin.Frozenset.updateFrom
  generalize hp : pyIter = PI
  wp_walk
  subst hp
  refine wpAny_pyIter_list L1 ?_
  refine wpAny_bind (wpAny_runValue ?_)
  have c3 : A.in1.in1.handled = none := by simp [calm]
  have n1 : (s.heap.push (setE w)).objs.size = s.heap.objs.size + 1 := Heap.size_push ..
  have n2 : l ≠ (s.heap.push (setE w)).objs.size := by
    rw [n1]
    exact Nat.ne_of_lt (Nat.lt_succ_of_lt hlt)
  have n3 : s.heap.objs.size ∉ [(s.heap.push (setE w)).objs.size, l] := by
    rw [n1]
    intro z
    rcases List.mem_cons.mp z with z | z
    · exact absurd z (Nat.ne_of_lt (Nat.lt_succ_self _))
    · exact absurd (List.mem_singleton.mp z) (Nat.ne_of_gt hlt)
  have vals : ∀ (i : Nat) (v : Value), its[i]? = some v → ∃ k t, ns[i]? = some k ∧ v = .int k t := fun i v hv => by
    have hi : i < ns.length := by
      rw [← isz]
      exact (Array.getElem?_eq_some_iff.mp hv).1
    obtain ⟨t, e⟩ := IntsAre.int_at hit i v (by rw [Array.getElem?_toList]; exact hv)
    refine ⟨ns[i], t, List.getElem?_eq_getElem hi, ?_⟩
    rw [e, List.getD_eq_getElem?_getD, List.getElem?_eq_getElem hi]
    rfl
  refine set_update_ints ((Walks.list c3 _ l n2 its).toS) s.heap.objs.size n3 ns isz room vals (its.size - 0) 0 _ (by omega) (Nat.zero_le _) ?_ ?_ ?_
  · exact ⟨⟨_, Heap.get?_push_size _ rfl, rfl, rfl⟩, L1.push _⟩
  · exact ⟨0, Nat.le_refl 0, setR_new_at (Heap.get?_push_of_some _ e0)⟩
  · intro s3 n mv hn S
    obtain ⟨g, gs, dr, tk, oo⟩ := s3
    obtain rfl : gs = s.gens := mv.gens
    obtain rfl : dr = s.drawn := mv.drawn
    obtain rfl : oo = s.os := mv.os
    show wpAny _ _ _ _ _ _
    refine wpAny_pure ?_
    show wpAny _ _ (ret Value.none) _ _ _
    refine wpAny_pure ⟨rfl, g, tk, n, rfl, S, by rw [isz] at hn; exact hn, fun b o e => ?_⟩
    have b0 : b < s.heap.objs.size := Heap.lt_size e
    refine mv.heap b o (fun z => ?_) (Heap.get?_push_of_some _ (Heap.get?_push_of_some _ e))
    rcases List.mem_cons.mp z with z | z
    · exact absurd z (Nat.ne_of_lt b0)
    · have z := List.mem_singleton.mp z
      rw [n1] at z
      exact absurd z (Nat.ne_of_lt (Nat.lt_succ_of_lt b0))
/-- set(xs), xs a list of ints -/
theorem set_of_ints {l : Addr} {its : Array Value} {ns : List Int} {Q : Value → Shared → Prop} (calm : A.handled = none) (L : s.heap.IsList l its) (hit : IntsAre its.toList ns) (room : ns.length + 1 < scanBound)
    (k : ∀ s2, Filled w s ns s2 → Q (.ref s.heap.objs.size) s2) : wpAny (model P w) A (call (.type "set") [.ref l]) Q E s := by
  obtain ⟨m1, m2, m3⟩ := F.called_set.mro; have m4 := F.called_set.made; have m5 := F.called_set.sub
  refine wpAny_call (codeAny_of_tree ?tree); case tree =>
  show wpAny _ _ (callAny (.type "set") ⟨[.ref l], []⟩) _ _ _
  refine wpAny_pure ⟨Code.quiet_builtin _ (by decide +kernel), codeAny_builtin F.entry_type_call ?body⟩; case body =>
  rw [Around.under_plain (weight_type_call_type "set" [.ref l] []) rfl]; have m6 := F.called_set.notType; have m7 := F.called_set.canCreate; have m8 := F.typeCall_set_1 (.ref l)
  repeat (any_goals first | assumption | wp_step)
  refine codeAny_mono (code_set_led1 (.ref l) (E := E) (Q₁ := fun v s1 => v = .ref s.heap.objs.size ∧ s1 = { s with heap := s.heap.push (setE w) }) ⟨rfl, rfl⟩) ?after
  case after =>
    rintro (e | f) s1 hr
    · exact hr
    · cases f with
      | ret v =>
        obtain ⟨rfl, rfl⟩ := hr
        have e0 : (s.heap.push (setE w)).get? s.heap.objs.size = some (setE w) := Heap.get?_push_size _ rfl
        have ty : Shared.TypeIs { s with heap := s.heap.push (setE w) } (.ref s.heap.objs.size) "set" := ⟨_, e0, rfl⟩
        have i1 := F.called_set.init.lookup; have i2 := F.called_set.init.bind (.ref s.heap.objs.size)
        repeat (any_goals first | assumption | wp_step)
        refine codeAny_mono (fill_list (E := E) (by first | exact calm | simp [calm]) L hit room) ?done
        case done =>
          rintro (e | f) s2 hr2
          · exact hr2
          · cases f with
            | ret r =>
              obtain ⟨rfl, hf⟩ := hr2
              repeat (any_goals first | assumption | wp_step)
              exact k _ hf
            | _ => exact hr2.elim
      | _ => exact hr.elim
end
/-! ### over the layer -/
section
variable {X : Cx}
/-- set(xs) -/
def rSetI (K : PySem.W.Frag) (w : World) : List V → Hp → VK → Prop := fun xs H Q => ∃ (a : Addr) (ns : List Int), xs = [V.ref a] ∧ SqL K H a (ns.map V.int) ∧ ns.length < 60 ∧
  ∀ (p : Addr) (n : Nat), H p = none → n ≤ ns.length → Q (.ref p) (upd H p (SetO w p (fun j => decide (j ∈ ns)) n))
theorem cr_setI (hc : X.calm = true) : CallR X (.type "set") (rSetI X.K X.w) := by
  intro pins s σ H xs us Q I r h
  obtain ⟨a, ns, rfl, hS, hl, q⟩ := h
  rw [Vals.ref1 r]
  obtain ⟨its, rv, pl, hz⟩ := I.list hS
  refine set_of_ints (I.ok.hd hc) pl.isList (by rw [List.toList_toArray]; exact ints_of_vals rv) (by unfold scanBound; omega) fun s2 hf => ?_
  obtain ⟨g, k, n, rfl, S, hn, kept⟩ := hf
  have free : H s.heap.objs.size = none := I.hok.fresh (Nat.le_refl _)
  exact ⟨.ref _, _, I.laid (t' := k) kept (Nat.le_refl _) (setO_new S), rfl, q _ n free hn⟩
end
end TL

set_option Elab.async false
set_option linter.all false
set_option maxRecDepth 100000
set_option maxHeartbeats 4000000
/-! TLr: max with default=, sorted(set(ints)), tuples put together, calls by keywords alone. -/
namespace TL
open PySem PySem.Spec L2
section
variable {X : Cx}
/-- max(xs, default=d) -/
def rMaxDf (K : PySem.W.Frag) : List V → List V → Hp → VK → Prop := fun xs zs H Q => ∃ (a : Addr) (ns : List Int) (d : Int), xs = [V.ref a] ∧ zs = [V.int d] ∧ SqL K H a (ns.map V.int) ∧ (ns = [] → Q (.int d) H) ∧ ∀ m, m ∈ ns → (∀ y, y ∈ ns → y ≤ m) → Q (.int m) H
theorem foldmax_in : ∀ (r : List Int) (n : Int), r.foldl max n ∈ n :: r ∧ ∀ y ∈ n :: r, y ≤ r.foldl max n
  | [], n => ⟨List.mem_cons_self, fun y hy => by rw [List.mem_singleton.mp hy]; exact Int.le_refl _⟩
  | k :: r, n => by
    obtain ⟨h1, h2⟩ := foldmax_in r (max n k)
    rw [List.foldl_cons]
    constructor
    · rcases List.mem_cons.mp h1 with e | e
      · rw [e]
        by_cases hk : n ≤ k
        · rw [Int.max_eq_right hk]
          exact List.mem_cons_of_mem _ List.mem_cons_self
        · rw [Int.max_eq_left (by omega)]
          exact List.mem_cons_self
      · exact List.mem_cons_of_mem _ (List.mem_cons_of_mem _ e)
    · intro y hy
      have top := h2 _ List.mem_cons_self
      rcases List.mem_cons.mp hy with e | hy
      · rw [e]
        exact Int.le_trans (Int.le_max_left _ _) top
      · rcases List.mem_cons.mp hy with e | hy
        · rw [e]
          exact Int.le_trans (Int.le_max_right _ _) top
        · exact h2 y (List.mem_cons_of_mem _ hy)
theorem depth_ints : ∀ ns : List Int, PyData.depthAll (ns.map PyData.int) = 0
  | [] => rfl
  | n :: r => by
    show max (PyData.depth (.int n)) (PyData.depthAll (r.map PyData.int)) = 0
    rw [depth_ints r]
    rfl
theorem cr_maxDf (hc : X.calm = true) (hu : X.A.units + 65 < cLine) : CallRK X (.builtin "max") [Str.ofString "default"] (rMaxDf X.K) := by
  intro pins s σ H xs zs us ws Q I r rz h
  obtain ⟨a, ns, d, rfl, rfl, hs, q0, q1⟩ := h
  obtain ⟨its, rv, hl, _⟩ := I.list hs
  rw [Vals.ref1 r]
  obtain ⟨u, rfl, ru⟩ := L2.vals1 rz
  obtain ⟨t, rfl⟩ := ru
  show wpAny _ _ (call (.builtin "max") [.ref a] [(Str.ofString "default", .int d t)]) _ _ _
  refine PySem.W.max_list_default (xs := ns.map PyData.int) (as := []) (I.ok.hd hc) hl.isList (by rw [List.toList_toArray]; exact PyProof.Rows.ints_readAll _ rv.ints) ⟨fun x hx y hy => ?_, fun x hx => ?_⟩ (by rw [depth_ints]; omega) (fun e h' tk hk => ?_) (fun y ys i v h' tk bs e hv rd hk => ?_)
  · obtain ⟨i, _, rfl⟩ := List.mem_map.mp hx
    obtain ⟨j, _, rfl⟩ := List.mem_map.mp hy
    rfl
  · obtain ⟨i, _, rfl⟩ := List.mem_map.mp hx
    exact fun z => nomatch z
  · exact ⟨.int d, H, I.kept hk, ⟨_, rfl⟩, q0 (List.map_eq_nil_iff.mp e)⟩
  · cases ns with
    | nil => cases e
    | cons n r =>
      rw [List.map_cons] at e
      obtain ⟨rfl, rfl⟩ := List.cons.inj e
      rw [PySem.W.maxD_ints] at rd
      obtain ⟨h1, h2⟩ := foldmax_in r n
      cases rd
      exact ⟨.int _, H, I.kept hk, ⟨_, rfl⟩, q1 _ h1 h2⟩
end
section
variable {K : PySem.W.Frag} {ta tb : TE} {ua ub : DTE}
def dMaxDf (u : DTE) (k : Int) : DTE := fun δ R => u δ fun d δ1 => match d with
  | .list ds => (match intsOf ds with
    | some ns => (ns = [] → R (.int k) δ1) ∧ ∀ m, m ∈ ns → (∀ y, y ∈ ns → y ≤ m) → R (.int m) δ1
    | none => False)
  | _ => False
theorem re_maxDf {k0 : Int} (ha : RE K ta ua) : RE K (tCKw (rMaxDf K) (tCons ta tNil) (tCons (tC (.int k0)) tNil)) (dMaxDf ua k0) := by
  intro c σ G H δ Q R E h k
  refine ha c σ G H δ _ _ E h fun d δ1 v G1 H1 h1 E1 e1 r => ?_
  cases d <;> first
    | exact False.elim h1
    | skip
  rename_i ds
  have h1 : (match intsOf ds with
    | some ns => (ns = [] → R (.int k0) δ1) ∧ ∀ m, m ∈ ns → (∀ y, y ∈ ns → y ≤ m) → R (.int m) δ1
    | none => False) := h1
  obtain ⟨a, xs, rfl, q1, q2⟩ := r.lst_of
  cases q : intsOf ds with
  | none =>
    rw [q] at h1
    exact h1.elim
  | some ns =>
    rw [q] at h1
    exact ⟨a, ns, k0, rfl, rfl, .inl (.inl (by rw [← ints_of_rp q2 q]; exact E1.ex _ _ q1)), fun z => k _ δ1 _ G1 H1 (h1.1 z) E1 e1 (.int _), fun m hm hy => k _ δ1 _ G1 H1 (h1.2 m hm hy) E1 e1 (.int _)⟩
/-- sorted(set(xs)), xs a list of ints -/
def dSortSet (u : DTE) : DTE := fun δ R => u δ fun d δ1 => match d with
  | .list ds => (match intsOf ds with
    | some ns => ns.length < 60 ∧ ∀ ms : List Int, ms.Pairwise (· < ·) → (∀ k, k ∈ ms ↔ k ∈ ns) → R (.list (ms.map PyData.int)) δ1
    | none => False)
  | _ => False
theorem re_sortSet {w : World} (ha : RE K ta ua) : RE K (tCB (rSortedSet w) (tCons (tCB (rSetI K w) (tCons ta tNil)) tNil)) (dSortSet ua) := by
  intro c σ G H δ Q R E h k
  refine ha c σ G H δ _ _ E h fun d δ1 v G1 H1 h1 E1 e1 r => ?_
  cases d <;> first
    | exact False.elim h1
    | skip
  rename_i ds
  have h1 : (match intsOf ds with
    | some ns => ns.length < 60 ∧ ∀ ms : List Int, ms.Pairwise (· < ·) → (∀ k, k ∈ ms ↔ k ∈ ns) → R (.list (ms.map PyData.int)) δ1
    | none => False) := h1
  obtain ⟨a, xs, rfl, q1, q2⟩ := r.lst_of
  cases q : intsOf ds with
  | none =>
    rw [q] at h1
    exact h1.elim
  | some ns =>
    rw [q] at h1
    obtain ⟨hl, h1⟩ := h1
    refine ⟨a, ns, rfl, .inl (.inl (by rw [← ints_of_rp q2 q]; exact E1.ex _ _ q1)), hl, fun p n hp hn => ?_⟩
    refine ⟨p, _, n, rfl, upd_same, by omega, fun ms p2 hs hm hlen hp2 => ?_⟩
    have A1 : Al G1 H1 G1 (upd H1 p (SetO w p (fun j => decide (j ∈ ns)) n)) := Al.tmp E1.ex hp
    have A2 := Al.new (o := .lst (ms.map V.int)) A1.ex hp2
    have A := A1.trans A2
    have rp : Rp K (upd G1 p2 (.lst (ms.map V.int))) (.ref p2) (.list (ms.map PyData.int)) := .lst upd_same (ints_rp ms)
    refine k _ δ1 _ _ _ (h1 ms hs fun j => ?_) (E1.al A) (e1.trans A.g) rp
    rw [hm j]
    exact decide_eq_true_iff
/-- two tuples put together, the one ahead not empty -/
def rdCatT : R2D := fun d1 d2 R => match d1, d2 with
  | .tuple xs, .tuple ys => 0 < xs.length ∧ xs.length + ys.length ≤ sizeLine ∧ R (.tuple (xs ++ ys))
  | _, _ => False
theorem ro_catT : RO K (rCatT K) rdCatT := by
  intro G H x y d1 d2 Q R e r1 r2 h k
  cases d1 <;> first
    | exact False.elim h
    | skip
  cases d2 <;> first
    | exact False.elim h
    | skip
  rename_i xs ys
  obtain ⟨h0, hz, h⟩ := h
  obtain ⟨a, vs, rfl, a1, a2⟩ := r1.tup_of
  obtain ⟨b, us, rfl, b1, b2⟩ := r2.tup_of
  have l1 := a2.len
  have l2 := b2.len
  refine ⟨a, b, vs, us, rfl, rfl, .inl (.inl (e _ _ a1)), .inl (.inl (e _ _ b1)), fun z => by rw [z] at l1; simp at l1; omega, by omega, fun z => ?_, fun z p hp => ?_⟩
  · subst z
    cases b2
    rw [List.append_nil] at h
    exact k _ _ G H h (Al.refl e) (.tup a1 a2)
  · have A := Al.new (o := .tup (vs ++ us)) e hp
    exact k _ _ _ _ h A (.tup upd_same (RpAll.app (a2.up A.g) (b2.up A.g)))
end
section
variable {X : Cx} {a b e : Expr} {ta tb : TE} {ua ub : DTE} {pos p p2 pk : Pos}
theorem de_maxDf {k0 : Int} {nm : Option Str} {v : Expr} (hm : X.mg "max" = none) (hu : X.A.units + 65 < cLine) (ha : DE X a ta ua) (hv : PE X v (tC (.int k0))) (hc : X.calm = true := by rfl) (hg : Gl X "max" := by rfl)
    (he : backTo pos (starEach [a] X.env) = (false, eval a X.env) :: backTo pos (starEach [] X.env) := by rfl) (hpl : (backTo pos (starEach [a] X.env)).any (·.1) = false := by rfl) (hs : starEach [a] X.env = (false, eval a X.env) :: starEach [] X.env := by rfl)
    (hall : (backToKw pos (keywordEach [⟨nm, v, pk⟩] X.env)).all (·.1.isSome) = true := by rfl) (hnone : (backToKw pos (keywordEach [⟨nm, v, pk⟩] X.env)).any (·.1.isNone) = false := by rfl) (hks : (backToKw pos (keywordEach [⟨nm, v, pk⟩] X.env)).filterMap (·.1) = [Str.ofString "default"] := by rfl) :
    DE X (.Call (.Name "max" p) [a] [⟨nm, v, pk⟩] pos) (tCKw (rMaxDf X.K) (tCons ta tNil) (tCons (tC (.int k0)) tNil)) (dMaxDf ua k0) :=
  ⟨pe_callBK (cr_maxDf hc hu) hg hm PyProof.Rows.boot_max (pa_cons ha.pe pa_nil hs) (pk_cons hv pk_nil) (by decide) (by decide) he hpl hall hnone hks, re_maxDf ha.re⟩
theorem de_sortSet (hm : X.mg "sorted" = none) (hm2 : X.mg "set" = none) (ha : DE X a ta ua) (hc : X.calm = true := by rfl) (hg : Gl X "sorted" := by rfl) (hg2 : Gl X "set" := by rfl)
    (hv : bootBuiltins "sorted" = some (.builtin "sorted") := by decide +kernel) (hv2 : bootBuiltins "set" = some (.type "set") := by decide +kernel)
    (hs : starEach [a] X.env = (false, eval a X.env) :: starEach [] X.env := by rfl) (hpl : (backTo p2 (starEach [] X.env)).any (·.1) = false := by rfl)
    (hs2 : starEach [.Call (.Name "set" pk) [a] [] p2] X.env = (false, eval (.Call (.Name "set" pk) [a] [] p2) X.env) :: starEach [] X.env := by rfl) (hpl2 : (backTo pos (starEach [] X.env)).any (·.1) = false := by rfl) :
    DE X (.Call (.Name "sorted" p) [.Call (.Name "set" pk) [a] [] p2] [] pos) (tCB (rSortedSet X.w) (tCons (tCB (rSetI X.K X.w) (tCons ta tNil)) tNil)) (dSortSet ua) :=
  ⟨pe_callB (cr_sortedSet hc) hg hm hv (pa_cons (pe_callTy (cr_setI hc) hg2 hm2 hv2 (pa_cons ha.pe pa_nil hs) (by decide) (by decide) hs hpl) pa_nil hs2) (by decide) (by decide) hs2 hpl2, re_sortSet ha.re⟩
end
end TL

set_option Elab.async false
set_option linter.all false
set_option maxRecDepth 100000
set_option maxHeartbeats 4000000
/-! TLk: own defs called by keywords alone. -/
namespace TL
open PySem PySem.Spec L2
/-- a def that may be called by the names of its parameters, too -/
structure KnK (P : Program) (w : World) (K : PySem.W.Frag) (mg : Str → Option Value) (base : Heap) (k : Nat) (x : Str) (ks : List Str) (S : DSp) : Prop where
  ex : ∃ (f : Addr) (fd : FuncData) (ps : List Str), FnOkG P w K mg base CX0 k f fd ps (spD K S) ∧ mg x = some (.ref f) ∧ PySem.W.keepIn K (.ref f) = true ∧ KBinds K fd ps ks (fun us ws => us ++ ws) (fun us ws => us ++ ws)
section
variable {X : Cx} {CX : CXT} {k : Nat} {f : Addr} {fd : FuncData} {ps ks : List Str} {sp : Sp} {E : XK} {x : Str} {p pos pk : Pos} {kws : List Keyword} {tk : TA} {g : List Value → List Value → List Value} {gV : List V → List V → List V}
theorem pe_callK0 (F : FnOkG X.prog X.w X.K X.mg X.base CX k f fd ps sp) (hr : RoomG k X.A) (hg : Gl X x) (hm : X.mg x = some (.ref f)) (hk : PySem.W.keepIn X.K (.ref f) = true) (hb : KBinds X.K fd ps ks g gV) (hx : Passes CX X E)
    (hkw : PK X kws tk) (hall : (backToKw pos (keywordEach kws X.env)).all (·.1.isSome) = true := by rfl) (hks : (backToKw pos (keywordEach kws X.env)).filterMap (·.1) = ks := by rfl)
    (hdb : (x == ("__debug__" : Str)) = false := by decide)
    (hpl : ((backTo pos (starEach [] X.env)).any (·.1) || (backToKw pos (keywordEach kws X.env)).any (·.1.isNone)) = false := by rfl) :
    PE X (.Call (.Name x p) [] kws pos) (tCallK sp gV E tNil tk) := by
  refine ⟨fun pins s σ H Q I h => ?_⟩
  refine wpAny_Call_Name_kw (ld_glob I hg hm ?_ hdb)
  refine PySem.W.callWith_KW0 (h₀ := X.base) I.ok.mod.kin hk hall (thn (hkw.run pos pins s σ H _ I h) fun ws s2 ⟨zs, H2, I2, rz, q2⟩ => ⟨I2.kIn, ?_⟩) hpl
  rw [hks]
  exact run_fnkG F hr hb hx I2 .nil rz q2
theorem pk_of_pa : ∀ {kws : List Keyword} {t : TA}, (∃ e te nm q, kws = [⟨nm, e, q⟩] ∧ PE X e te ∧ t = tCons te tNil) → PK X kws t := fun {kws t} ⟨e, te, nm, q, h1, h2, h3⟩ => by
  subst h1 h3
  exact pk_cons h2 pk_nil
theorem de_callKw {v : Expr} {tv : TE} {uv : DTE} {nm : Option Str} {S : DSp} {j : Nat} (kn : KnK X.prog X.w X.K X.mg X.base k x ks S) (hr : RoomG j X.A) (hk : k ≤ j) (hv : DE X v tv uv) (hg : Gl X x := by rfl) (hdb : (x == ("__debug__" : Str)) = false := by decide)
    (hall : (backToKw pos (keywordEach [⟨nm, v, pk⟩] X.env)).all (·.1.isSome) = true := by rfl) (hks : (backToKw pos (keywordEach [⟨nm, v, pk⟩] X.env)).filterMap (·.1) = ks := by rfl)
    (hpl : ((backTo pos (starEach [] X.env)).any (·.1) || (backToKw pos (keywordEach [⟨nm, v, pk⟩] X.env)).any (·.1.isNone)) = false := by rfl) :
    DE X (.Call (.Name x p) [] [⟨nm, v, pk⟩] pos) (tCall (spD X.K S) [] E0 (tCons tv tNil)) (dCall S (cD uv cNil)) := by
  obtain ⟨f, fd, ps, F, hm, kp, b⟩ := kn.ex
  refine ⟨?_, re_call (rca_d hv.re rca_nil)⟩
  have q := pe_callK0 (p := p) (tk := tCons tv tNil) F (hr.mono hk) hg hm kp b pass0 (pk_cons hv.pe pk_nil) hall hks hdb hpl
  have e : tCallK (spD X.K S) (fun us ws => us ++ ws) E0 tNil (tCons tv tNil) = tCall (spD X.K S) [] E0 (tCons tv tNil) := by
    funext σ H Q
    show (tv σ H fun z H2 => spD X.K S ([] ++ [z]) H2 Q E0) = (tv σ H fun z H2 => spD X.K S ([z] ++ []) H2 Q E0)
    rfl
  rw [← e]
  exact q
end
theorem kbinds1 {K : PySem.W.Frag} {x qual : Str} {st : Stmt} {f : Addr} {fd : FuncData} {y : Str} (F : Fun K x qual st f fd)
    (h1 : ∀ (kV doc pm : Value) (an : Option Addr) (cdv ct u : Value), bindArgs (PySem.W.fnOf x qual (defArgs st) (defBody st) (defScope st) .none kV doc pm an cdv ct) ⟨[u], []⟩ = pure [(y, u)])
    (h2 : ∀ (kV doc pm : Value) (an : Option Addr) (cdv ct u : Value), bindArgs (PySem.W.fnOf x qual (defArgs st) (defBody st) (defScope st) .none kV doc pm an cdv ct) ⟨[], [(y, u)]⟩ = pure [(y, u)]) :
    KBinds K fd [y] [y] (fun us ws => us ++ ws) (fun us ws => us ++ ws) := by
  obtain ⟨oc, od, kV, doc, pm, an, cdv, ct, osl, rfl, lk, hcd⟩ := F.ex
  refine ⟨fun s us ws _ hl => ?_, fun r rz => r.append rz⟩
  rw [List.length_append] at hl
  rcases us with _ | ⟨u, us⟩
  · rcases ws with _ | ⟨u, ws⟩
    · simp at hl
    · have e : ws = [] := by
        simp at hl
        exact hl
      subst e
      exact .of_eq (h2 kV doc pm an cdv ct u)
  · have e : us = [] ∧ ws = [] := by
      constructor <;> apply List.eq_nil_of_length_eq_zero <;> simp at hl <;> omega
    obtain ⟨rfl, rfl⟩ := e
    exact .of_eq (h1 kV doc pm an cdv ct u)
end TL

set_option Elab.async false
set_option linter.all false
set_option maxRecDepth 100000
set_option maxHeartbeats 4000000
/-! TLt: calls in a comprehension; a call whose later arguments change its first; a promise that asks for nothing. -/
namespace TL
open PySem PySem.Spec L2
def MonoS (S : DSp) : Prop := ∀ (as : List Sl) (R R' : PyData → List (List PyData) → Prop), (∀ d o, R d o → R' d o) → S as R → S as R'
theorem var_at {i : Nat} {δ : List Sl} {R : DQ} {d : PyData} (h : δ[i]? = some (.dat d)) (k : R d δ) : dVar i δ R := by
  unfold dVar
  rw [h]
  exact k
theorem own_tail {S : DSp} {δ : List Sl} {R : DQ} {i : Nat} {t : Option Nat} {cs : List PyData} (hs : δ[i]? = some (.own t cs)) (ds : List PyData) (mono : MonoS S)
    (k : S (.own (some 0) cs :: ds.map Sl.dat) fun d outs => ∃ o, outs = [o] ∧ R d (δ.set i (.own t o))) :
    (muts δ (.s i :: ds.map CA.d)).Nodup ∧ S (asOf δ (.s i :: ds.map CA.d) 0) fun d outs => outs.length = (muts δ (.s i :: ds.map CA.d)).length ∧ R d (setOuts δ (muts δ (.s i :: ds.map CA.d)) outs) := by
  have z := call_own1 (R := R) (ua := fun δ Q => Q (ds.map CA.d) δ) hs ds (fun Q q => q) k (mono _)
  exact z.2
theorem lc_calls {i : Nat} {S : DSp} {R : List PyData → List Sl → Prop} (mono : MonoS S) {δ0 : List Sl} (h00 : wipeS δ0 [i] = δ0) (hi : i < δ0.length) : ∀ (ps : List (PyData × PyData)) (acc : List PyData) (δ : List Sl), wipeS δ [i] = δ0 → acc.length + ps.length ≤ 16777216 →
    (∀ q ∈ ps, ∀ R' : PyData → List (List PyData) → Prop, R' q.2 [] → S [.dat q.1] R') → (∀ δ', wipeS δ' [i] = δ0 → R (acc ++ ps.map (·.2)) δ') → lcW [i] (dgName i) dYes (dCall S (cD (dVar i) cNil)) R (ps.map (·.1)) acc δ
  | [], acc, δ, h0, hl, hs, k => by
    have z := k δ h0
    rw [List.map_nil, List.append_nil] at z
    exact z
  | q :: r, acc, δ, h0, hl, hs, k => by
    have hl' : acc.length + r.length + 1 ≤ 16777216 := by
      rw [List.length_cons] at hl
      omega
    show dCall S (cD (dVar i) cNil) ((wipeS δ [i]).set i (.dat q.1)) fun y δ3 => acc.length < sizeLine ∧ lcW [i] (dgName i) dYes (dCall S (cD (dVar i) cNil)) R (r.map (·.1)) (acc ++ [y]) (wipeS δ3 [i])
    rw [h0]
    refine call_pure [q.1] (fun Q z => ?_) ?_ (mono _)
    · exact var_at (by rw [List.getElem?_set_self hi]) z
    · refine hs q List.mem_cons_self _ ⟨rfl, by rw [sizeLine_eq]; omega, ?_⟩
      have e : wipeS (δ0.set i (.dat q.1)) [i] = δ0 := by
        show (δ0.set i (.dat q.1)).set i .no = δ0
        rw [List.set_set]
        exact h00
      rw [e]
      refine lc_calls mono h00 hi r (acc ++ [q.2]) δ0 h00 (by rw [List.length_append, List.length_singleton]; omega) (fun q' hq' => hs q' (List.mem_cons_of_mem _ hq')) fun δ' h' => ?_
      have z := k δ' h'
      rw [List.map_cons] at z
      rw [List.append_assoc]
      exact z
theorem fn_none {P : Program} {w : World} {K : PySem.W.Frag} {mg : Str → Option Value} {base : Heap} {k : Nat} {f : Addr} {fd : FuncData} {ps : List Str} {S : DSp} (h : ∀ as R, ¬ S as R) : FnOkG P w K mg base CX0 k f fd ps (spD K S) :=
  ⟨fun vs H Q E ⟨_, _, _, _, _, _, z, _⟩ => absurd z (h _ _), fun A outer s H args us vs Q E _ _ _ _ ⟨_, _, _, _, _, _, z, _⟩ => absurd z (h _ _)⟩
end TL

set_option Elab.async false
set_option linter.all false
set_option maxRecDepth 100000
set_option maxHeartbeats 4000000
/-! TLi: the rules that name the frozen part of the heap, told again so that they may stand in a comprehension. -/
namespace TL
open PySem PySem.Spec L2
section
variable {X : Cx} {K : PySem.W.Frag} {a b e : Expr} {es : List Expr} {ta tb te : TE} {ua ub ue : DTE} {pos p p2 : Pos} {tca : TA} {uca : DCA}
theorem de_callI {P : Program} {w : World} {mg : Str → Option Value} {base : Heap} {x : Str} {S : DSp} {k j : Nat} (kn : Kn P w K mg base k x S) (hr : RoomG j X.A) (hk : k ≤ j) (ha : DCa X (e :: es) tca uca)
    (hX : X.prog = P ∧ X.w = w ∧ X.K = K ∧ X.mg = mg ∧ X.base = base := by exact ⟨rfl, rfl, rfl, rfl, rfl⟩) (hg : Gl X x := by rfl) (hdb : (x == ("__debug__" : Str)) = false := by decide)
    (he : starEach (e :: es) X.env = (false, eval e X.env) :: starEach es X.env := by rfl) (hpl : (backTo pos (starEach es X.env)).any (·.1) = false := by rfl) : DE X (.Call (.Name x p) (e :: es) [] pos) (tCall (spD K S) [] E0 tca) (dCall S uca) := by
  obtain ⟨rfl, rfl, rfl, rfl, rfl⟩ := hX
  exact de_call kn hr hk ha hg hdb he hpl
theorem de_ixVI (i : Nat) {x : Str} (hb : DE X b tb ub) (hK : X.K = K := by rfl) (hN : X.N[i]? = some x := by rfl) (hv : Vis X.env.scope x := by first | exact Or.inl rfl | exact Or.inr (Or.inl rfl) | exact Or.inr (Or.inr rfl)) (hd : (x == ("__debug__" : Str)) = false := by decide)
    (hcd : (x == ("__classdict__" : Str)) = false := by decide) (hs : PlainIx b := by exact fun _ _ => rfl) : DE X (.Subscript (.Name x p) b pos) (tOp (rIxL K) (tVar i) tb) (dIxV i ub) := by
  subst hK
  exact de_ixV i hb hN hv hd hcd hs
theorem de_lenI {ps : Pos} (hm : X.mg "len" = none) (ha : DE X e te ue) (hK : X.K = K := by rfl) (hg : Gl X "len" := by rfl) (hs : starEach [e] X.env = (false, eval e X.env) :: starEach [] X.env := by rfl) (hpl : (backTo pos (starEach [] X.env)).any (·.1) = false := by rfl) :
    DE X (.Call (.Name "len" p) [e] [] pos) (tCB (rLen K) (tCons te tNil)) (dLen ue) := by
  subst hK
  exact de_len (ps := default) hm ha hg hs hpl
theorem de_isiI {T : String} {Tn : Str} (hm : X.mg "isinstance" = none) (hT : X.mg Tn = none) (hv : bootBuiltins Tn = some (.type T)) (ha : DE X e te ue) (hK : X.K = K := by rfl) (hg : Gl X "isinstance" := by rfl) (hgT : Gl X Tn := by rfl) (hb : bootBuiltins "isinstance" = some (.builtin "isinstance") := by decide +kernel)
    (hn : Tn ≠ "__name__" := by decide) (hd : (Tn == ("__debug__" : Str)) = false := by decide)
    (hs : starEach [e, .Name Tn p2] X.env = (false, eval e X.env) :: starEach [.Name Tn p2] X.env := by rfl) (hs2 : starEach [.Name Tn p2] X.env = (false, eval (.Name Tn p2) X.env) :: starEach [] X.env := by rfl) (hpl : (backTo pos (starEach [.Name Tn p2] X.env)).any (·.1) = false := by rfl) :
    DE X (.Call (.Name "isinstance" p) [e, .Name Tn p2] [] pos) (tCB (rIsi K) (tCons te (tCons (tC (.ty T)) tNil))) (dIsi T ue) := by
  subst hK
  exact de_isi hm hT hv ha hg hgT hb hn hd hs hs2 hpl
end
end TL

set_option Elab.async false
set_option linter.all false
set_option maxRecDepth 100000
set_option maxHeartbeats 4000000
/-! TLm: what K03 found out and other laws want too; statements that are never reached. -/
namespace TL
open PySem PySem.Spec L2
def isNon : PyData → Bool
  | .none => true
  | _ => false
def dIsN : R2D := fun a b R => match b with
  | .none => R (.bool (isNon a))
  | _ => False
def dNotN : R2D := fun a b R => match b with
  | .none => R (.bool (!isNon a))
  | _ => False
theorem isNon_rp {K : PySem.W.Frag} {G : Hp} {x : V} {d : PyData} (r : Rp K G x d) : decide (x = V.non) = isNon d := by
  cases r <;> simp [isNon]
theorem ro_isN {K : PySem.W.Frag} : RO K (fun x y H Q => y = .non ∧ Q (.bl (decide (x = .non))) H) dIsN := by
  intro G H x y d1 d2 Q R e r1 r2 h k
  cases d2 <;> first
    | exact False.elim h
    | skip
  refine ⟨r2.non_of, ?_⟩
  rw [isNon_rp r1]
  exact k _ _ G H h (Al.refl e) (.bl _)
theorem ro_notN {K : PySem.W.Frag} : RO K (fun x y H Q => y = .non ∧ Q (.bl (!decide (x = .non))) H) dNotN := by
  intro G H x y d1 d2 Q R e r1 r2 h k
  cases d2 <;> first
    | exact False.elim h
    | skip
  refine ⟨r2.non_of, ?_⟩
  rw [isNon_rp r1]
  exact k _ _ G H h (Al.refl e) (.bl _)
theorem call_own_late {S : DSp} {R : DQ} {i : Nat} {t : Option Nat} {δ : List Sl} {ua : DCA} (P : List PyData → List PyData → List Sl → Prop) (hi : isS δ[i]? = true)
    (hu : ∀ Q : List CA → List Sl → Prop, (∀ ds cs δ2, P ds cs δ2 → Q (ds.map CA.d) δ2) → ua δ Q) (mono : MonoS S)
    (k : ∀ ds cs δ2, P ds cs δ2 → δ2[i]? = some (.own t cs) ∧ S (.own (some 0) cs :: ds.map Sl.dat) fun d outs => ∃ o, outs = [o] ∧ R d (δ2.set i (.own t o))) : dCall S (cS i ua) δ R :=
  ⟨hi, hu _ fun ds cs δ2 h => own_tail (k ds cs δ2 h).1 ds mono (k ds cs δ2 h).2⟩
theorem eqv_ints : ∀ ns : List Int, PyData.eqvAll (ns.map PyData.int) (ns.map PyData.int) = true
  | [] => by simp [PyData.eqvAll]
  | n :: r => by
    show PyData.eqvAll (.int n :: r.map PyData.int) (.int n :: r.map PyData.int) = true
    simp [PyData.eqvAll, ev_ii, eqv_ints r]
theorem eqv_lints (ns : List Int) : PyData.eqv (.list (ns.map PyData.int)) (.list (ns.map PyData.int)) = true := by
  simp [PyData.eqv, eqv_ints ns]
theorem sh_ints (ns : List Int) : SeqAt.shaped (.list (ns.map PyData.int)) = true := by
  have a : PyData.canLayAll0 (ns.map PyData.int) = true := by
    induction ns with
    | nil => rfl
    | cons n r ih =>
      show (PyData.canLay0 (.int n) && PyData.canLayAll0 (r.map PyData.int)) = true
      rw [ih]
      rfl
  unfold SeqAt.shaped
  rw [Bool.and_eq_true]
  refine ⟨a, decide_eq_true ?_⟩
  show PyData.depthAll _ + 1 ≤ 64
  rw [depth_ints]
  decide
/-- two rising lists with the same members are one -/
theorem rise_eq : ∀ {a b : List Int}, a.Pairwise (· < ·) → b.Pairwise (· < ·) → (∀ k, k ∈ a ↔ k ∈ b) → a = b
  | [], [], _, _, _ => rfl
  | [], y :: b, _, _, h => absurd ((h y).mpr List.mem_cons_self) (by simp)
  | x :: a, [], _, _, h => absurd ((h x).mp List.mem_cons_self) (by simp)
  | x :: a, y :: b, ha, hb, h => by
    have ha' := List.pairwise_cons.mp ha
    have hb' := List.pairwise_cons.mp hb
    have e : x = y := by
      rcases List.mem_cons.mp ((h x).mp List.mem_cons_self) with e | h1
      · exact e
      · rcases List.mem_cons.mp ((h y).mpr List.mem_cons_self) with e | h2
        · exact e.symm
        · have := hb'.1 x h1
          have := ha'.1 y h2
          omega
    subst e
    refine congrArg (x :: ·) (rise_eq ha'.2 hb'.2 fun k => ⟨fun hk => ?_, fun hk => ?_⟩)
    · rcases List.mem_cons.mp ((h k).mp (List.mem_cons_of_mem _ hk)) with e | h1
      · have := ha'.1 k hk
        omega
      · exact h1
    · rcases List.mem_cons.mp ((h k).mpr (List.mem_cons_of_mem _ hk)) with e | h1
      · have := hb'.1 k hk
        omega
      · exact h1
/-- a statement that is never reached -/
def tNever : TS := fun _ _ _ => False
def dNever : DTS := fun _ _ => False
theorem ds_never {X : Cx} {st : Stmt} : DS X st tNever dNever := ⟨⟨fun _ _ _ _ _ _ h => False.elim h⟩, fun _ _ _ _ _ _ _ _ h _ => False.elim h⟩
end TL

set_option Elab.async false
set_option linter.all false
set_option maxRecDepth 100000
set_option maxHeartbeats 4000000
/-! TLo: all and any of a list of truths. -/
namespace TL
open PySem PySem.Spec L2
def boolsOf : List PyData → Option (List Bool)
  | [] => some []
  | .bool b :: r => (boolsOf r).map (b :: ·)
  | _ :: _ => none
theorem boolsOf_map : ∀ bs : List Bool, boolsOf (bs.map PyData.bool) = some bs
  | [] => rfl
  | b :: r => by
    show (boolsOf (r.map PyData.bool)).map (b :: ·) = some (b :: r)
    rw [boolsOf_map r]
    rfl
section
variable {K : PySem.W.Frag} {ta : TE} {ua : DTE}
theorem bools_of_rp {G : Hp} : ∀ {ds : List PyData} {xs : List V} {ys : List Bool}, RpAll K G xs ds → boolsOf ds = some ys → xs = ys.map V.bl
  | _, _, _, .nil, h => by
    cases h
    rfl
  | d :: ds, _, ys, .cons (v := v) (vs := vs) r rr, h => by
    cases d <;> first
      | (cases h; done)
      | skip
    rename_i x
    have h : (boolsOf ds).map (x :: ·) = some ys := h
    cases q : boolsOf ds with
    | none =>
      rw [q] at h
      cases h
    | some zs =>
      rw [q] at h
      cases h
      rw [bools_of_rp rr q, r.bl_of]
      rfl
def dBools (f : List Bool → Bool) (u : DTE) : DTE := fun δ R => u δ fun d δ1 => match d with
  | .list ds => (match boolsOf ds with
    | some bs => R (.bool (f bs)) δ1
    | none => False)
  | _ => False
theorem re_bools {r : List V → Hp → VK → Prop} {f : List Bool → Bool} (hr : ∀ (a : Addr) (bs : List Bool) (H : Hp) (Q : VK), SqL K H a (bs.map V.bl) → Q (.bl (f bs)) H → r [V.ref a] H Q) (ha : RE K ta ua) : RE K (tCB r (tCons ta tNil)) (dBools f ua) := by
  intro c σ G H δ Q R E h k
  refine ha c σ G H δ _ _ E h fun d δ1 v G1 H1 h1 E1 e1 rr => ?_
  cases d <;> first
    | exact False.elim h1
    | skip
  rename_i ds
  have h1 : (match boolsOf ds with
    | some bs => R (.bool (f bs)) δ1
    | none => False) := h1
  obtain ⟨a, xs, rfl, q1, q2⟩ := rr.lst_of
  cases q : boolsOf ds with
  | none =>
    rw [q] at h1
    exact h1.elim
  | some bs =>
    rw [q] at h1
    exact hr a bs H1 _ (.inl (.inl (by rw [← bools_of_rp q2 q]; exact E1.ex _ _ q1))) (k _ δ1 _ G1 H1 h1 E1 e1 (.bl _))
end
section
variable {X : Cx} {a : Expr} {ta : TE} {ua : DTE} {pos p : Pos}
theorem de_all1 (hm : X.mg "all" = none) (ha : DE X a ta ua) (hc : X.calm = true := by rfl) (hg : Gl X "all" := by rfl) (hv : bootBuiltins "all" = some (.builtin "all") := by decide +kernel) (hs : starEach [a] X.env = (false, eval a X.env) :: starEach [] X.env := by rfl) (hpl : (backTo pos (starEach [] X.env)).any (·.1) = false := by rfl) :
    DE X (.Call (.Name "all" p) [a] [] pos) (tCB (rAll X.K) (tCons ta tNil)) (dBools (fun bs => bs.all id) ua) := ⟨pe_callB (cr_all hc) hg hm hv (pa_cons ha.pe pa_nil hs) (by decide) (by decide) hs hpl, re_bools (fun a bs H Q h q => ⟨a, bs, rfl, h, q⟩) ha.re⟩
theorem de_any1 (hm : X.mg "any" = none) (ha : DE X a ta ua) (hc : X.calm = true := by rfl) (hg : Gl X "any" := by rfl) (hv : bootBuiltins "any" = some (.builtin "any") := by decide +kernel) (hs : starEach [a] X.env = (false, eval a X.env) :: starEach [] X.env := by rfl) (hpl : (backTo pos (starEach [] X.env)).any (·.1) = false := by rfl) :
    DE X (.Call (.Name "any" p) [a] [] pos) (tCB (rAny X.K) (tCons ta tNil)) (dBools (fun bs => bs.any id) ua) := ⟨pe_callB (cr_any hc) hg hm hv (pa_cons ha.pe pa_nil hs) (by decide) (by decide) hs hpl, re_bools (fun a bs H Q h q => ⟨a, bs, rfl, h, q⟩) ha.re⟩
end
end TL

set_option Elab.async false
set_option linter.all false
set_option maxRecDepth 100000
set_option maxHeartbeats 4000000
/-! TLu: f-texts, pop, a text in a list that grows, written dicts of the module, repr of data, a sign in a text, truth. -/
namespace TL
open PySem PySem.Spec L2

/-! ### f-texts -/
def dFmt (u : DTE) : DTE := fun δ R => u δ fun d δ1 => match d with
  | .str y => y.length ≤ sizeLine ∧ R (.str y) δ1
  | .int i => i.natAbs.log2 < 1920 ∧ R (.str (toString i)) δ1
  | _ => False
def dJs : List DTE → Str → List Sl → (Str → List Sl → Prop) → Prop
  | [], acc, δ, R => R acc δ
  | u :: us, acc, δ, R => u δ fun d δ1 => match d with
    | .str y => (acc ++ y).length ≤ sizeLine ∧ dJs us (acc ++ y) δ1 R
    | _ => False
def dJoined (us : List DTE) : DTE := fun δ R => dJs us Str.empty δ fun out δ1 => R (.str out) δ1
inductive DJ (X : Cx) : List Expr → List TE → List DTE → Prop where
  | nil : DJ X [] [] []
  | cons {e : Expr} {t : TE} {u : DTE} {es : List Expr} {ts : List TE} {us : List DTE} (h : DE X e t u) (r : DJ X es ts us) : DJ X (e :: es) (t :: ts) (u :: us)
theorem DJ.pj {X : Cx} {es : List Expr} {ts : List TE} {us : List DTE} (h : DJ X es ts us) : PJ X es ts := by
  induction h with
  | nil => exact .nil
  | cons h _ ih => exact .cons h.pe ih
theorem DJ.rj {X : Cx} {es : List Expr} {ts : List TE} {us : List DTE} (h : DJ X es ts us) : ∀ (c : Cf) (σ : L2.St) (G H : Hp) (δ : List Sl) (acc : Str) (Q : Str → Hp → Prop) (R : Str → List Sl → Prop), EnvOk X.K c G H σ δ → dJs us acc δ R →
    (∀ out δ' G' H', R out δ' → EnvOk X.K c G' H' σ δ' → Ex G G' → Q out H') → tJs ts acc σ H Q := by
  induction h with
  | nil =>
    intro c σ G H δ acc Q R E h k
    exact k acc δ G H h E (Ex.refl _)
  | cons h _ ih =>
    intro c σ G H δ acc Q R E hh k
    refine h.re c σ G H δ _ _ E hh fun d δ1 v G1 H1 h1 E1 e1 r1 => ?_
    cases d <;> first
      | exact False.elim h1
      | skip
    exact ⟨_, r1.str_of, h1.1, ih c σ G1 H1 δ1 _ Q R E1 h1.2 fun out δ' G' H' a b e => k out δ' G' H' a b (e1.trans e)⟩
section
variable {X : Cx} {e v1 v2 : Expr} {rest : List Expr} {te : TE} {ue : DTE} {ts : List TE} {us : List DTE} {pos : Pos}
theorem re_fmt {K : PySem.W.Frag} (ha : RE K te ue) : RE K (tFmt te) (dFmt ue) := by
  intro c σ G H δ Q R E h k
  refine ha c σ G H δ _ _ E h fun d δ1 v G1 H1 h1 E1 e1 r1 => ?_
  cases d <;> first
    | exact False.elim h1
    | skip
  · exact .inr ⟨_, r1.int_of, h1.1, k _ δ1 _ G1 H1 h1.2 E1 e1 (.str _)⟩
  · exact .inl ⟨_, r1.str_of, h1.1, k _ δ1 _ G1 H1 h1.2 E1 e1 (.str _)⟩
theorem de_fmt (h : DE X e te ue) : DE X (.FormattedValue e (-1) none pos) (tFmt te) (dFmt ue) := ⟨pe_fmt h.pe, re_fmt h.re⟩
theorem dj_nil : DJ X [] [] [] := .nil
theorem dj_cons (h : DE X e te ue) (r : DJ X rest ts us) : DJ X (e :: rest) (te :: ts) (ue :: us) := .cons h r
theorem de_joined (h : DJ X (v1 :: v2 :: rest) ts us) : DE X (.JoinedStr (v1 :: v2 :: rest) pos) (fun σ H Q => tJs ts Str.empty σ H fun out H1 => Q (.str out) H1) (dJoined us) :=
  ⟨pe_joined h.pj, fun c σ G H δ Q R E hh k => h.rj c σ G H δ Str.empty _ _ E hh fun out δ' G' H' a b e => k _ δ' _ G' H' a b e (.str _)⟩
end

/-! ### pop -/
def dPop (i : Nat) : DTE := fun δ R => match δ[i]? with
  | some (.own t ds) => (match ds.getLast? with
    | some d => R d (δ.set i (.own t ds.dropLast))
    | none => False)
  | _ => False
theorem RpAll.init {K : PySem.W.Frag} {G : Hp} : ∀ {vs : List V} {ds : List PyData}, RpAll K G vs ds → RpAll K G vs.dropLast ds.dropLast
  | _, _, .nil => .nil
  | _, _, .cons _ .nil => .nil
  | _, _, .cons r (.cons q t) => .cons r (RpAll.init (.cons q t))
theorem re_pop {K : PySem.W.Frag} {i : Nat} : RE K (tBM0 K "list" rPop (tVar i)) (dPop i) := by
  intro c σ G H δ Q R E h k
  unfold dPop at h
  cases hs : δ[i]? with
  | none =>
    rw [hs] at h
    exact False.elim h
  | some s =>
    rw [hs] at h
    cases s <;> first
      | exact False.elim h
      | skip
    rename_i t ds
    have h : (match ds.getLast? with
      | some d => R d (δ.set i (.own t ds.dropLast))
      | none => False) := h
    obtain ⟨p, xs, e, hg, hh, r, _⟩ := E.sl i _ hs
    cases q : ds.getLast? with
    | none =>
      rw [q] at h
      exact False.elim h
    | some d =>
      rw [q] at h
      have hd : ds[ds.length - 1]? = some d := by rw [← List.getLast?_eq_getElem?]; exact q
      obtain ⟨v, hv, rv⟩ := r.get hd
      refine ⟨.ref p, e, .inl ⟨rfl, _, .inl (.inl hh)⟩, p, xs, v, rfl, rfl, hh, by rw [r.len]; exact hv, ?_⟩
      exact k d _ v G _ h (E.poke hs e (RpAll.init r)) (Ex.refl _) rv
/-! ### xs[k] += text -/
def dAugI (i : Nat) (ui u : DTE) (f : PyData → PyData → (PyData → Prop) → Prop) : DTS := fun E δ => (slL δ[i]?).isSome = true ∧ ui δ fun di δ1 => match δ1[i]?, di with
  | some (.own _ ds), .int k => (match ixN ds.length k with
    | some j => (match ds[j]? with
      | some old => u δ1 fun d δ2 => f old d fun new => (match δ2[i]? with
        | some (.own t2 ds2) => (match ixN ds2.length k with
          | some j2 => E.nx (δ2.set i (.own t2 (ds2.set j2 new)))
          | none => False)
        | _ => False)
      | none => False)
    | none => False)
  | _, _ => False
/-- an operation in place, of data that are laid nowhere anew -/
def RIp (K : PySem.W.Frag) (r : TIp) (rd : R2D) : Prop := RO K r rd
theorem get_own {K : PySem.W.Frag} {G : Hp} {xs : List V} {ds : List PyData} (r : RpAll K G xs ds) {k : Int} {j : Nat} {d : PyData} (h : ixN ds.length k = some j) (hd : ds[j]? = some d) : ∃ v, atI xs k = some v ∧ Rp K G v d := by
  refine at_rp r ?_
  unfold atI
  rw [h]
  exact hd
theorem rs_augI {K : PySem.W.Frag} {i : Nat} {ti te : TE} {ui ue : DTE} {r : TIp} {rd : R2D} (hi : RE K ti ui) (ha : RE K te ue) (hr : RO K r rd) : RS K (tAugS (tVar i) ti te (rIxL K) r rSetL) (dAugI i ui ue rd) := by
  intro c σ G H δ D E EV h k
  obtain ⟨hsome, h⟩ := h
  obtain ⟨ds0, h0⟩ := Option.isSome_iff_exists.mp hsome
  obtain ⟨p, xs0, hv, _, _⟩ := slL_ok EV h0
  refine ⟨.ref p, hv, ?_⟩
  refine hi c σ G H δ _ _ EV h fun di δ1 y G1 H1 h1 E1 e1 r1 => ?_
  cases hs : δ1[i]? with
  | none =>
    rw [hs] at h1
    exact False.elim h1
  | some s =>
    rw [hs] at h1
    cases s <;> first
      | exact False.elim h1
      | skip
    rename_i tg ds
    cases di <;> first
      | exact False.elim h1
      | skip
    rename_i kk
    have h1 : (match ixN ds.length kk with
      | some j => (match ds[j]? with
        | some old => ue δ1 fun d δ2 => rd old d fun new => (match δ2[i]? with
          | some (.own t2 ds2) => (match ixN ds2.length kk with
            | some j2 => E.nx (δ2.set i (.own t2 (ds2.set j2 new)))
            | none => False)
          | _ => False)
        | none => False)
      | none => False) := h1
    obtain ⟨p', xs, e, hg, hh, rr, q⟩ := E1.sl i _ hs
    have e' := e
    rw [hv] at e'
    have ev := V.ref.inj (Option.some.inj (Option.some.inj e'))
    subst ev
    cases q1 : ixN ds.length kk with
    | none =>
      rw [q1] at h1
      exact h1.elim
    | some j =>
      rw [q1] at h1
      have h1 : (match ds[j]? with
        | some old => ue δ1 fun d δ2 => rd old d fun new => (match δ2[i]? with
          | some (.own t2 ds2) => (match ixN ds2.length kk with
            | some j2 => E.nx (δ2.set i (.own t2 (ds2.set j2 new)))
            | none => False)
          | _ => False)
        | none => False) := h1
      cases q2 : ds[j]? with
      | none =>
        rw [q2] at h1
        exact h1.elim
      | some old =>
        rw [q2] at h1
        obtain ⟨v, av, rv⟩ := get_own rr q1 q2
        refine ⟨p, xs, kk, v, rfl, r1.int_of, .inl (.inl hh), av, ?_⟩
        refine ha c σ G1 H1 δ1 _ _ E1 h1 fun d δ2 z G2 H2 h2 E2 e2 r2 => ?_
        refine hr G2 H2 v z old d _ _ E2.ex (rv.up e2) r2 h2 fun new w G3 H3 h3 A r3 => ?_
        have E3 := E2.al A
        cases hs2 : δ2[i]? with
        | none =>
          rw [hs2] at h3
          exact False.elim h3
        | some s2 =>
          rw [hs2] at h3
          cases s2 <;> first
            | exact False.elim h3
            | skip
          rename_i t2 ds2
          have h3 : (match ixN ds2.length kk with
            | some j2 => E.nx (δ2.set i (.own t2 (ds2.set j2 new)))
            | none => False) := h3
          obtain ⟨p2, ys, e3, hg3, hh3, rr3, _⟩ := E3.sl i _ hs2
          have e3' := e3
          rw [hv] at e3'
          have ev3 := V.ref.inj (Option.some.inj (Option.some.inj e3'))
          subst ev3
          cases q3 : ixN ds2.length kk with
          | none =>
            rw [q3] at h3
            exact h3.elim
          | some j2 =>
            rw [q3] at h3
            refine ⟨p, ys, kk, j2, rfl, r1.int_of, hh3, by rw [rr3.len]; exact q3, ?_⟩
            exact k.nx σ G3 _ _ h3 (E3.poke hs2 hv (RpAll.set r3 j2 rr3)) ((e1.trans e2).trans A.g)
theorem pget_list {X : Cx} : PGet X (rIxL X.K) := by
  intro pins s σ H x y v u Q I rx ry h
  obtain ⟨p, xs, i, z, rfl, rfl, hq, he, q⟩ := h
  cases rx
  obtain ⟨t, rfl⟩ := ry
  obtain ⟨its, r, pl, hz⟩ := I.list hq
  obtain ⟨j, h1, h2, h3, h4, h5⟩ := atI_get he
  obtain ⟨w, ew, rw'⟩ := r.get h2
  have hl := r.length
  have hn := line63
  have fin : EP X pins σ Q w s := ⟨z, H, I, rw', q⟩
  have sz : its.toArray.size = its.length := List.size_toArray
  by_cases h0 : 0 ≤ i
  · have hj : i.toNat = j := by
      rw [seqIndex_of h0 h5] at h1
      exact Option.some.inj h1
    exact wpAny_getItem_list pl.isList h0 (by omega) (by rw [hj]; simpa using ew) fin
  · have hj : (i + (its.toArray.size : Int)).toNat = j := by
      rw [seqIndex_neg (by omega) h4] at h1
      rw [sz, ← hl]
      exact Option.some.inj h1
    exact wpAny_getItem_list_neg pl.isList (by omega) (by omega) (by omega) (by rw [hj]; simpa using ew) fin
/-- name += text -/
def dAugT (i : Nat) (u : DTE) : DTS := fun E δ => match δ[i]? with
  | some (.dat (.str a)) => u δ fun d δ1 => (match d with
    | .str b => a.length + b.length ≤ sizeLine ∧ E.nx (δ1.set i (.dat (.str (a ++ b))))
    | _ => False)
  | _ => False
def rAddT : TIp := fun x y H Q => ∃ i j, x = .str i ∧ y = .str j ∧ i.length + j.length ≤ sizeLine ∧ Q (.str (i ++ j)) H
theorem rs_augT {K : PySem.W.Frag} {i : Nat} {te : TE} {ue : DTE} (ha : RE K te ue) : RS K (tAug i te rAddT) (dAugT i ue) := by
  intro c σ G H δ D E EV h k
  unfold dAugT at h
  cases hs : δ[i]? with
  | none =>
    rw [hs] at h
    exact False.elim h
  | some s =>
    rw [hs] at h
    have z := EV.sl i s hs
    cases s <;> first
      | exact False.elim h
      | skip
    rename_i d0
    cases d0 <;> first
      | exact False.elim h
      | skip
    rename_i a
    obtain ⟨x, e, rx⟩ := z
    have ex := rx.str_of
    subst ex
    refine ⟨_, e, ?_⟩
    refine ha c σ G H δ _ _ EV h fun d δ1 v G1 H1 h1 E1 e1 r => ?_
    cases d <;> first
      | exact False.elim h1
      | skip
    rename_i b
    exact ⟨a, b, rfl, r.str_of, h1.1, k.nx _ G1 H1 _ h1.2 (E1.put (.str _)) e1⟩
/-! ### a sign in a text; truth -/
def dInT (neg : Bool) : R2D := fun a b R => match a, b with
  | .str x, .str z => (match x.cps.toList with
    | [c] => R (.bool (if neg = true then !decide (c ∈ z.cps.toList) else decide (c ∈ z.cps.toList)))
    | _ => False)
  | _, _ => False
theorem one_of {x : Str} {c : Nat} (h : x.cps.toList = [c]) : x = ⟨#[c]⟩ := by
  cases x
  rename_i a
  have : a = #[c] := by
    apply Array.toList_inj.mp
    exact h
  rw [this]
theorem ro_inT (neg : Bool) {K : PySem.W.Frag} {r : R2} (hr : ∀ (c : Nat) (z : Str) (H : Hp) (Q : VK), Q (.bl (if neg = true then !decide (c ∈ z.cps.toList) else decide (c ∈ z.cps.toList))) H → r (.str ⟨#[c]⟩) (.str z) H Q) : RO K r (dInT neg) := by
  intro G H x y d1 d2 Q R e r1 r2 h k
  cases d1 <;> cases d2 <;> first
    | exact False.elim h
    | skip
  rename_i x z
  have e1 := r1.str_of
  have e2 := r2.str_of
  subst e1 e2
  have h : (match x.cps.toList with
    | [c] => R (.bool (if neg = true then !decide (c ∈ z.cps.toList) else decide (c ∈ z.cps.toList)))
    | _ => False) := h
  match q : x.cps.toList, h with
  | [c], h =>
    rw [one_of q]
    exact hr c z H Q (k _ _ G H h (Al.refl e) (.bl _))
theorem ro_inS {K : PySem.W.Frag} : RO K rInS (dInT false) := ro_inT false fun c z H Q q => ⟨c, z, rfl, rfl, q⟩
theorem ro_notInS {K : PySem.W.Frag} : RO K rNotInS (dInT true) := ro_inT true fun c z H Q q => ⟨c, z, rfl, rfl, q⟩
/-- the truth of a text, a list, a tuple, a truth -/
def dTru (u : DTE) : DTT := fun δ R => u δ fun d δ1 => match d with
  | .bool b => R b δ1
  | .str x => x.length ≤ sizeLine ∧ R ((x.length : Int) != 0) δ1
  | .int i => R (i != 0) δ1
  | .list ds => R (!ds.isEmpty) δ1
  | .tuple ds => R (!ds.isEmpty) δ1
  | .none => R false δ1
  | _ => False
theorem empty_rp {K : PySem.W.Frag} {G : Hp} {xs : List V} {ds : List PyData} (r : RpAll K G xs ds) : xs.isEmpty = ds.isEmpty := by
  cases r <;> rfl
theorem rt_tru {K : PySem.W.Frag} {te : TE} {ue : DTE} (ha : RE K te ue) : RT K (fun σ H Q => te σ H fun x H' => ∃ k, TruV K x H' k ∧ Q k H') (dTru ue) := by
  intro c σ G H δ Q R E h k
  refine ha c σ G H δ _ _ E h fun d δ1 v G1 H1 h1 E1 e1 r1 => ?_
  cases d <;> first
    | exact False.elim h1
    | skip
  · rw [r1.non_of]
    exact ⟨false, rfl, k _ δ1 G1 H1 h1 E1 e1⟩
  · rw [r1.bl_of]
    exact ⟨_, rfl, k _ δ1 G1 H1 h1 E1 e1⟩
  · rw [r1.int_of]
    exact ⟨_, rfl, k _ δ1 G1 H1 h1 E1 e1⟩
  · rw [r1.str_of]
    exact ⟨_, ⟨h1.1, rfl⟩, k _ δ1 G1 H1 h1.2 E1 e1⟩
  · obtain ⟨a, xs, rfl, q1, q2⟩ := r1.lst_of
    exact ⟨_, .inl ⟨xs, .inl (.inl (E1.ex _ _ q1)), rfl⟩, by rw [empty_rp q2]; exact k _ δ1 G1 H1 h1 E1 e1⟩
  · obtain ⟨a, xs, rfl, q1, q2⟩ := r1.tup_of
    exact ⟨_, .inr (.inl ⟨xs, .inl (.inl (E1.ex _ _ q1)), rfl⟩), by rw [empty_rp q2]; exact k _ δ1 G1 H1 h1 E1 e1⟩
/-! ### repr of data -/
def rRepr (K : PySem.W.Frag) : List V → Hp → VK → Prop := fun xs H Q => ∃ x d, xs = [x] ∧ Dp K H x d ∧ SeqAt.shaped d = true ∧ d.showable = true ∧ d.shown.length ≤ sizeLine ∧ Q (.str d.shown) H
theorem call_reprD {X : Cx} (hg : X.A.guards = some []) (hu : X.A.units + 65 < cLine) : CallR X (.builtin "repr") (rRepr X.K) := by
  intro pins s σ H xs us Q I r h
  obtain ⟨x, d, rfl, hd, sh, hs, hz, q⟩ := h
  obtain ⟨u, rfl, ru⟩ := L2.vals1 r
  have lay := SeqAt.canLay_of_shaped sh
  have dep : d.depth ≤ 64 := by
    have z : (d.canLay0 && decide (d.depth ≤ 64)) = true := sh
    rw [Bool.and_eq_true] at z
    exact of_decide_eq_true z.2
  obtain ⟨as, rd⟩ := Dp.reads I d x u hd ru
  have nod := PyData.noDict_hsm (as := as) (PyData.hasDict_of_canLay d lay)
  have big : ∀ (a : Addr), u = .ref a → wpAny (model X.prog X.w) X.A (call (.builtin "repr") [u]) (EP X pins σ Q) X.xe s := fun a e => by
    subst e
    exact repr_of_reads' rd hs nod hg (by omega) (fun _ _ e => e) (fun h' u tk hk => ⟨.str d.shown, H, I.kept hk, ⟨_, rfl⟩, q⟩) hz
  cases hd with
  | non =>
    obtain rfl : u = Value.none := ru
    exact PySem.P.repr_of_none ⟨.str (PyData.shown .none), H, I.tok _, ⟨_, rfl⟩, q⟩
  | bl b =>
    obtain rfl : u = Value.bool b := ru
    exact PySem.P.repr_of_bool ⟨.str (PyData.shown (.bool b)), H, I.tok _, ⟨_, rfl⟩, q⟩
  | int i =>
    obtain ⟨t, rfl⟩ := ru
    exact PySem.P.repr_of_int (of_decide_eq_true hs) ⟨.str (PyData.shown (.int i)), H, I.tok _, ⟨_, rfl⟩, q⟩
  | str y =>
    obtain ⟨t, rfl⟩ := ru
    exact PySem.P.repr_of_str ⟨.str (PyData.shown (.str y)), H, I.tok _, ⟨_, rfl⟩, q⟩ hz
  | lst _ _ => exact big _ ru
  | tup _ _ => exact big _ ru
def dRepr (u : DTE) : DTE := fun δ R => u δ fun d δ1 => SeqAt.shaped d = true ∧ d.showable = true ∧ d.shown.length ≤ sizeLine ∧ R (.str d.shown) δ1
theorem re_repr {K : PySem.W.Frag} {te : TE} {ue : DTE} (ha : RE K te ue) : RE K (tCB (rRepr K) (tCons te tNil)) (dRepr ue) := by
  intro c σ G H δ Q R E h k
  refine ha c σ G H δ _ _ E h fun d δ1 v G1 H1 h1 E1 e1 r1 => ?_
  exact ⟨v, d, rfl, (r1.up E1.ex).dp _ _ (SeqAt.canLay_of_shaped h1.1), h1.1, h1.2.1, h1.2.2.1, k _ δ1 _ G1 H1 h1.2.2.2 E1 e1 (.str _)⟩
/-! ### a written dict of the module -/
def rGetK (K : PySem.W.Frag) (d : Addr) : R2 := fun x y H Q => ∃ (z : Str) (u0 : Value) (v0 : V), x = .ref d ∧ y = .str z ∧ PySem.W.nsIn K d z = some (some u0) ∧ RelV v0 u0 ∧ Q v0 H
/-- D[text]: m tells the datum at a text -/
def dGetK (m : Str → Option PyData) (u : DTE) : DTE := fun δ R => u δ fun d δ1 => match d with
  | .str z => (match m z with
    | some x => R x δ1
    | none => False)
  | _ => False
/-- the dict at d tells what m tells, of texts alone -/
def KMap (K : PySem.W.Frag) (d : Addr) (m : Str → Option PyData) : Prop := ∀ z x, m z = some x → ∃ u0 v0, PySem.W.nsIn K d z = some (some u0) ∧ RelV v0 u0 ∧ ∀ G, Rp K G v0 x
theorem re_getK {K : PySem.W.Frag} {d : Addr} {m : Str → Option PyData} {te : TE} {ue : DTE} (hm : KMap K d m) (ha : RE K te ue) : RE K (tOp (rGetK K d) (tC (.ref d)) te) (dGetK m ue) := by
  intro c σ G H δ Q R E h k
  refine ha c σ G H δ _ _ E h fun y δ1 v G1 H1 h1 E1 e1 r1 => ?_
  cases y <;> first
    | exact False.elim h1
    | skip
  rename_i z
  have h1 : (match m z with
    | some x => R x δ1
    | none => False) := h1
  cases q : m z with
  | none =>
    rw [q] at h1
    exact h1.elim
  | some x =>
    rw [q] at h1
    obtain ⟨u0, v0, a1, a2, a3⟩ := hm z x q
    exact ⟨z, u0, v0, rfl, r1.str_of, a1, a2, k _ δ1 _ G1 H1 h1 E1 e1 (a3 G1)⟩
section
variable {X : Cx} {a b e : Expr} {ta tb te : TE} {ua ub ue : DTE} {pos p p2 : Pos}
theorem ix_getK {d : Addr} {es : Array DictEntry} {n : Nat} (D : KDict X.K X.w d es n) : IxR X (rGetK X.K d) := by
  intro value slice pins s σ H x y v u Q I rx ry h hs
  have h' := h
  obtain ⟨z, u0, v0, rfl, rfl, _⟩ := h'
  have rx' : v = .ref d := rx
  subst rx'
  exact PyProof.Rows.tail_any (kd_type D I) F.slot_dict_getitem.lookup (op_item_kd D pins s σ H _ _ _ _ Q I rx ry h) hs
theorem de_getK {x : Str} {d : Addr} {es : Array DictEntry} {n : Nat} {m : Str → Option PyData} (D : KDict X.K X.w d es n) (hm : KMap X.K d m) (hx : X.mg x = some (.ref d)) (hb : DE X b tb ub) (hg : Gl X x := by rfl) (hd : (x == ("__debug__" : Str)) = false := by decide)
    (hs : PlainIx b := by exact fun _ _ => rfl) : DE X (.Subscript (.Name x p) b pos) (tOp (rGetK X.K d) (tC (.ref d)) tb) (dGetK m ub) := ⟨pe_ix (ix_getK D) (pe_glob hg hx rfl hd) hb.pe hs, re_getK hm hb.re⟩
theorem de_repr1 (hm : X.mg "repr" = none) (hgd : X.A.guards = some []) (hu : X.A.units + 65 < cLine) (ha : DE X a ta ua) (hg : Gl X "repr" := by rfl) (hv : bootBuiltins "repr" = some (.builtin "repr") := by decide +kernel) (hs : starEach [a] X.env = (false, eval a X.env) :: starEach [] X.env := by rfl) (hpl : (backTo pos (starEach [] X.env)).any (·.1) = false := by rfl) :
    DE X (.Call (.Name "repr" p) [a] [] pos) (tCB (rRepr X.K) (tCons ta tNil)) (dRepr ua) := ⟨pe_callB (call_reprD hgd hu) hg hm hv (pa_cons ha.pe pa_nil hs) (by decide) (by decide) hs hpl, re_repr ha.re⟩
theorem dt_tru (h : DE X e te ue) (he : ∀ whole, isTrue e X.env whole = (do let v ← whole; standAt e.pos; holding [v] (truthy v)) := by intro _; rfl) : DT X e (fun σ H Q => te σ H fun x H' => ∃ k, TruV X.K x H' k ∧ Q k H') (dTru ue) := ⟨pt_truth h.pe he, rt_tru h.re⟩
theorem ds_augT (i : Nat) {x : Str} (hN : X.N.Nodup) (he : DE X e te ue) (hi : X.N[i]? = some x := by rfl) (hx : Loc X.env.scope x := by first | exact Or.inl rfl | exact Or.inr rfl)
    (hf : X.fn x = true ∨ X.env.scope.names.lookup x = some .local := by first | exact .inl rfl | exact .inr rfl | assumption) : DS X (.AugAssign (.Name x p) .Add e pos) (tAug i te rAddT) (dAugT i ue) := ⟨ps_aug hN hi hx he.pe iop_add_str hf, rs_augT he.re⟩
theorem ds_augI (i : Nat) {x : Str} (hb : DE X b tb ub) (he : DE X e te ue) (hN : X.N[i]? = some x := by rfl) (hv : Vis X.env.scope x := by first | exact Or.inl rfl | exact Or.inr (Or.inl rfl) | exact Or.inr (Or.inr rfl)) (hd : (x == ("__debug__" : Str)) = false := by decide)
    (hcd : (x == ("__classdict__" : Str)) = false := by decide) (ha : ∀ ov iv new, augStore b ov iv new = (do holding [new, ov, iv] (setItem ov iv new); release [new, ov, iv] []; pure .next) := by intros; rfl) :
    DS X (.AugAssign (.Subscript (.Name x p) b p2) .Add e pos) (tAugS (tVar i) tb te (rIxL X.K) rAddT rSetL) (dAugI i ub ue dAddS) := ⟨ps_augS (pe_var hN hv hd hcd) hb.pe pget_list he.pe iop_add_str set_list ha, rs_augI hb.re he.re ro_addS⟩
theorem de_pop (i : Nat) {x : Str} {apos : Pos} (pb : PE X (.Call (.Attribute (.Name x p) "pop" apos) [] [] pos) (tBM0 X.K "list" rPop (tVar i))) : DE X (.Call (.Attribute (.Name x p) "pop" apos) [] [] pos) (tBM0 X.K "list" rPop (tVar i)) (dPop i) := ⟨pb, re_pop⟩
end
end TL

set_option Elab.async false
set_option linter.all false
set_option maxRecDepth 100000
set_option maxHeartbeats 4000000
/-! TLv: calls that may change two lists. -/
namespace TL
open PySem PySem.Spec L2
theorem asOf_app (δ : List Sl) : ∀ (ds : List PyData) (cs : List CA) (j : Nat), asOf δ (ds.map CA.d ++ cs) j = ds.map Sl.dat ++ asOf δ cs j
  | [], _, _ => rfl
  | d :: r, cs, j => by
    show Sl.dat d :: asOf δ (r.map CA.d ++ cs) j = _
    rw [asOf_app δ r cs j]
    rfl
theorem muts_app (δ : List Sl) : ∀ (ds : List PyData) (cs : List CA), muts δ (ds.map CA.d ++ cs) = muts δ cs
  | [], _ => rfl
  | d :: r, cs => muts_app δ r cs
theorem call_own2 {S : DSp} {ua : DCA} {δ δ' : List Sl} {R : DQ} {i j : Nat} {t1 t2 : Option Nat} {c1 c2 : List PyData} (ds : List PyData) (hu : ∀ Q : List CA → List Sl → Prop, Q (ds.map CA.d ++ [.s i, .s j]) δ' → ua δ Q) (hij : i ≠ j) (hi : δ'[i]? = some (.own t1 c1)) (hj : δ'[j]? = some (.own t2 c2)) (mono : MonoS S)
    (k : S (ds.map Sl.dat ++ [.own (some 0) c1, .own (some 1) c2]) fun d outs => ∃ o1 o2, outs = [o1, o2] ∧ R d ((δ'.set i (.own t1 o1)).set j (.own t2 o2))) : dCall S ua δ R := by
  have m1 : muts δ' [.s i, .s j] = [i, j] := by
    show (match δ'[i]? with
      | some (.own _ _) => i :: muts δ' [.s j]
      | _ => muts δ' [.s j]) = _
    rw [hi]
    show i :: (match δ'[j]? with
      | some (.own _ _) => j :: muts δ' []
      | _ => muts δ' []) = _
    rw [hj]
    rfl
  have a1 : asOf δ' [.s i, .s j] 0 = [.own (some 0) c1, .own (some 1) c2] := by
    show (match δ'[i]? with
      | some (.own _ ds) => Sl.own (some 0) ds :: asOf δ' [.s j] 1
      | some (.scr ds) => .scr ds :: asOf δ' [.s j] 0
      | _ => .no :: asOf δ' [.s j] 0) = _
    rw [hi]
    show Sl.own (some 0) c1 :: (match δ'[j]? with
      | some (.own _ ds) => Sl.own (some 1) ds :: asOf δ' [] 2
      | some (.scr ds) => .scr ds :: asOf δ' [] 1
      | _ => .no :: asOf δ' [] 1) = _
    rw [hj]
    rfl
  refine hu _ ?_
  rw [muts_app, asOf_app, m1, a1]
  refine ⟨by simp [hij], mono _ _ _ (fun d o h => ?_) k⟩
  obtain ⟨o1, o2, rfl, h⟩ := h
  refine ⟨rfl, ?_⟩
  have e : setOuts δ' [i, j] [o1, o2] = (δ'.set i (.own t1 o1)).set j (.own t2 o2) := by
    show setOut (setOut δ' i o1) j o2 = _
    have e1 : setOut δ' i o1 = δ'.set i (.own t1 o1) := by
      unfold setOut
      rw [hi]
    have e2 : (δ'.set i (.own t1 o1))[j]? = some (.own t2 c2) := by rw [List.getElem?_set_ne hij, hj]
    rw [e1]
    unfold setOut
    rw [e2]
  rw [e]
  exact h
/-- a call by data alone, whose arguments change lists -/
theorem call_pure2 {S : DSp} {ua : DCA} {δ δ' : List Sl} {R : DQ} (ds : List PyData) (hu : ∀ Q : List CA → List Sl → Prop, Q (ds.map CA.d) δ' → ua δ Q) (mono : MonoS S) (k : S (ds.map Sl.dat) fun d outs => outs = [] ∧ R d δ') : dCall S ua δ R := by
  refine hu _ ?_
  rw [muts_d, asOf_d]
  refine ⟨List.nodup_nil, mono _ _ _ (fun d o h => ?_) k⟩
  obtain ⟨rfl, h⟩ := h
  exact ⟨rfl, h⟩
theorem pop_at {δ : List Sl} {i : Nat} {t : Option Nat} {l : List PyData} {x : PyData} {R : DQ} (h : δ[i]? = some (.own t (l ++ [x]))) (k : R x (δ.set i (.own t l))) : dPop i δ R := by
  unfold dPop
  rw [h]
  show (match (l ++ [x]).getLast? with
    | some d => R d (δ.set i (.own t (l ++ [x]).dropLast))
    | none => False)
  rw [List.getLast?_append, List.dropLast_append_of_ne_nil (by simp)]
  simpa using k
/-- two texts -/
def dEqT : R2D := fun a b R => match a, b with
  | .str x, .str y => R (.bool (x == y))
  | _, _ => False
theorem ro_eqT {K : PySem.W.Frag} : RO K rEq dEqT := by
  intro G H x y d1 d2 Q R e r1 r2 h k
  cases d1 <;> cases d2 <;> first
    | exact False.elim h
    | skip
  have e1 := r1.str_of
  have e2 := r2.str_of
  subst e1 e2
  refine ⟨rfl, ?_⟩
  rw [dec_str]
  exact k _ _ G H h (Al.refl e) (.bl _)
/-- outs of two lists that were handed on -/
theorem outs2 {δ : List Sl} {a b : List PyData} (i j : Nat) (h0 : δ[i]? = some (.own (some 0) a)) (h1 : δ[j]? = some (.own (some 1) b)) : OutsIn δ [a, b] := by
  intro q cs hq
  rcases q with _ | _ | q
  · exact ⟨i, by rw [show cs = a by simpa using hq.symm]; exact h0⟩
  · exact ⟨j, by rw [show cs = b by simpa using hq.symm]; exact h1⟩
  · simp at hq
end TL

set_option Elab.async false
set_option linter.all false
set_option maxRecDepth 100000
set_option maxHeartbeats 2000000
/-! TLw: zip of two texts; repr of data with empty dicts in it; a tuple held against the empty one; get of a written dict; a list told again and again; tuple of a list; all of truths. -/
namespace TL
open PySem PySem.Spec L2

/-! ### zip of two texts -/
def ItzS (x y : Str) : It :=
  ⟨fun i _ => i < x.cps.size ∧ i < y.cps.size,
    fun i H v H' => ∃ T c d, v = .ref T ∧ H T = none ∧ H' = upd H T (.tup [.str ⟨#[c]⟩, .str ⟨#[d]⟩]) ∧ x.cps[i]? = some c ∧ y.cps[i]? = some d,
    fun i _ => i = min x.cps.size y.cps.size⟩
theorem turn_zipS {P : Program} {w : World} {K : PySem.W.Frag} {elts : List Expr} {kk : Nat} {tpos : Pos} {z zi zo i1 i2 : Addr} {x y : Str} {t u : Tok} (D : ZipSep2 z zi zo i1 i2 [i1] [i2]) :
    Turn P w K (.Tuple elts kk tpos) (ItzS x y) [z, zi, zo, i1, i2] z (fun i h => IsZip h z zi zo .none ∧ IsTupOf2 h zi (.ref i1) (.ref i2) ∧ (∃ a b, IsTupOf2 h zo a b) ∧ h.IsStrIter i1 (strIterType x) x t i ∧ h.IsStrIter i2 (strIterType y) y u i) where
  mem := by simp
  obj := fun i h st c hc => by
    obtain ⟨hz, hTI, ⟨x0, y0, hTO⟩, ⟨o1, e1, c1, d1⟩, ⟨o2, e2, c2, d2⟩⟩ := st
    have e' : c = z ∨ c = zi ∨ c = zo ∨ c = i1 ∨ c = i2 := by simpa using hc
    rcases e' with q | q | q | q | q
    · rw [q]; exact ⟨_, hz, fun v q => nomatch q⟩
    · rw [q]; exact ⟨_, hTI, fun v q => nomatch q⟩
    · rw [q]; exact ⟨_, hTO, fun v q => nomatch q⟩
    · rw [q]; exact ⟨o1, e1, fun v q => by rw [d1] at q; cases q⟩
    · rw [q]; exact ⟨o2, e2, fun v q => by rw [d2] at q; cases q⟩
  keep := fun i h h' st k => by
    obtain ⟨hz, hTI, ⟨x0, y0, hTO⟩, ⟨o1, e1, r1⟩, ⟨o2, e2, r2⟩⟩ := st
    exact ⟨k z (by simp) _ hz, k zi (by simp) _ hTI, ⟨x0, y0, k zo (by simp) _ hTO⟩, ⟨o1, k i1 (by simp) o1 e1, r1⟩, ⟨o2, k i2 (by simp) o2 e2, r2⟩⟩
  item := by
    intro X hP hw hK hc i pins s σ H E I hf st hg
    subst hP hw hK
    obtain ⟨hz, hTI, ⟨x0, y0, hTO⟩, h1, h2⟩ := st
    have hd : X.A.in1.handled = none := I.ok.hd hc
    have D1 := Draws.text (prog := X.prog) (w := X.w) hd i1 x t
    have D2 := Draws.text (prog := X.prog) (w := X.w) hd i2 y u
    have hzl : z < s.heap.objs.size := Heap.lt_size hz
    refine wpAny_pyNext_zipD2_item D D1 D2 hz hTI hTO h1 h2 hg.1 hg.2 fun v1 v2 h' tk y1 y2 z' TO' h1' h2' hT hsz hk => ?_
    obtain ⟨c, u1, hc1, rfl⟩ := y1
    obtain ⟨d, u2, hd1, rfl⟩ := y2
    refine ⟨_, rfl, wpAny_letOwnedTupleGo_zip (s := { s with heap := h', toks := tk }) z' fun h'' z'' sb => ?_⟩
    have hT2 : h''.get? s.heap.objs.size = some { cls := .type "tuple", data := .seq #[.str ⟨#[c]⟩ u1, .str ⟨#[d]⟩ u2] } := (sb.2 _ (Nat.ne_of_gt hzl)).trans hT
    have new : ObjOk X.prog X.w (upd H s.heap.objs.size (.tup [.str ⟨#[c]⟩, .str ⟨#[d]⟩])) h'' s.heap.objs.size (.tup [.str ⟨#[c]⟩, .str ⟨#[d]⟩]) :=
      ⟨by show 2 ≤ sizeLine; decide, [.str ⟨#[c]⟩ u1, .str ⟨#[d]⟩ u2], .cons ⟨u1, rfl⟩ (.cons ⟨u2, rfl⟩ .nil), ⟨_, hT2, rfl, _, rfl⟩⟩
    have I1 : Inv X pins σ (upd H s.heap.objs.size (.tup [.str ⟨#[c]⟩, .str ⟨#[d]⟩])) { s with heap := h'', toks := tk } :=
      I.turnedNew (t' := tk) (ch := [z, zi, zo, i1, i2]) (fun c o hb q => (sb.2 c (fun q' => hb (by simp [q']))).trans (hk c o (fun q' => hb (by simp [q'])) (fun q' => hb (by simp [q'])) (fun q' => hb (by simp [q'])) (fun q' => hb (by simp [q'])) q)) hf (Nat.le_refl _) new
    have i1z : i1 ≠ z := D.zi1.symm
    have i2z : i2 ≠ z := D.zi2.symm
    refine ⟨.ref s.heap.objs.size, _, I1, rfl, ⟨_, c, d, rfl, I.hok.fresh (Nat.le_refl _), rfl, hc1, hd1⟩, ⟨z'', ?_, ⟨.str ⟨#[c]⟩ u1, .str ⟨#[d]⟩ u2, ?_⟩, ?_, ?_⟩, fun c hcm => ?_⟩
    · exact (sb.2 _ D.TIz).trans (hk _ _ D.TIz D.TITO D.TIi1 D.TIi2 hTI)
    · exact (sb.2 _ D.TOz).trans TO'
    · obtain ⟨o, e, r⟩ := h1'; exact ⟨o, (sb.2 _ i1z).trans e, r⟩
    · obtain ⟨o, e, r⟩ := h2'; exact ⟨o, (sb.2 _ i2z).trans e, r⟩
    · have hlt : c < s.heap.objs.size := by
        have e' : c = z ∨ c = zi ∨ c = zo ∨ c = i1 ∨ c = i2 := by simpa using hcm
        rcases e' with q | q | q | q | q
        · rw [q]; exact hzl
        · rw [q]; exact Heap.lt_size hTI
        · rw [q]; exact Heap.lt_size hTO
        · rw [q]; obtain ⟨_, e1, _⟩ := h1; exact Heap.lt_size e1
        · rw [q]; obtain ⟨_, e2, _⟩ := h2; exact Heap.lt_size e2
      rw [upd_ne (Nat.ne_of_lt hlt)]
      exact (hf c hcm).1
  done := by
    intro X hP hw hK hc i pins s σ H E I hf st hg
    subst hP hw hK
    obtain ⟨hz, hTI, ⟨x0, y0, hTO⟩, h1, h2⟩ := st
    have hd : X.A.in1.handled = none := I.ok.hd hc
    have D1 := Draws.text (prog := X.prog) (w := X.w) hd i1 x t
    have D2 := Draws.text (prog := X.prog) (w := X.w) hd i2 y u
    have hg' : i = min x.cps.size y.cps.size := hg
    exact wpAny_pyNext_zipD2_end D D1 D2 hz hTI hTO h1 h2 (by omega) (by omega) (by omega) fun h' tk hk => ⟨rfl, I.turnedL (t' := tk) (ch := [z, zi, zo, i1, i2]) (fun c o hb q =>
      hk c o (fun q' => hb (by simp [q'])) (fun q' => hb (by simp [q'])) (fun q' => hb (by simp [q'])) (fun q' => hb (by simp [q'])) q) hf⟩
  self := fun A i s Q E st h => wpAny_pyIter_zip st.1 h
def iZipS (ta : TA) : L2.TI := fun σ H R => ta σ H fun vs H1 => ∃ x y, vs = [.str x, .str y] ∧ R (ItzS x y) H1
theorem pi_zipS {X : Cx} {e e2 : Expr} {ta : TA} {p pos tpos : Pos} {elts : List Expr} {kk : Nat} (hg : Gl X "zip") (hm : X.mg "zip" = none) (ha : PA X [e, e2] ta)
    (hs : starEach [e, e2] X.env = (false, eval e X.env) :: starEach [e2] X.env := by rfl) (hpl : (backTo pos (starEach [e2] X.env)).any (·.1) = false := by rfl) :
    PI X (.Tuple elts kk tpos) (.Call (.Name "zip" p) [e, e2] [] pos) (iZipS ta) := by
  refine ⟨fun pins s σ H R I h => ?_⟩
  refine PyProof.Rows.Call_ (ld_blt I hg hm PyProof.Rows.boot_zip (PyProof.Rows.callWith_type1 (thn (ha.run pos pins s σ H _ I h) fun us s1 ⟨vs, H1, I1, r1, q1⟩ => ?_) hs hpl))
  obtain ⟨x, y, ex, q1⟩ := q1
  subst ex
  cases r1 with
  | cons r rr =>
    cases rr with
    | cons r' rr =>
      cases rr
      obtain ⟨t, rfl⟩ := r
      obtain ⟨u, rfl⟩ := r'
      have fresh5 : ∀ c, c ∈ [s1.heap.objs.size + 4, s1.heap.objs.size + 2, s1.heap.objs.size + 3, s1.heap.objs.size, s1.heap.objs.size + 1] → FpOk X pins H1 c := fun c hcm => by
        have e' : c = s1.heap.objs.size + 4 ∨ c = s1.heap.objs.size + 2 ∨ c = s1.heap.objs.size + 3 ∨ c = s1.heap.objs.size ∨ c = s1.heap.objs.size + 1 := by simpa using hcm
        have hle : s1.heap.objs.size ≤ c := by
          rcases e' with z | z | z | z | z
          · rw [z]; exact Nat.le_add_right _ _
          · rw [z]; exact Nat.le_add_right _ _
          · rw [z]; exact Nat.le_add_right _ _
          · rw [z]; exact Nat.le_refl _
          · rw [z]; exact Nat.le_add_right _ _
        exact I1.fpOk hle (I1.hok.fresh hle)
      refine zip_begins2 (begins_text x t) (begins_text y u) trivial trivial fun h' hz hTI hTO h1 h2 hsz hk => wpAny_pyIter_zip hz ?_
      have I2 : Inv X pins σ H1 { s1 with heap := h' } := I1.kept (t' := s1.toks) hk
      have sep : ZipSep2 (s1.heap.objs.size + 4) (s1.heap.objs.size + 2) (s1.heap.objs.size + 3) s1.heap.objs.size (s1.heap.objs.size + 1) [s1.heap.objs.size] [s1.heap.objs.size + 1] := by
        constructor <;> simp
      exact ⟨s1.heap.objs.size + 4, [s1.heap.objs.size + 4, s1.heap.objs.size + 2, s1.heap.objs.size + 3, s1.heap.objs.size, s1.heap.objs.size + 1], _, _, H1, rfl, I2, turn_zipS (x := x) (y := y) (t := t) (u := u) sep, ⟨hz, hTI, ⟨_, _, hTO⟩, ⟨_, h1, rfl, rfl⟩, ⟨_, h2, rfl, rfl⟩⟩, fresh5, q1⟩
/-- the pairs of two texts -/
def zipS (x y : Str) : List PyData := (x.cps.toList.zip y.cps.toList).map fun p => .tuple [.str ⟨#[p.1]⟩, .str ⟨#[p.2]⟩]
def diZS (ua ub : DTE) : DTI := fun δ R => ua δ fun d1 δ1 => ub δ1 fun d2 δ2 => match d1, d2 with
  | .str x, .str y => R (zipS x y) δ2
  | _, _ => False
theorem ri_zipS {K : PySem.W.Frag} {ta tb : TE} {ua ub : DTE} (ha : RE K ta ua) (hb : RE K tb ub) : RI K (iZipS (tCons ta (tCons tb tNil))) (diZS ua ub) := by
  intro c σ G H δ Q R E h k
  refine ha c σ G H δ _ _ E h fun d1 δ1 v1 G1 H1 h1 E1 e1 r1 => ?_
  refine hb c σ G1 H1 δ1 _ _ E1 h1 fun d2 δ2 v2 G2 H2 h2 E2 e2 r2 => ?_
  cases d1 <;> cases d2 <;> first
    | exact False.elim h2
    | skip
  rename_i x y
  refine ⟨x, y, by rw [r1.str_of, r2.str_of], k _ δ2 _ G2 H2 h2 E2 (e1.trans e2) ⟨fun G3 H3 a1 a2 => ?_, fun G3 H3 i d a1 a2 hd => ?_⟩⟩
  · show (zipS x y).length = min x.cps.size y.cps.size
    unfold zipS
    rw [List.length_map, List.length_zip, Array.length_toList, Array.length_toList]
  · unfold zipS at hd
    rw [List.getElem?_map] at hd
    cases q : (x.cps.toList.zip y.cps.toList)[i]? with
    | none =>
      rw [q] at hd
      cases hd
    | some ch =>
      rw [q] at hd
      cases hd
      rw [List.getElem?_zip_eq_some] at q
      obtain ⟨qa, qb⟩ := q
      have la := (List.getElem?_eq_some_iff.mp qa).1
      have lb := (List.getElem?_eq_some_iff.mp qb).1
      rw [Array.length_toList] at la lb
      rw [Array.getElem?_toList] at qa qb
      refine ⟨⟨la, lb⟩, fun z H4 hy => ?_⟩
      obtain ⟨T, c, d, rfl, hT, rfl, hc, hd⟩ := hy
      rw [qa] at hc
      rw [qb] at hd
      cases hc
      cases hd
      have A := Al.new (o := .tup [.str ⟨#[ch.1]⟩, .str ⟨#[ch.2]⟩]) a2 hT
      exact ⟨_, A, .tup upd_same (.cons (.str _) (.cons (.str _) .nil))⟩
theorem di_zipS {X : Cx} {a b : Expr} {ta tb : TE} {ua ub : DTE} {p pos tpos : Pos} {elts : List Expr} {kk : Nat} (hm : X.mg "zip" = none) (ha : DE X a ta ua) (hb : DE X b tb ub) (hg : Gl X "zip" := by rfl)
    (hs : starEach [a, b] X.env = (false, eval a X.env) :: starEach [b] X.env := by rfl) (hs2 : starEach [b] X.env = (false, eval b X.env) :: starEach [] X.env := by rfl) (hpl : (backTo pos (starEach [b] X.env)).any (·.1) = false := by rfl) :
    DI X (.Tuple elts kk tpos) (.Call (.Name "zip" p) [a, b] [] pos) (iZipS (tCons ta (tCons tb tNil))) (diZS ua ub) :=
  ⟨pi_zipS hg hm (pa_cons ha.pe (pa_cons hb.pe pa_nil hs2) hs) hs hpl, ri_zipS ha.re hb.re⟩
end TL

set_option Elab.async false
set_option linter.all false
set_option maxRecDepth 100000
set_option maxHeartbeats 2000000
/-! TLx: repr of data with empty dicts in it; a tuple held against the empty one; get of a written dict; a list told again and again; tuple of a list. -/
namespace TL
open PySem PySem.Spec L2

/-! ### repr of data with empty dicts -/
mutual
/-- no dict but an empty one -/
def okD : PyData → Bool
  | .none => true
  | .bool _ => true
  | .int _ => true
  | .str _ => true
  | .list ds => okDs ds
  | .tuple ds => okDs ds
  | .dict ds => ds.isEmpty
def okDs : List PyData → Bool
  | [] => true
  | d :: ds => okD d && okDs ds
end
section
variable {X : Cx} {pins : List (Addr × Obj)} {σ : St} {H : Hp} {s : Shared}
theorem dict_empty (I : Inv X pins σ H s) {a : Addr} (h : H a = some (.dK [])) : ∃ o es n, s.heap.get? a = some o ∧ o.cls = .type "dict" ∧ o.data = .dict es n ∧ es.toList = [] ∧ (a == sysModules) = false := by
  obtain ⟨_, hd, vs, rel, o, es, ep, ho, hx, hdat, _, hp, _⟩ := dk_of I.hok h
  cases rel
  refine ⟨o, es, ep, ho, hx.1, hdat, ?_, hd⟩
  generalize es.toList = l at hp
  cases hp
  rfl
mutual
theorem rp_repr (I : Inv X pins σ H s) : ∀ (d : PyData) (v : V) (u : Value), Rp X.K H v d → RelV v u → okD d = true → d.showable = true → d.shown.length ≤ sizeLine →
    ∃ as bs, Reads s.heap u d as ∧ ReadAtMost s.heap d.depth bs ∧ ReprK X.prog X.w bs s.heap d.depth u d.shown
  | .none, _, _, h, r, _, _, _ => by
    cases h
    cases r
    exact ⟨[], [], Reads.none, (fun _ h => nomatch h), by simp only [PyData.shown]; exact .of_is ReprIs.none _ _ _⟩
  | .bool b, _, _, h, r, _, _, _ => by
    cases h
    cases r
    exact ⟨[], [], Reads.bool b, (fun _ h => nomatch h), by simp only [PyData.shown]; exact .of_is (ReprIs.bool b) _ _ _⟩
  | .int i, _, _, h, r, _, hs, _ => by
    cases h
    obtain ⟨t, rfl⟩ := r
    exact ⟨[], [], Reads.int i t, (fun _ h => nomatch h), by simp only [PyData.shown]; exact .of_is (ReprIs.int t (by simpa [PyData.showable] using hs)) _ _ _⟩
  | .str x, _, _, h, r, _, _, hz => by
    cases h
    obtain ⟨t, rfl⟩ := r
    exact ⟨[], [], Reads.str x t, (fun _ h => nomatch h), by simp only [PyData.shown]; exact .of_is (ReprIs.str x t (by simpa only [PyData.shown] using hz)) _ _ _⟩
  | .list ds, _, _, h, r, ho, hs, hz => by
    cases h with
    | lst ha hr =>
      cases r
      rename_i a xs
      obtain ⟨its, rv, ⟨o, n, h1, h2, _, h3⟩, _⟩ := I.list (.inl (.inl ha))
      have hz' : (listText (PyData.shownAll ds)).length ≤ sizeLine := by simpa only [PyData.shown] using hz
      obtain ⟨as, bs, h4, hb, hk⟩ := rp_reprAll I ds _ its hr rv (by simpa [okD] using ho) (by simpa [PyData.showable] using hs) (fun t ht => Nat.le_trans (listText_mem_le ht) hz')
      have r : Reads s.heap (.ref a) (.list ds) _ := .list h1 h2 h3 (by simpa using h4)
      have hna : a ∉ bs := not_mem_of_deeper r (by simp only [PyData.depth]; omega) hb
      refine ⟨_, a :: bs, r, ReadAtMost.cons r (by simp only [PyData.depth]; omega) hb, ?_⟩
      simp only [PyData.depth, PyData.shown]
      cases its with
      | nil =>
        cases h4
        simp only [PyData.shownAll, listText_nil]
        exact ReprK.listEmpty h1 h2 h3
      | cons x l => exact ReprK.list h1 h2 h3 hna (by simpa using hk.length_eq) (fun i y e => hk.item i y (by simpa using e))
  | .tuple ds, _, _, h, r, ho, hs, hz => by
    cases h with
    | tup ha hr =>
      cases r
      rename_i a xs
      obtain ⟨its, rv, ⟨o, h1, h2, n, h3⟩, _⟩ := I.tuple (.inl (.inl ha))
      have hz' : (tupleText (PyData.shownAll ds)).length ≤ sizeLine := by simpa only [PyData.shown] using hz
      obtain ⟨as, bs, h4, hb, hk⟩ := rp_reprAll I ds _ its hr rv (by simpa [okD] using ho) (by simpa [PyData.showable] using hs) (fun t ht => Nat.le_trans (tupleText_mem_le ht) hz')
      have r : Reads s.heap (.ref a) (.tuple ds) _ := .tuple h1 h2 h3 (by simpa using h4)
      have hna : a ∉ bs := not_mem_of_deeper r (by simp only [PyData.depth]; omega) hb
      refine ⟨_, a :: bs, r, ReadAtMost.cons r (by simp only [PyData.depth]; omega) hb, ?_⟩
      simp only [PyData.depth, PyData.shown]
      exact ReprK.tuple h1 h2 h3 hna (by simpa using hk)
  | .dict ds, _, _, h, r, ho, hs, hz => by
    cases h with
    | dic ha hl =>
      cases r
      rename_i a kvs
      cases ds with
      | cons p q => cases (show false = true from ho)
      | nil =>
        have e : kvs = [] := List.length_eq_zero_iff.mp hl
        subst e
        obtain ⟨o, es, n, h1, h2, h3, h4, h5⟩ := dict_empty I ha
        have r : Reads s.heap (.ref a) (.dict []) _ := .dict (kvs := []) h1 h2 h3 (by rw [h4]; exact .nil) (by rw [h4]; exact .nil)
        have hb : ReadAtMost s.heap (PyData.depthKv []) [] := fun _ h => nomatch h
        refine ⟨_, [a], r, ReadAtMost.cons r (by simp only [PyData.depth]; omega) hb, ?_⟩
        simp only [PyData.depth, PyData.shown]
        exact ReprK.dict h1 h2 h3 h5 (fun h => nomatch h) (by rw [h4]; simp only [PyData.shownKv]; exact .nil)
theorem rp_reprAll (I : Inv X pins σ H s) : ∀ (ds : List PyData) (vs : List V) (us : List Value), RpAll X.K H vs ds → Vals vs us → okDs ds = true → PyData.showableAll ds = true → (∀ t ∈ PyData.shownAll ds, t.length ≤ sizeLine) →
    ∃ as bs, ReadsAll s.heap us ds as ∧ ReadAtMost s.heap (PyData.depthAll ds) bs ∧ ReprAllK X.prog X.w bs s.heap (PyData.depthAll ds) us (PyData.shownAll ds)
  | [], _, _, h, r, _, _, _ => by
    cases h
    cases r
    exact ⟨[], [], .nil, (fun _ h => nomatch h), by simp only [PyData.shownAll]; exact .nil⟩
  | d :: ds, _, _, h, r, ho, hs, hz => by
    cases h with
    | cons h1 h2 =>
      cases r with
      | cons r1 r2 =>
        have ho' : okD d = true ∧ okDs ds = true := by simpa [okDs] using ho
        have hs' : d.showable = true ∧ PyData.showableAll ds = true := by simpa [PyData.showableAll] using hs
        obtain ⟨as1, b1, q1, hb1, k1⟩ := rp_repr I d _ _ h1 r1 ho'.1 hs'.1 (hz _ (by simp only [PyData.shownAll]; exact List.mem_cons_self ..))
        obtain ⟨as2, b2, q2, hb2, k2⟩ := rp_reprAll I ds _ _ h2 r2 ho'.2 hs'.2 (fun t ht => hz t (by simp only [PyData.shownAll]; exact List.mem_cons_of_mem _ ht))
        refine ⟨_, b1 ++ b2, .cons q1 q2, ?_, ?_⟩
        · intro b hm
          simp only [PyData.depthAll]
          rcases List.mem_append.mp hm with hm | hm
          · obtain ⟨d', as', r', hd'⟩ := hb1 b hm
            exact ⟨d', as', r', Nat.le_trans hd' (Nat.le_max_left _ _)⟩
          · obtain ⟨d', as', r', hd'⟩ := hb2 b hm
            exact ⟨d', as', r', Nat.le_trans hd' (Nat.le_max_right _ _)⟩
        · simp only [PyData.depthAll, PyData.shownAll]
          exact .cons ((k1.more fun b hb => List.mem_append_left _ hb).level_le (Nat.le_max_left _ _)) (k2.more_le (fun b hb => List.mem_append_right _ hb) (Nat.le_max_right _ _))
end
end
def rReprX (K : PySem.W.Frag) : List V → Hp → VK → Prop := fun xs H Q => ∃ x d, xs = [x] ∧ Rp K H x d ∧ okD d = true ∧ d.showable = true ∧ d.shown.length ≤ sizeLine ∧ d.depth ≤ 64 ∧ Q (.str d.shown) H
theorem call_reprX {X : Cx} (hg : X.A.guards = some []) (hu : X.A.units + 65 < cLine) : CallR X (.builtin "repr") (rReprX X.K) := by
  intro pins s σ H xs us Q I r h
  obtain ⟨x, d, rfl, hd, ho, hs, hz, hdp, q⟩ := h
  obtain ⟨u, rfl, ru⟩ := L2.vals1 r
  have kk : ∀ b o, s.heap.get? b = some o → s.heap.get? b = some o := fun _ _ e => e
  have fin : ∀ (h' : Heap) (u : Tok) (tk : Tok), (∀ b o, s.heap.get? b = some o → h'.get? b = some o) → ∃ x t, Value.str d.shown u = .str x t ∧ EP X pins σ Q (.str d.shown u) { s with heap := h', toks := tk } := fun h' u tk hk => ⟨_, _, rfl, .str d.shown, H, I.kept hk, ⟨_, rfl⟩, q⟩
  cases hd with
  | non =>
    obtain rfl : u = Value.none := ru
    exact PySem.P.repr_of_none ⟨.str (PyData.shown .none), H, I.tok _, ⟨_, rfl⟩, q⟩
  | bl b =>
    obtain rfl : u = Value.bool b := ru
    exact PySem.P.repr_of_bool ⟨.str (PyData.shown (.bool b)), H, I.tok _, ⟨_, rfl⟩, q⟩
  | int i =>
    obtain ⟨t, rfl⟩ := ru
    exact PySem.P.repr_of_int (of_decide_eq_true hs) ⟨.str (PyData.shown (.int i)), H, I.tok _, ⟨_, rfl⟩, q⟩
  | str y =>
    obtain ⟨t, rfl⟩ := ru
    exact PySem.P.repr_of_str ⟨.str (PyData.shown (.str y)), H, I.tok _, ⟨_, rfl⟩, q⟩ hz
  | @lst a xs ds ha hr =>
    obtain rfl : u = Value.ref a := ru
    obtain ⟨its, rv, ⟨o, n, h1, h2, _, h3⟩, _⟩ := I.list (.inl (.inl ha))
    have hz' : (listText (PyData.shownAll ds)).length ≤ sizeLine := by simpa only [PyData.shown] using hz
    obtain ⟨as, bs, h4, hb, hk⟩ := rp_reprAll I ds _ its hr rv (by simpa [okD] using ho) (by simpa [PyData.showable] using hs) (fun t ht => Nat.le_trans (listText_mem_le ht) hz')
    have r : Reads s.heap (.ref a) (.list ds) _ := .list h1 h2 h3 (by simpa using h4)
    have hna : a ∉ bs := not_mem_of_deeper r (by simp only [PyData.depth]; omega) hb
    simp only [PyData.depth] at hdp
    simp only [PyData.shown] at fin
    refine call_repr_slot (by omega) ⟨o, h1, h2⟩ F.slot_list_repr.toG ?_
    cases its with
    | nil =>
      cases h4
      simp only [PyData.shownAll, listText_nil] at fin
      exact call_list_repr_empty ⟨o, h1, h2⟩ h1 h3 (fin s.heap _ _ kk)
    | cons x l =>
      exact call_list_reprK h1 h2 h3 hna (by simpa using hk.length_eq) (fun i y e => hk.item i y (by simpa using e)) hg (fun b _ => Clear.nil b) (by show X.A.units + 1 + _ < cLine; omega) kk fin hz'
  | @tup a xs ds ha hr =>
    obtain rfl : u = Value.ref a := ru
    obtain ⟨its, rv, ⟨o, h1, h2, n, h3⟩, _⟩ := I.tuple (.inl (.inl ha))
    have hz' : (tupleText (PyData.shownAll ds)).length ≤ sizeLine := by simpa only [PyData.shown] using hz
    obtain ⟨as, bs, h4, hb, hk⟩ := rp_reprAll I ds _ its hr rv (by simpa [okD] using ho) (by simpa [PyData.showable] using hs) (fun t ht => Nat.le_trans (tupleText_mem_le ht) hz')
    have r : Reads s.heap (.ref a) (.tuple ds) _ := .tuple h1 h2 h3 (by simpa using h4)
    have hna : a ∉ bs := not_mem_of_deeper r (by simp only [PyData.depth]; omega) hb
    simp only [PyData.depth] at hdp
    simp only [PyData.shown] at fin
    refine call_repr_slot (by omega) ⟨o, h1, h2⟩ F.slot_tuple_repr ?_
    exact call_tuple_reprK h1 h2 h3 hna (by simpa using hk) hg (fun b _ => Clear.nil b) (by show X.A.units + 1 + _ < cLine; omega) kk fin hz'
  | @dic a kvs ds ha hl =>
    obtain rfl : u = Value.ref a := ru
    cases ds with
    | cons p q => cases (show false = true from ho)
    | nil =>
      have e : kvs = [] := List.length_eq_zero_iff.mp hl
      subst e
      obtain ⟨o, es, n, h1, h2, h3, h4, h5⟩ := dict_empty I ha
      have hz' : (dictText (PyData.shownKv [])).length ≤ sizeLine := by simpa only [PyData.shown] using hz
      simp only [PyData.shown] at fin
      refine call_repr_slot (by omega) ⟨o, h1, h2⟩ F.slot_dict_repr ?_
      exact call_dict_reprK (as := []) (d := 0) h1 h2 h3 h5 (fun h => nomatch h) (by rw [h4]; simp only [PyData.shownKv]; exact .nil) hg (fun b _ => Clear.nil b) (by show X.A.units + 1 + _ < cLine; omega) kk fin hz'
def dReprX (u : DTE) : DTE := fun δ R => u δ fun d δ1 => okD d = true ∧ d.showable = true ∧ d.shown.length ≤ sizeLine ∧ d.depth ≤ 64 ∧ R (.str d.shown) δ1
theorem re_reprX {K : PySem.W.Frag} {te : TE} {ue : DTE} (ha : RE K te ue) : RE K (tCB (rReprX K) (tCons te tNil)) (dReprX ue) := by
  intro c σ G H δ Q R E h k
  refine ha c σ G H δ _ _ E h fun d δ1 v G1 H1 h1 E1 e1 r1 => ?_
  exact ⟨v, d, rfl, r1.up E1.ex, h1.1, h1.2.1, h1.2.2.1, h1.2.2.2.1, k _ δ1 _ G1 H1 h1.2.2.2.2 E1 e1 (.str _)⟩

/-! ### a tuple held against the empty one -/
def rEqT0 (K : PySem.W.Frag) : R2 := fun x y H Q => ∃ a b xs, x = .ref a ∧ y = .ref b ∧ SqT K H a xs ∧ SqT K H b [] ∧ Q (.bl xs.isEmpty) H
theorem op_eqT0 {X : Cx} (hu : X.A.units < cLine) : OpR X (compareOp .Eq) (rEqT0 X.K) := by
  intro pins s σ H x y v u Q I rx ry h
  obtain ⟨a, b, xs, rfl, rfl, h1, h2, q⟩ := h
  cases rx
  cases ry
  obtain ⟨its, rv, p, _⟩ := I.tuple h1
  obtain ⟨its2, rv2, p2, _⟩ := I.tuple h2
  cases rv2
  refine SeqAt.eq_tupleAt (e := fun _ => true) (show s.heap.IsTuple a its.toArray from p) (show s.heap.IsTuple b #[] from p2) hu (fun j _ h => absurd h (Nat.not_lt_zero j)) ⟨.bl xs.isEmpty, H, I, ?_, q⟩
  have e : ((List.range (min its.toArray.size (#[] : Array Value).size)).all (fun _ => true) && its.toArray.size == (#[] : Array Value).size) = xs.isEmpty := by
    have l := rv.length
    cases xs with
    | nil =>
      cases its with
      | nil => rfl
      | cons x r => cases l
    | cons x r =>
      cases its with
      | nil => cases l
      | cons y r => simp
  rw [e]
  rfl
def rdEqT0 : R2D := fun d1 d2 R => match d1, d2 with
  | .tuple xs, .tuple [] => R (.bool xs.isEmpty)
  | _, _ => False
theorem ro_eqT0 {K : PySem.W.Frag} : RO K (rEqT0 K) rdEqT0 := by
  intro G H x y d1 d2 Q R e r1 r2 h k
  cases d1 <;> first
    | exact False.elim h
    | skip
  cases d2 <;> first
    | exact False.elim h
    | skip
  rename_i xs ys
  cases ys with
  | cons y r => exact False.elim h
  | nil =>
    obtain ⟨a, vs, rfl, a1, a2⟩ := r1.tup_of
    obtain ⟨b, us, rfl, b1, b2⟩ := r2.tup_of
    cases b2
    exact ⟨a, b, vs, rfl, rfl, .inl (.inl (e _ _ a1)), .inl (.inl (e _ _ b1)), by rw [empty_rp a2]; exact k _ _ G H h (Al.refl e) (.bl _)⟩

/-! ### get of a written dict -/
def tKG (K : PySem.W.Frag) (d : Addr) (ty : TE) : TE := fun σ H Q => ty σ H fun y H1 => ∃ (z : Str) (r : Option Value) (v : V), y = .str z ∧ PySem.W.nsIn K d z = some r ∧ RelV v (r.getD .none) ∧ Q v H1
theorem pe_kget {X : Cx} {x : Str} {e : Expr} {p apos cpos : Pos} {ty : TE} {d : Addr} {es : Array DictEntry} {n : Nat} (D : KDict X.K X.w d es n) (hx : X.mg x = some (.ref d)) (he : PE X e ty) (hg : Gl X x) (hd : (x == ("__debug__" : Str)) = false)
    (m : M1 X (.Name x p) "get" apos e cpos) : PE X (.Call (.Attribute (.Name x p) "get" apos) [e] [] cpos) (tKG X.K d ty) := by
  refine ⟨fun pins s σ H Q I h => ?_⟩
  refine wpAny_Call_method m.base m.few m.line PySem.F.plainAttrs_dict PySem.F.slot_dict_get PySem.F.type_dict_get (thn ((pe_glob (v := .ref d) hg hx rfl hd).run pins s σ H (fun v H1 => v = .ref d ∧ H1 = H) I ⟨rfl, rfl⟩) fun u s1 ⟨x, H1, I1, rx, ex, eh⟩ => ?_)
  subst ex eh
  obtain rfl : u = Value.ref d := rx
  have hm := PySem.W.mapOf_K (prog := X.prog) (w := X.w) I1.kIn D.at_ D.lit
  refine ⟨hm.typeIs, hm.noDict, ?_⟩
  rw [m.trees]
  refine Calls.callWith_builtin rfl (Calls.evalArgs_plain (Calls.spliced_cons (thn (he.run pins s1 σ H1 _ I1 h) fun iv s2 ⟨y, H2, I2, ry, z, r, v, ey, hn, rv, q2⟩ => Calls.spliced_nil ?_)))
  subst ey
  obtain ⟨t, rfl⟩ := ry
  have hm2 := PySem.W.mapOf_K (prog := X.prog) (w := X.w) I2.kIn D.at_ D.lit
  refine call_meetsIn PySem.F.slot_dict_get hm2.typeIs PySem.F.entry_dict_get (PySem.F.args_dict_get_2 _ _) (meets_dict_get (strKind X.prog X.w) d (PySem.strKind_is X.prog X.w z t) D.low) ⟨_, hm2, v, H2, I2.tok _, ?_, q2⟩
  rw [PySem.W.find_K D.at_ hn]
  exact rv
/-- the dict at d tells at every text what m tells -/
def KMap0 (K : PySem.W.Frag) (d : Addr) (m : Str → PyData) : Prop := ∀ z, ∃ r v, PySem.W.nsIn K d z = some r ∧ RelV v (r.getD .none) ∧ ∀ G, Rp K G v (m z)
def dKG (m : Str → PyData) (u : DTE) : DTE := fun δ R => u δ fun d δ1 => match d with
  | .str z => R (m z) δ1
  | _ => False
theorem re_kget {K : PySem.W.Frag} {d : Addr} {m : Str → PyData} {te : TE} {ue : DTE} (hm : KMap0 K d m) (ha : RE K te ue) : RE K (tKG K d te) (dKG m ue) := by
  intro c σ G H δ Q R E h k
  refine ha c σ G H δ _ _ E h fun y δ1 v G1 H1 h1 E1 e1 r1 => ?_
  cases y <;> first
    | exact False.elim h1
    | skip
  rename_i z
  obtain ⟨r, v0, a1, a2, a3⟩ := hm z
  exact ⟨z, r, v0, r1.str_of, a1, a2, k _ δ1 _ G1 H1 h1 E1 e1 (a3 G1)⟩
/-- a written dict whose texts and ints are known -/
theorem kmap0 {K : PySem.W.Frag} {d : Addr} {es : Array DictEntry} {n : Nat} (hl : K.lookup d = some ⟨.type "dict", none, .dict es n, #[]⟩) (kvs : List (Str × Int)) (h : ∃ f : Nat → Tok × Tok, es.toList.map (fun e => (e.key, e.val)) = kvs.mapIdx fun i p => (Value.str p.1 (f i).1, Value.int p.2 (f i).2)) :
    KMap0 K d fun z => match kvs.find? (·.1 == z) with
      | some p => .int p.2
      | none => .none := by
  intro z
  obtain ⟨f, h⟩ := h
  have key : ∀ (l : List DictEntry) (kvs : List (Str × Int)) (f : Nat → Tok × Tok), l.map (fun e => (e.key, e.val)) = kvs.mapIdx (fun i p => (Value.str p.1 (f i).1, Value.int p.2 (f i).2)) →
      ((∃ e p t, l.find? (·.key.isStr z) = some e ∧ kvs.find? (·.1 == z) = some p ∧ e.val = Value.int p.2 t) ∨ (l.find? (·.key.isStr z) = none ∧ kvs.find? (·.1 == z) = none)) ∧ l.any (·.refKey) = false := by
    intro l
    induction l with
    | nil =>
      intro kvs f h
      cases kvs with
      | nil => exact ⟨.inr ⟨rfl, rfl⟩, rfl⟩
      | cons p q => simp at h
    | cons e l ih =>
      intro kvs f h
      cases kvs with
      | nil => simp at h
      | cons p q =>
        rw [List.map_cons, List.mapIdx_cons] at h
        injection h with h1 h2
        injection h1 with hk hv
        obtain ⟨i1, i2⟩ := ih q (fun i => f (i + 1)) h2
        have e1 : e.key.isStr z = (p.1 == z) := by rw [hk]; rfl
        have e2 : e.refKey = false := by unfold DictEntry.refKey; rw [hk]
        refine ⟨?_, by rw [List.any_cons, e2, i2]; rfl⟩
        rw [List.find?_cons, List.find?_cons, e1]
        cases hp : (p.1 == z) with
        | true => exact .inl ⟨e, p, _, rfl, rfl, hv⟩
        | false => exact i1
  obtain ⟨k1, k2⟩ := key es.toList kvs f h
  have en : PySem.W.nsIn K d z = (match es.toList.find? (·.key.isStr z) with
      | some e => some (some e.val)
      | none => if es.toList.any (·.refKey) then none else some none) := by
    unfold PySem.W.nsIn
    rw [hl]
    rfl
  rcases k1 with ⟨e, p, t, a1, a2, a3⟩ | ⟨a1, a2⟩
  · refine ⟨some e.val, .int p.2, by rw [en]; simp only [a1], ⟨t, a3⟩, fun G => ?_⟩
    dsimp only
    rw [a2]
    exact .int _
  · refine ⟨none, .non, by rw [en]; simp only [a1, k2]; rfl, rfl, fun G => ?_⟩
    dsimp only
    rw [a2]
    exact .non

/-! ### a list again and again; tuple of a list -/
theorem RpAll.flat {K : PySem.W.Frag} {G : Hp} {xs : List V} {ds : List PyData} (r : RpAll K G xs ds) : ∀ n : Nat, RpAll K G (List.replicate n xs).flatten (List.replicate n ds).flatten
  | 0 => .nil
  | n + 1 => by
    rw [List.replicate_succ, List.replicate_succ, List.flatten_cons, List.flatten_cons]
    exact r.app (RpAll.flat r n)
def rdRep : R2D := fun d1 d2 R => match d1, d2 with
  | .list xs, .int k => -(2 ^ 63 : Int) ≤ k ∧ k < 2 ^ 63 ∧ xs.length * k.toNat ≤ sizeLine ∧ R (.list (List.replicate k.toNat xs).flatten)
  | _, _ => False
theorem ro_rep {K : PySem.W.Frag} : RO K rRep rdRep := by
  intro G H x y d1 d2 Q R e r1 r2 h k
  cases d1 <;> cases d2 <;> first
    | exact False.elim h
    | skip
  rename_i ds i
  obtain ⟨h1, h2, hz, h⟩ := h
  obtain ⟨a, xs, rfl, a1, a2⟩ := r1.lst_of
  refine ⟨a, i, xs, rfl, r2.int_of, e _ _ a1, h1, h2, by rw [a2.len]; exact hz, fun p hp => ?_⟩
  have A := Al.new (o := .lst (List.replicate i.toNat xs).flatten) e hp
  exact k _ _ _ _ h A (.lst upd_same ((a2.flat i.toNat).up A.g))
def dTupOf (u : DTE) : DTE := fun δ R => u δ fun d δ1 => match d with
  | .list ds => R (.tuple ds) δ1
  | .tuple ds => R (.tuple ds) δ1
  | _ => False
theorem re_tupOf {K : PySem.W.Frag} {ta : TE} {ua : DTE} (ha : RE K ta ua) : RE K (tThen ta (kTup K)) (dTupOf ua) := by
  intro c σ G H δ Q R E h k
  refine ha c σ G H δ _ _ E h fun d δ1 v G1 H1 h1 E1 e1 r1 => ?_
  cases d <;> first
    | exact False.elim h1
    | skip
  · obtain ⟨a, xs, rfl, q1, q2⟩ := r1.lst_of
    refine .inl ⟨a, xs, rfl, .inl (.inl (E1.ex _ _ q1)), fun p hp => ?_⟩
    have A := Al.new (o := .tup xs) E1.ex hp
    exact k _ δ1 _ _ _ h1 (E1.al A) (e1.trans A.g) (.tup upd_same (q2.up A.g))
  · obtain ⟨a, xs, rfl, q1, q2⟩ := r1.tup_of
    exact .inr ⟨a, xs, rfl, .inl (.inl (E1.ex _ _ q1)), k _ δ1 _ G1 H1 h1 E1 e1 r1⟩
section
variable {X : Cx} {a e : Expr} {ta te : TE} {ua ue : DTE} {pos p apos : Pos}
theorem de_reprX (hm : X.mg "repr" = none) (hgd : X.A.guards = some []) (hu : X.A.units + 65 < cLine) (ha : DE X a ta ua) (hg : Gl X "repr" := by rfl) (hv : bootBuiltins "repr" = some (.builtin "repr") := by decide +kernel) (hs : starEach [a] X.env = (false, eval a X.env) :: starEach [] X.env := by rfl) (hpl : (backTo pos (starEach [] X.env)).any (·.1) = false := by rfl) :
    DE X (.Call (.Name "repr" p) [a] [] pos) (tCB (rReprX X.K) (tCons ta tNil)) (dReprX ua) := ⟨pe_callB (call_reprX hgd hu) hg hm hv (pa_cons ha.pe pa_nil hs) (by decide) (by decide) hs hpl, re_reprX ha.re⟩
theorem de_kget {x : Str} {d : Addr} {es : Array DictEntry} {n : Nat} {m : Str → PyData} (D : KDict X.K X.w d es n) (hm : KMap0 X.K d m) (hx : X.mg x = some (.ref d)) (he : DE X e te ue) (hg : Gl X x := by rfl) (hd : (x == ("__debug__" : Str)) = false := by decide)
    (mm : M1 X (.Name x p) "get" apos e pos := by exact ⟨rfl, rfl, rfl, rfl⟩) : DE X (.Call (.Attribute (.Name x p) "get" apos) [e] [] pos) (tKG X.K d te) (dKG m ue) := ⟨pe_kget D hx he.pe hg hd mm, re_kget hm he.re⟩
theorem de_tuple1 (hm : X.mg "tuple" = none) (ha : DE X a ta ua) (hg : Gl X "tuple" := by rfl) (na : starEach [a] X.env = (false, eval a X.env) :: starEach [] X.env := by rfl) :
    DE X (.Call (.Name "tuple" p) [a] [] pos) (tThen ta (kTup X.K)) (dTupOf ua) := ⟨pe_tupleOf hg hm ha.pe na, re_tupOf ha.re⟩
end
end TL

set_option Elab.async false
set_option linter.all false
set_option maxRecDepth 100000
set_option maxHeartbeats 4000000
/-! TLy: sets of texts that can be walked: one more text, set(text), set comprehensions of texts, sorted of them, len of them. -/
namespace TL
open PySem PySem.Spec L2

/-- the text of an entry -/
def kT (e : Int × Value) : Str := match e.2 with
  | .str x _ => x
  | _ => Str.empty
def isT (w : World) (e : Int × Value) : Prop := ∃ x t, e = (hashStr w x, Value.str x t)
/-- what stands at a: a set of texts, l its members, each once -/
def SetT (w : World) (h : Heap) (a : Addr) (l : List Str) : Prop :=
  ∃ o es ep t, h.get? a = some o ∧ o.ExactSet ∧ o.data = .set es ep t ∧ (∀ e ∈ es.toList, isT w e) ∧ (es.toList.map kT).Perm l ∧ l.Nodup ∧
    es.size < scanBound ∧ t.fits es.size = true ∧ Ris t.place.toList ∧ (w.params.followText "set-order" = true ∨ t.led = true)
section
variable {P : Program} {w : World} {h h' : Heap} {a : Addr} {l : List Str}
theorem SetT.at (R : SetT w h a l) (k : ∀ o, h.get? a = some o → h'.get? a = some o) : SetT w h' a l := by
  obtain ⟨o, es, ep, t, ho, r⟩ := R
  exact ⟨o, es, ep, t, k o ho, r⟩
theorem isT_el {m : List (Int × Value)} (g : ∀ e ∈ m, isT w e) : ElemsOf (PySem.strKind P w) m := fun e he => by
  obtain ⟨x, t, rfl⟩ := g e he
  exact ⟨⟨x, strKind_is P w x t, rfl⟩, rfl⟩
theorem isT_is {e : Int × Value} (g : isT w e) (x : Str) : (PySem.strKind P w).is x e.2 = true ↔ kT e = x := by
  obtain ⟨y, t, rfl⟩ := g
  constructor
  · intro z
    exact (PySem.strKind P w).inj _ _ _ (strKind_is P w y t) z
  · intro z
    have z : y = x := z
    rw [z]
    exact strKind_is P w x t
theorem isT_mem {m : List (Int × Value)} (g : ∀ e ∈ m, isT w e) (x : Str) : x ∈ m.map kT ↔ ∃ e ∈ m, (PySem.strKind P w).is x e.2 = true := by
  rw [List.mem_map]
  exact ⟨fun ⟨e, he, q⟩ => ⟨e, he, (isT_is (g e he) x).mpr q⟩, fun ⟨e, he, q⟩ => ⟨e, he, (isT_is (g e he) x).mp q⟩⟩
theorem SetT.len (R : SetT w h a l) : ∃ o es ep t, h.get? a = some o ∧ o.data = .set es ep t ∧ es.size = l.length := by
  obtain ⟨o, es, ep, t, ho, _, hd, _, pm, _⟩ := R
  refine ⟨o, es, ep, t, ho, hd, ?_⟩
  rw [← pm.length_eq, List.length_map, Array.length_toList]
theorem SetT.setOf (R : SetT w h a l) : h.SetOf (PySem.strKind P w) a (fun x => decide (x ∈ l)) l.length := by
  obtain ⟨o, es, ep, t, ho, hx, hd, g, pm, _, hb, hf, _⟩ := R
  refine ⟨o, es, ep, t, ho, hx, hd, isT_el g, fun x => ?_, hb, hf, ?_⟩
  · rw [decide_eq_true_iff, ← pm.mem_iff]
    exact isT_mem g x
  · rw [← pm.length_eq, List.length_map, Array.length_toList]
end
section
variable {P : Program} {w : World} {A : Around} {E : Value → Shared → Prop} {s : Shared} {a : Addr} {l : List Str}
/-- the tail of an add: what was laid stays, grown or not -/
theorem addT_tail {g : Bool → Sem Unit} (hgv : ∀ (b : Bool) (z : Shared) (Q' : Unit → Shared → Prop), Q' () z → wpAny (model P w) A (g b) Q' E z)
    {o : Obj} {es es1 : Array (Int × Value)} {ep : Nat} {t t2 : SetTable} (ho : s.heap.get? a = some o) (hx : o.ExactSet) (hd : o.data = .set es ep t)
    (g1 : ∀ e ∈ es1.toList, isT w e) (p1 : (es1.toList.map kT).Perm l) (nd : l.Nodup) (b1 : es1.size < scanBound) (f1 : t2.fits es1.size = true) (r1 : Ris t2.place.toList)
    (l1 : w.params.followText "set-order" = true ∨ t2.led = true) {dm : Bool} {R : Option Bool → Shared → Prop} (k : ∀ h', Heap.SameBut a s.heap h' → SetT w h' a l → R (some true) { s with heap := h' }) :
    wpAny (model P w) A (do
        storeSet a es1 t2
        if (!dm && t2.tooFull) = true then do
            g (relayAll t2 es1 (SetTable.grown es1.size)).2.2
            storeSet a (relayAll t2 es1 (SetTable.grown es1.size)).1 (relayAll t2 es1 (SetTable.grown es1.size)).2.1
            pure (some true)
          else pure (some true)) R E s := by
  have z1 := store_at (es' := es1) (t' := t2) ho hd
  have y1 := Heap.SameBut.update s.heap a (Obj.putSet es1 t2)
  refine wpAny_bind (wpAny_storeSet_of ho hd ?_ (fits_of_scanBound b1))
  by_cases hc : (!dm && t2.tooFull) = true
  · rw [if_pos hc]
    have q1 := relayAll_perm t2 es1 (SetTable.grown es1.size)
    have q2 := relayAll_fits t2 es1 (SetTable.grown es1.size)
    have q3 := relayAll_ris t2 es1 (SetTable.grown es1.size)
    have q4 := relayAll_led t2 es1 (SetTable.grown es1.size)
    generalize relayAll t2 es1 (SetTable.grown es1.size) = Z at q1 q2 q3 q4 ⊢
    obtain ⟨es2, t3, gv⟩ := Z
    dsimp only at q1 q2 q3 q4 ⊢
    have sz : es2.size = es1.size := by
      have z := q1.length_eq
      rw [Array.length_toList, Array.length_toList] at z
      exact z
    have b2 : es2.size < scanBound := by
      rw [sz]
      exact b1
    refine wpAny_bind (hgv _ _ _ (wpAny_bind (wpAny_storeSet_of z1 rfl (wpAny_pure (k _ (y1.trans (Heap.SameBut.update _ a _)) ?_)) (fits_of_scanBound b2))))
    exact ⟨_, es2, _, t3, store_at (es' := es2) (t' := t3) z1 rfl, hx, rfl, fun e he => g1 e (q1.mem_iff.mp he), (q1.map kT).trans p1, nd, b2, q2, q3, l1.imp id fun z => q4.trans z⟩
  · rw [if_neg hc]
    exact wpAny_pure (k _ y1 ⟨_, es1, _, t2, z1, hx, rfl, g1, p1, nd, b1, f1, r1, l1⟩)
/-- .. and its head -/
theorem addT_hashed {x : Str} {tk : Tok} {Q : Bool → Shared → Prop} (R : SetT w s.heap a l) (room : l.length + 1 < scanBound)
    (k : ∀ h', Heap.SameBut a s.heap h' → SetT w h' a (if x ∈ l then l else x :: l) → Q (!decide (x ∈ l)) { s with heap := h' }) :
    wpAny (model P w) A (setAddHashed a (.str x tk) ((PySem.strKind P w).hash x)) Q E s := by
  obtain ⟨o, es, ep, t, ho, hx, hd, g, pm, nd, hb, hf, hr, hl⟩ := id R
  have key : (PySem.strKind P w).is x (.str x tk) = true := strKind_is P w x tk
  have el : ElemsOf (PySem.strKind P w) es.toList := isT_el g
  have sc : (Value.str x tk).scannable = true := rfl
  unfold setAddHashed setAddHashedIn
  refine wpAny_holding (wpAny_bind (wpAny_setState_of ho hd hf ?_))
  dsimp only
  rw [byScan_of sc hb el]
  simp only [↓reduceIte]
  unfold setAddByScan
  refine wpAny_bind (wpAny_bind (wpAny_rule (wpAny_bind (wpAny_setScan_of key ho hd hf el ?_))))
  cases found : List.findIdx? (fun e => (PySem.strKind P w).is x e.2) es.toList with
  | some j =>
    dsimp only
    obtain ⟨hj, pj, _⟩ := List.findIdx?_eq_some_iff_getElem.mp found
    have hm : x ∈ l := pm.mem_iff.mp ((isT_mem (P := P) g x).mpr ⟨es.toList[j], List.getElem_mem hj, pj⟩)
    have q := k s.heap (Heap.SameBut.refl a s.heap) (by rw [if_pos hm]; exact R)
    rw [decide_eq_true hm] at q
    exact wpAny_pure (wpAny_pure q)
  | none =>
    dsimp only
    have hm : x ∉ l := fun z => by
      obtain ⟨e, he, q⟩ := (isT_mem (P := P) g x).mp (pm.mem_iff.mpr z)
      have c := List.findIdx?_eq_none_iff.mp found e he
      rw [q] at c
      cases c
    have way : ∀ (b : Bool) {z : Shared} {Q' : Unit → Shared → Prop}, Q' () z → wpAny (model P w) A (match b with | true => rule "set.scan.the-table-gave-way" | false => pure ()) Q' E z := fun b z Q' q => by
      cases b with
      | true => exact wpAny_rule q
      | false => exact wpAny_pure q
    have q1 := layNew_perm t es ((PySem.strKind P w).hash x) (.str x tk)
    have q2 := layNew_fits t es ((PySem.strKind P w).hash x) (.str x tk)
    have q3 := layNew_ris t es ((PySem.strKind P w).hash x) (.str x tk) hr
    have q4 := layNew_led t es ((PySem.strKind P w).hash x) (.str x tk)
    generalize layNew t es ((PySem.strKind P w).hash x) (.str x tk) = Z at q1 q2 q3 q4 ⊢
    obtain ⟨es1, t1, dm, gave⟩ := Z
    dsimp only at q1 q2 q3 q4 ⊢
    rw [Array.toList_push] at q1
    have pc : es1.toList.Perm (((PySem.strKind P w).hash x, Value.str x tk) :: es.toList) := q1.trans (List.perm_append_singleton _ _)
    have g1 : ∀ e ∈ es1.toList, isT w e := fun e he => (List.mem_cons.mp (pc.mem_iff.mp he)).elim (fun z => ⟨x, tk, z⟩) (g e)
    have p1 : (es1.toList.map kT).Perm (x :: l) := (pc.map kT).trans (.cons x pm)
    have nd1 : (x :: l).Nodup := List.nodup_cons.mpr ⟨hm, nd⟩
    have sz : es1.size = l.length + 1 := by
      have z := p1.length_eq
      rw [List.length_map, Array.length_toList] at z
      exact z
    have b1 : es1.size < scanBound := by
      rw [sz]
      exact room
    have ld : w.params.followText "set-order" = true ∨ t1.led = true := hl.imp id fun z => q4.trans z
    have fin : ∀ h', Heap.SameBut a s.heap h' → SetT w h' a (x :: l) → Q true { s with heap := h' } := fun h' sb r => by
      have q := k h' sb (by rw [if_neg hm]; exact r)
      rw [decide_eq_false hm] at q
      exact q
    refine wpAny_bind (way _ ?_)
    split
    · refine wpAny_bind ?_
      rw [hashByValue_scannable 8 sc]
      refine wpAny_pure (addT_tail (l := x :: l) (fun b z Q' q => way b q) ho hx hd g1 p1 nd1 b1 ?_ ?_ ?_ fun h' sb r => ?_)
      · first
          | (split <;> first | exact q2 | exact SetTable.fits_plain_off q2)
          | exact q2
      · first
          | (split <;> exact q3)
          | exact q3
      · first
          | (split <;> exact ld)
          | exact ld
      · dsimp only
        exact wpAny_pure (fin h' sb r)
    · refine wpAny_bind (wpAny_pure ?_)
      simp only [↓reduceIte]
      refine addT_tail (l := x :: l) (fun b z Q' q => way b q) ho hx hd g1 p1 nd1 b1 q2 q3 ld fun h' sb r => ?_
      dsimp only
      exact wpAny_pure (fin h' sb r)
/-- found.add(x) -/
theorem addT {x : Str} {tk : Tok} {Q : Value → Shared → Prop} (R : SetT w s.heap a l) (room : l.length + 1 < scanBound)
    (k : ∀ h', Heap.SameBut a s.heap h' → SetT w h' a (if x ∈ l then l else x :: l) → Q .none { s with heap := h', toks := s.toks + 1 }) :
    wpAny (model P w) A (call (.builtin "set.add") [.ref a, .str x tk]) Q E s := by
  refine wpAny_call_entry F.slot_set_add (R.setOf (P := P)).typeIs F.entry_set_add ?_ (F.args_set_add_2 _ _)
  unfold Builtin.«set.add» Builtin.Frozenset.oneOther
  simp only [List.isEmpty_nil, bind_assoc]
  unfold Builtin.Frozenset.addrOf setAdd
  refine wpAny_bind (wpAny_pure ?_)
  try dsimp only
  refine wpAny_bind (wpAny_pure ?_)
  try dsimp only
  refine wpAny_bind (wpAny_holding (wpAny_bind ((PySem.strKind P w).pyHash (strKind_is P w x tk) ?_)))
  refine addT_hashed (s := { s with toks := s.toks + 1 }) R room fun h' sb r => ?_
  show wpAny _ _ (ret Value.none) _ _ _
  exact wpAny_pure ⟨_, rfl, k h' sb r⟩
theorem setT_fresh {h : Heap} (ho : h.get? a = some (setE w)) : SetT w h a [] :=
  ⟨_, #[], 0, _, ho, ⟨rfl, rfl, rfl⟩, rfl, (fun e he => by simp at he), (by simp), .nil, (by decide), (by rfl), List.Pairwise.nil, by
    show _ ∨ (!w.params.followText "set-order") = true
    cases w.params.followText "set-order" <;> simp⟩
end
/-! ### over the layer -/
def setTO (w : World) (a : Addr) (l : List Str) : HO := .ext fun h => SetT w h a l
section
variable {X : Cx} {pins : List (Addr × Obj)} {σ : L2.St} {H : Hp} {s : Shared}
theorem setTO_ok {P : Program} {w : World} {h : Heap} {a : Addr} {l : List Str} (R : SetT w h a l) : ObjOk P w H h a (setTO w a l) := by
  have ⟨o, _, _, _, ho, _⟩ := R
  exact ⟨R, ⟨o, ho⟩, fun h1 h2 p k => SetT.at p k⟩
theorem setTO_get {a : Addr} {l : List Str} (I : Inv X pins σ H s) (ha : H a = some (setTO X.w a l)) : SetT X.w s.heap a l := (I.hok a _ ha).1
/-- one more of whatever kind is put into the set at D -/
abbrev AddW := Addr → V → Hp → (Hp → Prop) → Prop
def AddR (P : Program) (w : World) (r : AddW) : Prop := ∀ (X : Cx), X.prog = P → X.w = w → ∀ (pins : List (Addr × Obj)) (σ : L2.St) (H : Hp) (s : Shared) (D : Addr) (y : V) (u : Value) (N : Hp → Prop) (Q E : Value → Shared → Prop), Inv X pins σ H s → RelV y u → r D y H N →
  (∀ v s' H', Inv X pins σ H' s' → N H' → Q v s') → wpAny (model X.prog X.w) X.A (call (.builtin "set.add") [.ref D, u]) Q E s
def rAddTx (w : World) : AddW := fun D y H N => ∃ z l, y = .str z ∧ H D = some (setTO w D l) ∧ l.length + 1 < scanBound ∧ N (upd H D (setTO w D (if z ∈ l then l else z :: l)))
theorem addR_text {P : Program} {w : World} : AddR P w (rAddTx w) := by
  intro X hp hw pins σ H s D y u N Q E I ry h k
  subst hp hw
  obtain ⟨z, l, rfl, hD, hl, hn⟩ := h
  obtain ⟨t, rfl⟩ := ry
  refine addT (setTO_get I hD) hl fun h' sb new => ?_
  have there : ∃ v, h'.get? D = some v := by
    have ⟨o, _, _, _, ho, _⟩ := new
    exact ⟨o, ho⟩
  exact k _ _ _ (I.write (e := D) (t' := s.toks + 1) (by rw [hD]; trivial) (.inl rfl) (fun b v hb hv => (sb.2 b hb).trans hv) there (setTO_ok new)) hn
/-- {elt for target in iter if ..}: D the new set, o what stands there at first -/
def tScG (r : AddW) (o0 : Addr → HO) (wi : L2.TI) (g : TG) (tt : TT) (te : TE) (vs : List Nat) : TE := fun σ H Q => wi σ H fun J H1 => ∀ D, H1 D = none → ∃ W : Nat → Nat → Hp → Prop, (∃ m, W 0 m (upd H1 D (o0 D))) ∧ ∀ i m H, W i m H →
  (J.stop i H ∧ Q (.ref D) H) ∨ (J.go i H ∧ ∃ Nx : Hp → Prop, (∀ H', Nx H' → ∃ m', m' < m ∧ W (i + 1) m' H') ∧ ∀ x H', J.yld i H x H' → g x (wipe σ vs) H' fun σ2 H2 => wipe σ2 vs = wipe σ vs ∧ tt σ2 H2 fun b H3 =>
    if b = true then te σ2 H3 fun y H4 => r D y H4 Nx else Nx H3)
/-- what is laid first -/
def FreshR (P : Program) (w : World) (o0 : Addr → HO) : Prop := ∀ (H : Hp) (h : Heap) (a : Addr), h.get? a = some (setE w) → ObjOk P w H h a (o0 a)
theorem fresh_text {P : Program} {w : World} : FreshR P w fun a => setTO w a [] := fun H h a e => setTO_ok (setT_fresh e)
theorem pe_scG {r : AddW} {o0 : Addr → HO} {elt tg iter : Expr} {ifs : List Expr} {scope : Scope} {own : List (Str × Nat)} {pos : Pos} {wi : L2.TI} {g : TG} {tt : TT} {te : TE} (ar : AddR X.prog X.w r) (fr : FreshR X.prog X.w o0) (hc : X.calm = true) (hN : X.N.Nodup) (hi : PI X tg iter wi)
    (ok : BlkOk X.N X.env.scope scope own) (hg : ∀ (s : Shared) (H : Hp) (C : Addr) (cl : List (Str × Addr)) (fp : List Addr), PG (X.blk s H scope (compEnvC scope cl C X.env) fp) tg g)
    (ht : ∀ (s : Shared) (H : Hp) (C : Addr) (cl : List (Str × Addr)) (fp : List Addr), PTs (X.blk s H scope (compEnvC scope cl C X.env) fp) ifs tt)
    (he : ∀ (s : Shared) (H : Hp) (C : Addr) (cl : List (Str × Addr)) (fp : List Addr), PE (X.blk s H scope (compEnvC scope cl C X.env) fp) elt te) (hs : ∀ x, foldedSetIterable iter X.env x = pure x := by intro _; rfl) :
    PE X (.SetComp elt [⟨tg, iter, ifs, 0⟩] scope pos) (tScG r o0 wi g tt te (own.map (·.2))) := by
  refine ⟨fun pins s σ H Q I h => ?_⟩
  rw [PpSet.eval_SetComp]
  have cells : ∀ y ∈ scope.names, y.2 = .free → ∃ c, X.env.cells.lookup y.1 = some c := fun y hy e => (ok.free y hy e).elim (fun k => I.ok.has _ (.inl k)) fun k => I.ok.has _ (.inr k)
  refine wpAny_comprehension_free rfl hs (closure_ok cells) ok.kind (fun y hy e => by rw [ok.uniq y hy, e]) (thn (hi.run pins s σ H _ I h) fun xv s1 hx => thn hx fun itv s2 h2 => ?_)
  obtain ⟨it, fp, tn, J, H2, rfl, I2, T, st2, f2, q⟩ := h2
  refine PpSet.newSet_ok (newEnv_comp ?_)
  have hDn : H2 s2.heap.objs.size = none := I2.hok.fresh (Nat.le_refl _)
  obtain ⟨W, ⟨m0, w0⟩, turn⟩ := q s2.heap.objs.size hDn
  generalize hD : s2.heap.objs.size = D at *
  generalize hs3 : ({ s2 with heap := s2.heap.push (setE X.w) } : Shared) = s3
  have h3 : s3.heap = s2.heap.push (setE X.w) := by rw [← hs3]
  have e3 : s3.heap.get? D = some (setE X.w) := by
    rw [h3, ← hD]
    exact Heap.get?_push_size _ rfl
  have I3 : Inv X pins σ (upd H2 D (o0 D)) s3 := by
    rw [← hs3]
    refine I2.laid (t' := s2.toks) (fun b o e => Heap.get?_push_of_some _ e) (Nat.le_of_eq hD) (fr _ _ _ ?_)
    rw [← hD]
    exact Heap.get?_push_size _ rfl
  have lo : ∀ b ∈ fp, b < s2.heap.objs.size := fun b hb => by
    obtain ⟨o, e, _⟩ := T.obj _ _ st2 b hb
    exact Heap.lt_size e
  have f3 : ∀ b ∈ fp, FpOk X pins (upd H2 D (o0 D)) b ∧ b < s3.heap.objs.size := fun b hb => by
    have hlt := lo b hb
    constructor
    · refine ⟨?_, (f2 b hb).2⟩
      rw [upd_ne (by rw [← hD]; exact Nat.ne_of_lt hlt)]
      exact (f2 b hb).1
    · rw [h3, Heap.size_push]
      exact Nat.lt_succ_of_lt hlt
  have st3 : tn 0 s3.heap := T.keep _ _ _ st2 fun b _ o e => by
    rw [h3]
    exact Heap.get?_push_of_some _ e
  have I4 := block_start I3 ok hN f3
  have pg := hg s3 (upd H2 D (o0 D)) s3.heap.objs.size (cellsFrom (s3.heap.objs.size + 1) scope.names (cloFrom X.env.cells scope.names [])) fp
  have pt := ht s3 (upd H2 D (o0 D)) s3.heap.objs.size (cellsFrom (s3.heap.objs.size + 1) scope.names (cloFrom X.env.cells scope.names [])) fp
  have pe := he s3 (upd H2 D (o0 D)) s3.heap.objs.size (cellsFrom (s3.heap.objs.size + 1) scope.names (cloFrom X.env.cells scope.names [])) fp
  show codeAny _ _ (.compStart (.SetComp elt [⟨tg, iter, ifs, 0⟩] scope pos) 0 (.ref it) (.ref D) (compEnvC scope (cellsFrom (s3.heap.objs.size + 1) scope.names (cloFrom X.env.cells scope.names [])) s3.heap.objs.size X.env)) _ _
  have none_fp : ∀ b ∈ fp, (upd H2 D (o0 D)) b = none := fun b hb => (f3 b hb).1.1
  generalize hce : compEnvC scope (cellsFrom (s3.heap.objs.size + 1) scope.names (cloFrom X.env.cells scope.names [])) s3.heap.objs.size X.env = ce at I4 pg pt pe ⊢
  have cL : ce.locals = s3.heap.objs.size := by
    subst hce
    rfl
  generalize hH3 : upd H2 D (o0 D) = H3 at I3 I4 pg pt pe w0 none_fp f3
  generalize hs4 : ({ s3 with heap := pushCells (s3.heap.push { cls := .type "dict", data := .dict #[] }) scope.names } : Shared) = s4 at I4 ⊢
  have st4 : tn 0 s4.heap := T.keep _ _ _ st3 fun b _ o e => by
    rw [← hs4]
    exact pushCells_keeps _ _ _ _ (Heap.get?_push_of_some _ e)
  have own_fp : ∀ {σ' : L2.St} {H' : Hp} {z : Shared}, Inv (X.blk s3 H3 scope ce fp) [] σ' H' z → (∀ b ∈ fp, H' b = none) → ∀ b ∈ fp, FpOk (X.blk s3 H3 scope ce fp) [] H' b := fun {σ' H' z} I' hn b hb =>
    ⟨hn b hb, (I'.ok.exf b hb).1, I'.ok.exfs b hb, .inl hb, fun x c e => (I'.ok.exf b hb).2 x c e, fun p hp => absurd (show p ∈ ([] : List (Addr × Obj)) ++ [] from hp) (by simp)⟩
  refine PpSet.codeAny_compStart_set ?loop (T.self X.A 0 _ _ _ st4 ?loop)
  case loop =>
    refine PpSet.compLoopS_any (fun n z => ∃ i H', Inv (X.blk s3 H3 scope ce fp) [] (wipe σ (own.map (·.2))) H' z ∧ tn i z.heap ∧ (∀ b ∈ fp, H' b = none) ∧ W i n H') ?_ m0 ⟨0, H3, I4, st4, none_fp, w0⟩
    rintro n s5 ⟨i, H5, I5, st5, n5, w5⟩
    rcases turn i n H5 w5 with ⟨stop, qq⟩ | ⟨go, Nx, hNx, step⟩
    · refine thnF (T.done (X.blk s3 H3 scope ce fp) rfl rfl rfl hc i [] s5 _ H5 (fun _ _ => False) I5 (own_fp I5 n5) st5 stop) fun r s6 ⟨hr, I6⟩ => ?_
      subst hr
      have I7 : Inv X pins σ H5 s6 := I3.call' (ch := fp) I6.os I6.base I6.hok I6.bare fun b hb => ⟨(f3 b hb).1.2.2.2.1, (f3 b hb).1.2.1, (f3 b hb).1.2.2.2.2.1, (f3 b hb).1.2.2.2.2.2⟩
      have nC : H5 s3.heap.objs.size = none := by
        have z : H5 ce.locals = none := I6.free
        rwa [cL] at z
      obtain ⟨m, hn, _⟩ := I6.loc
      have hn : s6.heap.Ns ce.locals m := hn
      rw [cL] at hn
      refine ⟨m, hn, fun h'' sb => ?_⟩
      obtain ⟨a0, a1, a2, a3, a4, a5⟩ := I3.fpOk (Nat.le_refl _) nC
      exact ⟨.ref D, H5, I7.turned (t' := s6.toks) (fun b o hb e => (sb.2 b hb).trans e) a0 a1 a3 a4 a5, rfl, qq⟩
    · refine thnF (T.item (X.blk s3 H3 scope ce fp) rfl rfl rfl hc i [] s5 _ H5 (fun _ _ => False) I5 (own_fp I5 n5) st5 go) fun o6 s6 ⟨u, hr, h6⟩ => ?_
      subst hr
      refine thnF h6 fun _ s7 ⟨x, H7, I7, r7, y7, st7, n7⟩ => ?_
      have I8 := I7.pinned (own_fp I7 n7) (T.obj _ _ st7)
      refine thnF (pg.run _ s7 _ H7 x u _ I8 r7 (step x H7 y7)) fun _ s8 ⟨σ8, H8, I9, hw8, q8⟩ => ?_
      refine thnF (pt.run _ s8 σ8 H8 _ I9 q8) fun b s9 ⟨H9, I10, q9⟩ => ?_
      have fin : ∀ {z : Shared} {H' : Hp}, Inv (X.blk s3 H3 scope ce fp) ([] ++ pinsAt fp s7.heap) σ8 H' z → Nx H' →
          ∃ m, m < n ∧ ∃ i H', Inv (X.blk s3 H3 scope ce fp) [] (wipe σ (own.map (·.2))) H' z ∧ tn i z.heap ∧ (∀ b ∈ fp, H' b = none) ∧ W i m H' := fun {z H'} I' nx => by
        obtain ⟨m', hm, w'⟩ := hNx H' nx
        have pin : ∀ b ∈ fp, ∀ o, s7.heap.get? b = some o → z.heap.get? b = some o ∧ H' b = none := fun b hb o e =>
          let y := I'.pin (b, o) (List.mem_append_right _ (List.mem_append_right _ (mem_pinsAt hb e)))
          ⟨y.1, y.2.1⟩
        have hl : (wipe σ (own.map (·.2))).length = σ8.length := by rw [← hw8, wipe_length]
        refine ⟨m', hm, i + 1, H', (I'.unpinned (pins := [])).weak hl (fun j v e => ?_), T.keep _ _ _ st7 fun b hb o e => (pin b hb o e).1, fun b hb => ?_, w'⟩
        · rw [← hw8] at e
          exact (wipe_some e).1
        · obtain ⟨o, e, _⟩ := T.obj _ _ st7 b hb
          exact (pin b hb o e).2
      cases b with
      | false =>
        simp only [Bool.false_eq_true, if_false] at q9 ⊢
        exact fin I10 q9
      | true =>
        simp only [if_true] at q9 ⊢
        refine thnF (pe.run _ s9 σ8 H9 _ I10 q9) fun z s10 ⟨yv, H10, I11, r11, nx⟩ => ?_
        exact ar (X.blk s3 H3 scope ce fp) rfl rfl _ _ _ _ D yv z Nx _ _ I11 r11 nx fun _ s11 H11 I12 n12 => fin I12 n12
/-- sorted(found), fewer than 64 texts -/
def rSortT (w : World) : List V → Hp → VK → Prop := fun vs H Q => ∃ (a : Addr) (l : List Str), vs = [V.ref a] ∧ H a = some (setTO w a l) ∧ l.length < 64 ∧
  ∀ (ys : List Str) (p : Addr), ys.Perm l → PyProof.Rows.sortedS ys = true → H p = none → Q (.ref p) (upd H p (.lst (ys.map V.str)))
theorem cr_sortT (hc : X.calm = true) : CallR X (.builtin "sorted") (rSortT X.w) := by
  intro pins s σ H vs us Q I r h
  obtain ⟨a, l, rfl, ha, h64, q⟩ := h
  rw [Vals.ref1 r]
  obtain ⟨o, es, ep, t, ho, hx, hd, g, pm, nd, hb, hf, hr, hl⟩ := setTO_get I ha
  refine Calls.call_function_entry PyProof.Rows.kind_sorted PyProof.Rows.plain_sorted PyProof.Rows.entry_sorted (PyProof.Rows.args_sorted1 _) ?_
  unfold Builtin.«sorted»
  refine wpAny_bind (m := checkCount "sorted" 1 1 _) (wpAny_pure ?_)
  refine wpAny_bind (collect_set (A := X.A.in1) (I.ok.hd hc) ⟨o, ho, hx.1, hd⟩ hf hb hr hl fun s1 out k1 hz g1 o1 po => ?_)
  have el : ∀ v ∈ out, ∃ x t, v = Value.str x t := fun v hv => by
    obtain ⟨e, he, rfl⟩ := List.mem_map.mp (po.mem_iff.mp hv)
    obtain ⟨x, t, rfl⟩ := g e he
    exact ⟨x, t, rfl⟩
  have hS := PyProof.Rows.strsAre_map out el
  have pl : (out.map PyProof.Rows.strOf).Perm l := by
    have z := po.map PyProof.Rows.strOf
    rw [List.map_map] at z
    refine z.trans (.trans (.of_eq (List.map_congr_left fun e he => ?_)) pm)
    obtain ⟨x, t, rfl⟩ := g e he
    rfl
  have ol : out.length = l.length := by
    rw [← pl.length_eq, List.length_map]
  have I1 : Inv X pins σ H s1 := I.call' (ch := []) o1 (Un.kept k1) (I.hok.kept k1) (by rw [g1]; exact I.bare) (fun _ z => nomatch z)
  refine wpAny_bind (wpAny_newList ?_ (by rw [ol, sizeLine_eq]; omega))
  have hL : (s1.heap.push (PyProof.Rows.seqObj "list" out.toArray 0)).get? s1.heap.objs.size = some (PyProof.Rows.seqObj "list" out.toArray 0) := Heap.get?_push_size _ rfl
  refine wpAny_bind (wpAny_holding (wpAny_call_entry PyProof.Rows.slot_list_sort ⟨_, hL, rfl⟩ PyProof.Rows.entry_list_sort
    (PyProof.Rows.list_sort_treeK PyProof.Rows.strKind_oneLt hL hS.keysOf (fun v₁ v₂ rest e => PyProof.Rows.keyKind_strs (by rw [← e]; exact hS)) (by rw [ol]; exact h64) fun st' hp hs => ⟨_, rfl, ?_⟩) (PyProof.Rows.args_list_sort _)))
  obtain ⟨ys, y1, y2, y3⟩ := PyProof.Rows.sorted_out_str hS hp hs
  obtain ⟨e', he'⟩ := PyProof.Rows.sortedHeap_at (vs := out) (out := (PyProof.Rows.arrOf st').map (·.2)) hL
  have py := y2.trans pl
  have hlen : (ys.map V.str).length ≤ sizeLine := by
    rw [List.length_map, py.length_eq]
    exact Nat.le_trans (Nat.le_of_lt h64) (by decide)
  refine wpAny_pure ⟨_, rfl, .ref s1.heap.objs.size, upd H s1.heap.objs.size (.lst (ys.map V.str)), I1.laid (t' := s1.toks) (fun b u e => ?_) (Nat.le_refl _)
    (show ObjOk X.prog X.w _ _ _ (.lst (ys.map V.str)) from ⟨hlen, ((PyProof.Rows.arrOf st').map (·.2)).toList, e', vals_of_strs y1, by rw [Array.toArray_toList]; exact he'⟩), rfl, q ys _ py y3 (I1.hok.fresh (Nat.le_refl _))⟩
  have hb' : b < s1.heap.objs.size := Heap.lt_size e
  rw [PyProof.Rows.sortedHeap_old (Nat.ne_of_lt hb') (by rw [PyProof.Rows.size_push']; exact Nat.lt_succ_of_lt hb')]
  exact Heap.get?_push_of_some _ e
end
end TL

set_option Elab.async false
set_option linter.all false
set_option maxRecDepth 100000
set_option maxHeartbeats 4000000
/-! TLz: set(text), len of it; sorted set comprehensions of texts by data; stars in tuples; x in a tuple; == with a written tuple; zip of lists. -/
namespace TL
open PySem PySem.Spec PyProof.Rows L2
/-! ### set(x), x a text -/
section
variable {P : Program} {w : World} {A : Around} {E : Value → Shared → Prop} {s : Shared}
/-- the signs of a text, each once -/
def Signs (x : Str) (l : List Str) : Prop := ∀ z, z ∈ l ↔ ∃ c ∈ x.cps.toList, z = ⟨#[c]⟩
theorem fill_text {I : Addr} {fp wr : List Addr} {n : Nat} {Pv : Nat → Value → Prop} {St : Nat → Heap → Prop} {R : Result → Shared → Prop} (W : Walks P w A.in1 I fp wr n Pv St) (S : Addr) (hSf : S ∉ fp)
    (x : Str) (hn : n = x.cps.size) (hb : x.cps.size + 1 < scanBound) (hv : ∀ i v, Pv i v → ∃ c u, x.cps[i]? = some c ∧ v = Value.str ⟨#[c]⟩ u) :
    ∀ (k i : Nat) (s : Shared) (l : List Str), n - i = k → i ≤ n → St i s.heap → l.length ≤ i → SetT w s.heap S l → (∀ z, z ∈ l ↔ ∃ c ∈ x.cps.toList.take i, z = ⟨#[c]⟩) →
      (∀ s' l, Moved (S :: wr) (fun a b => b = a) s s' → SetT w s'.heap S l → Signs x l → l.length ≤ n → R (.ok (.ret .none)) s') →
      codeAny (model P w) A (.builtin "set.update.loop" ⟨[.ref S, .ref I], []⟩) R s := by
  have WS := W.toS
  have hSw : S ∉ wr := fun h => hSf (W.sub _ h)
  intro k
  induction k with
  | zero =>
    intro i s l hk hi hst hl hS hm hR
    have e : i = n := by omega
    subst e
    refine codeAny_builtin F.entry_set_update_loop ?_
    rw [Around.under_plainId F.plain_set_update_loop _]
    show wpAny _ A.in1 (pyNext (.ref I) >>= _) _ _ s
    refine wpAny_bind (WS.done s _ _ hst fun s' mv => ?_)
    show wpAny _ A.in1 (ret Value.none) _ _ s'
    refine wpAny_pure (hR s' l (mv.mono fun b hb => List.mem_cons_of_mem _ hb) (hS.at fun o e => mv.heap S o hSw e) (fun z => ?_) hl)
    rw [hm z, List.take_of_length_le (by rw [Array.length_toList, hn]; exact Nat.le_refl _)]
  | succ k ih =>
    intro i s l hk hi hst hl hS hm hR
    have lt : i < n := by omega
    refine codeAny_builtin F.entry_set_update_loop ?_
    rw [Around.under_plainId F.plain_set_update_loop _]
    show wpAny _ A.in1 (pyNext (.ref I) >>= _) _ _ s
    refine wpAny_bind (WS.item i s _ _ lt hst fun v s' hP hst' mv => ?_)
    obtain ⟨c, u, hc, rfl⟩ := hv i v hP
    have hS' : SetT w s'.heap S l := hS.at fun o e => mv.heap S o hSw e
    show wpAny _ A.in1 (holding [Value.str ⟨#[c]⟩ u] (setAdd S (.str ⟨#[c]⟩ u)) >>= _) _ _ s'
    refine wpAny_bind (wpAny_holding ?_)
    unfold setAdd
    refine wpAny_holding (wpAny_bind ((PySem.strKind P w).pyHash (strKind_is P w ⟨#[c]⟩ u) ?_))
    refine addT_hashed (s := { s' with toks := s'.toks + 1 }) hS' (by omega) fun h' sb S2 => ?_
    have len2 : (if (⟨#[c]⟩ : Str) ∈ l then l else ⟨#[c]⟩ :: l).length ≤ i + 1 := by
      split
      · omega
      · rw [List.length_cons]
        omega
    have mem2 : ∀ z, z ∈ (if (⟨#[c]⟩ : Str) ∈ l then l else ⟨#[c]⟩ :: l) ↔ ∃ d ∈ x.cps.toList.take (i + 1), z = ⟨#[d]⟩ := fun z => by
      have e : x.cps.toList.take (i + 1) = x.cps.toList.take i ++ [c] := by
        rw [List.take_add_one, Array.getElem?_toList, hc]
        rfl
      rw [e]
      have base : (∃ d ∈ x.cps.toList.take i ++ [c], z = ⟨#[d]⟩) ↔ z ∈ l ∨ z = ⟨#[c]⟩ := by
        rw [hm z]
        constructor
        · rintro ⟨d, hd, rfl⟩
          rcases List.mem_append.mp hd with hd | hd
          · exact .inl ⟨d, hd, rfl⟩
          · rw [List.mem_singleton.mp hd]
            exact .inr rfl
        · rintro (⟨d, hd, rfl⟩ | rfl)
          · exact ⟨d, List.mem_append_left _ hd, rfl⟩
          · exact ⟨c, List.mem_append_right _ (List.mem_singleton.mpr rfl), rfl⟩
      rw [base]
      split
      · rename_i hin
        exact ⟨.inl, fun z => z.elim id fun e => e ▸ hin⟩
      · rw [List.mem_cons]
        exact Or.comm
    refine wpAny_pure ⟨plainId_quiet F.plain_set_update_loop _, ih (i + 1) _ _ (by omega) lt (WS.frame _ s' _ _ hst' (Nat.le_succ _) fun b hb o e => ?_) len2 S2 mem2 fun s'' l2 m2 S3 g3 n3 => ?_⟩
    · rw [sb.2 b (fun h : b = S => hSf (by rw [← h]; exact hb))]
      exact e
    · refine hR s'' l2 (Moved.trans WS.gtrans ((mv.mono fun b hb => List.mem_cons_of_mem _ hb).then_heap (Nat.le_succ _) fun b o hb e => ?_) m2) S3 g3 n3
      rw [sb.2 b (fun h : b = S => hb (by rw [h]; exact List.mem_cons_self))]
      exact e
end
section
variable {P : Program} {w : World} {A : Around} {E : Value → Shared → Prop} {s : Shared}
set_option maxHeartbeats 4000000 in
theorem init_text {x : Str} {u : Tok} (calm : A.handled = none) (hb : x.cps.size + 1 < scanBound) :
    codeAny (model P w) A (.call (.builtin "set.__init__") ⟨[.ref s.heap.objs.size, .str x u], []⟩)
      (wants (fun r s2 => r = .none ∧ ∃ (g : Heap) (k : Nat) (l : List Str), s2 = { s with heap := g, toks := k } ∧ SetT w g s.heap.objs.size l ∧ Signs x l ∧ l.length ≤ x.cps.size ∧ ∀ b o, s.heap.get? b = some o → g.get? b = some o) E)
      { s with heap := s.heap.push (setE w) } := by
  have e0 : (s.heap.push (setE w)).get? s.heap.objs.size = some (setE w) := Heap.get?_push_size _ rfl
  have ty : Shared.TypeIs { s with heap := s.heap.push (setE w) } (.ref s.heap.objs.size) "set" := ⟨_, e0, rfl⟩
  refine codeAny_call_builtin F.called_set.init.plain F.entry_set_init (check_set_init_1 ty ?_)
  have f1 := F.sub_str_set
  have f2 := F.sub_str_frozenset
  have f3 : (Value.type "str" == Value.type "dict") = false := by decide
  unfold Builtin.«set.__init__» noKeywords Builtin.Frozenset.updateFrom
  generalize hp : pyIter = PI
  wp_walk
  subst hp
  refine wpAny_pyIter_str fun o St hW st0 => ?_
  refine wpAny_bind (wpAny_runValue ?_)
  have c3 : A.in1.in1.handled = none := by simp [calm]
  have n1 : (s.heap.push (setE w)).objs.size = s.heap.objs.size + 1 := Heap.size_push ..
  have n3 : s.heap.objs.size ∉ [(s.heap.push (setE w)).objs.size] := by
    rw [n1]
    intro z
    exact absurd (List.mem_singleton.mp z) (Nat.ne_of_lt (Nat.lt_succ_self _))
  refine fill_text (hW _ c3) s.heap.objs.size n3 x rfl hb (fun i v h => h) (x.cps.size - 0) 0 _ [] (by omega) (Nat.zero_le _) st0 (Nat.le_refl _) (setT_fresh (Heap.get?_push_of_some _ e0)) (by simp) ?_
  intro s3 l mv S g3 hl
  obtain ⟨g, gs, dr, tk, oo⟩ := s3
  obtain rfl : gs = s.gens := mv.gens
  obtain rfl : dr = s.drawn := mv.drawn
  obtain rfl : oo = s.os := mv.os
  show wpAny _ _ _ _ _ _
  refine wpAny_pure ?_
  show wpAny _ _ (ret Value.none) _ _ _
  refine wpAny_pure ⟨rfl, g, tk, l, rfl, S, g3, hl, fun b ob e => ?_⟩
  have b0 : b < s.heap.objs.size := Heap.lt_size e
  refine mv.heap b ob (fun z => ?_) (Heap.get?_push_of_some _ (Heap.get?_push_of_some _ e))
  rcases List.mem_cons.mp z with z | z
  · exact absurd z (Nat.ne_of_lt b0)
  · have z := List.mem_singleton.mp z
    rw [n1] at z
    exact absurd z (Nat.ne_of_lt (Nat.lt_succ_of_lt b0))
/-- set(x) -/
theorem set_of_text {x : Str} {u : Tok} {Q : Value → Shared → Prop} (calm : A.handled = none) (hb : x.cps.size + 1 < scanBound)
    (k : ∀ (g : Heap) (t : Nat) (l : List Str), SetT w g s.heap.objs.size l → Signs x l → l.length ≤ x.cps.size → (∀ b o, s.heap.get? b = some o → g.get? b = some o) → Q (.ref s.heap.objs.size) { s with heap := g, toks := t }) :
    wpAny (model P w) A (call (.type "set") [.str x u]) Q E s := by
  obtain ⟨m1, m2, m3⟩ := F.called_set.mro; have m4 := F.called_set.made; have m5 := F.called_set.sub
  refine wpAny_call (codeAny_of_tree ?tree); case tree =>
  show wpAny _ _ (callAny (.type "set") ⟨[.str x u], []⟩) _ _ _
  refine wpAny_pure ⟨Code.quiet_builtin _ (by decide +kernel), codeAny_builtin F.entry_type_call ?body⟩; case body =>
  rw [Around.under_plain (weight_type_call_type "set" [.str x u] []) rfl]; have m6 := F.called_set.notType; have m7 := F.called_set.canCreate; have m8 := F.typeCall_set_1 (.str x u)
  repeat (any_goals first | assumption | wp_step)
  refine codeAny_mono (code_set_led1 (.str x u) (E := E) (Q₁ := fun v s1 => v = .ref s.heap.objs.size ∧ s1 = { s with heap := s.heap.push (setE w) }) ⟨rfl, rfl⟩) ?after
  case after =>
    rintro (e | f) s1 hr
    · exact hr
    · cases f with
      | ret v =>
        obtain ⟨rfl, rfl⟩ := hr
        have e0 : (s.heap.push (setE w)).get? s.heap.objs.size = some (setE w) := Heap.get?_push_size _ rfl
        have ty : Shared.TypeIs { s with heap := s.heap.push (setE w) } (.ref s.heap.objs.size) "set" := ⟨_, e0, rfl⟩
        have i1 := F.called_set.init.lookup; have i2 := F.called_set.init.bind (.ref s.heap.objs.size)
        repeat (any_goals first | assumption | wp_step)
        refine codeAny_mono (init_text (E := E) (by first | exact calm | simp [calm]) hb) ?done
        case done =>
          rintro (e | f) s2 hr2
          · exact hr2
          · cases f with
            | ret r =>
              obtain ⟨rfl, g, t, l, rfl, S, g3, hl, kept⟩ := hr2
              repeat (any_goals first | assumption | wp_step)
              exact k g t l S g3 hl kept
            | _ => exact hr2.elim
      | _ => exact hr.elim
end
section
variable {X : Cx}
def rSetS (w : World) : List V → Hp → VK → Prop := fun xs H Q => ∃ x : Str, xs = [V.str x] ∧ x.cps.size < 4000 ∧ ∀ (p : Addr) (l : List Str), H p = none → Signs x l → l.Nodup → Q (.ref p) (upd H p (setTO w p l))
theorem cr_setS (hc : X.calm = true) : CallR X (.type "set") (rSetS X.w) := by
  intro pins s σ H xs us Q I r h
  obtain ⟨x, rfl, hl, q⟩ := h
  obtain ⟨u, rfl, t, rfl⟩ := L2.vals1 r
  refine set_of_text (I.ok.hd hc) (by unfold scanBound; omega) fun g k l S g3 _ kept => ?_
  have free : H s.heap.objs.size = none := I.hok.fresh (Nat.le_refl _)
  have nd : l.Nodup := by
    obtain ⟨_, _, _, _, _, _, _, _, _, nd, _⟩ := S
    exact nd
  exact ⟨.ref _, _, I.laid (t' := k) kept (Nat.le_refl _) (setTO_ok S), rfl, q _ l free g3 nd⟩
/-- len(found) -/
def rLenT (w : World) : List V → Hp → VK → Prop := fun xs H Q => ∃ (a : Addr) (l : List Str), xs = [V.ref a] ∧ H a = some (setTO w a l) ∧ Q (.int (l.length : Nat)) H
theorem cr_lenT : CallR X (.builtin "len") (rLenT X.w) := by
  intro pins s σ H xs us Q I r h
  obtain ⟨a, l, rfl, ha, q⟩ := h
  rw [Vals.ref1 r]
  obtain ⟨o, es, ep, t, ho, hx, hd, g, pm, nd, hb, hf, hr, hl⟩ := setTO_get I ha
  have sz : es.size = l.length := by rw [← pm.length_eq, List.length_map, Array.length_toList]
  refine call_len_set ho hx hd hf ?_ ?_
  · unfold scanBound at hb
    omega
  · rw [sz]
    exact ⟨.int _, H, (I.tok _).tok _, ⟨_, rfl⟩, q⟩
end
/-! ### by data -/
section
variable {K : PySem.W.Frag} {ta tb te : TE} {ua ub ue : DTE}
/-- len(set(x)) -/
def dLenSet (u : DTE) : DTE := fun δ R => u δ fun d δ1 => match d with
  | .str x => x.cps.size < 4000 ∧ ∀ l, Signs x l → l.Nodup → R (.int (l.length : Nat)) δ1
  | _ => False
theorem re_lenSet {w : World} (ha : RE K ta ua) : RE K (tCB (rLenT w) (tCons (tCB (rSetS w) (tCons ta tNil)) tNil)) (dLenSet ua) := by
  intro c σ G H δ Q R E h k
  refine ha c σ G H δ _ _ E h fun d δ1 v G1 H1 h1 E1 e1 r => ?_
  cases d <;> first
    | exact False.elim h1
    | skip
  rename_i x
  obtain ⟨hl, h1⟩ := h1
  have e := r.str_of
  subst e
  refine ⟨x, rfl, hl, fun p l hp g nd => ?_⟩
  have A1 : Al G1 H1 G1 (upd H1 p (setTO w p l)) := Al.tmp E1.ex hp
  exact ⟨p, l, rfl, upd_same, k _ δ1 _ _ _ (h1 l g nd) (E1.al A1) (e1.trans A1.g) (.int _)⟩
/-- the turns of a set comprehension -/
def scW (vs : List Nat) (g : DTG) (t : DTT) (u : DTE) (R : List Str → List Sl → Prop) : List PyData → List Str → List Sl → Prop
  | [], acc, δ => R acc δ
  | d :: r, acc, δ => g d (wipeS δ vs) fun δ1 => t δ1 fun b δ2 => if b = true then u δ2 fun y δ3 => (match y with
    | .str z => acc.length < 4000 ∧ scW vs g t u R r (acc ++ [z]) (wipeS δ3 vs)
    | _ => False) else scW vs g t u R r acc (wipeS δ2 vs)
/-- sorted({..}), of texts -/
def dSortSc (w : DTI) (g : DTG) (t : DTT) (u : DTE) (vs : List Nat) : DTE := fun δ R => w δ fun ds δ1 => scW vs g t u (fun acc δ' => (∀ l : List Str, l.Nodup → (∀ z, z ∈ l ↔ z ∈ acc) → l.length < 64) ∧
  ∀ ms : List Str, PyProof.Rows.sortedS ms = true → ms.Nodup → (∀ z, z ∈ ms ↔ z ∈ acc) → R (.list (ms.map PyData.str)) δ') ds [] δ1
theorem strs_rpD {G : Hp} : ∀ ms : List Str, RpAll K G (ms.map V.str) (ms.map PyData.str)
  | [] => .nil
  | z :: r => .cons (.str z) (strs_rpD r)
section
variable {wi : L2.TI} {uw : DTI} {g : TG} {ug : DTG} {js vs : List Nat} {tt : TT} {ut : DTT}
theorem re_sortSc {w : World} (hw : RI K wi uw) (hg : RG K g ug js) (ht : RT K tt ut) (he : RE K te ue) (hj : ∀ j ∈ js, j ∈ vs) : RE K (tCB (rSortT w) (tCons (tScG (rAddTx w) (fun a => setTO w a []) wi g tt te vs) tNil)) (dSortSc uw ug ut ue vs) := by
  intro c σ G H δ Q R E h k
  refine hw c σ G H δ _ _ E h fun ds δ1 J G1 H1 h1 E1 e1 Y => ?_
  intro D hD
  have hn := hid_new E1 hD
  refine ⟨fun i m H => ∃ G δ acc l, EnvOk K { c with hid := (D, setTO w D l) :: c.hid } G H σ δ ∧ Ex G1 G ∧ l.Nodup ∧ (∀ z, z ∈ l ↔ z ∈ acc) ∧ l.length ≤ acc.length ∧ i ≤ ds.length ∧ m = ds.length - i ∧
    scW vs ug ut ue (fun acc δ' => (∀ l : List Str, l.Nodup → (∀ z, z ∈ l ↔ z ∈ acc) → l.length < 64) ∧ ∀ ms : List Str, PyProof.Rows.sortedS ms = true → ms.Nodup → (∀ z, z ∈ ms ↔ z ∈ acc) → R (.list (ms.map PyData.str)) δ') (ds.drop i) acc δ,
    ⟨ds.length, G1, δ1, [], [], E1.hide (ob := setTO w D []) hD (E1.new0 hD), Ex.refl _, .nil, fun _ => Iff.rfl, Nat.le_refl _, Nat.zero_le _, rfl, h1⟩, ?_⟩
  rintro i m H2 ⟨G2, δ2, acc, l, E2, e2, nd, hm, hll, hi, rfl, h2⟩
  by_cases hlt : i < ds.length
  · have hd : ds[i]? = some ds[i] := List.getElem?_eq_getElem hlt
    rw [List.drop_eq_getElem_cons hlt] at h2
    obtain ⟨hgo, hy⟩ := Y.go G2 H2 i _ e2 E2.ex hd
    refine .inr ⟨hgo, fun H' => ∃ G δ acc l, EnvOk K { c with hid := (D, setTO w D l) :: c.hid } G H' σ δ ∧ Ex G1 G ∧ l.Nodup ∧ (∀ z, z ∈ l ↔ z ∈ acc) ∧ l.length ≤ acc.length ∧
      scW vs ug ut ue (fun acc δ' => (∀ l : List Str, l.Nodup → (∀ z, z ∈ l ↔ z ∈ acc) → l.length < 64) ∧ ∀ ms : List Str, PyProof.Rows.sortedS ms = true → ms.Nodup → (∀ z, z ∈ ms ↔ z ∈ acc) → R (.list (ms.map PyData.str)) δ') (ds.drop (i + 1)) acc δ,
      fun H' ⟨G', δ', acc', l', a1, a2, a3, a4, a5, a6⟩ => ⟨ds.length - (i + 1), by omega, G', δ', acc', l', a1, a2, a3, a4, a5, hlt, rfl, a6⟩, fun x H3 hx => ?_⟩
    obtain ⟨G3, A, rx⟩ := hy x H3 hx
    have E3 := (E2.al A).wipe vs
    refine hg _ (wipe σ vs) G3 H3 _ x _ _ _ E3 rx h2 fun σ4 δ4 h4 E4 l4 s4 => ?_
    rw [wipe_length] at l4
    have o4 : ∀ i, i ∉ vs → σ4[i]? = σ[i]? := fun i hi => by
      rw [s4 i fun z => hi (hj i z), wipe_get, if_neg fun z => hi z.1]
    refine ⟨wipe_eq l4 o4, ?_⟩
    have back : ∀ {cc : Cf} {G H : Hp} {δ : List Sl}, EnvOk K cc G H σ4 δ → EnvOk K cc G H σ (wipeS δ vs) := fun {cc G H δ} E => by
      have z := E.wipe vs
      rw [wipe_eq l4 o4] at z
      refine z.other (by rw [wipe_length]) fun i hi => ?_
      rw [wipe_get, if_neg fun z => hi z.1]
    refine ht _ σ4 G3 H3 δ4 _ _ E4 h4 fun b δ5 G5 H5 h5 E5 e5 => ?_
    have e15 : Ex G1 G5 := (e2.trans A.g).trans e5
    cases b with
    | false => exact ⟨G5, wipeS δ5 vs, acc, l, back E5, e15, nd, hm, hll, h5⟩
    | true =>
      refine he _ σ4 G5 H5 δ5 _ _ E5 h5 fun y δ6 v G6 H6 h6 E6 e6 r6 => ?_
      cases y <;> first
        | exact False.elim h6
        | skip
      rename_i z
      obtain ⟨q1, q2⟩ := E6.hd D _ List.mem_cons_self
      have h6 : acc.length < 4000 ∧ scW vs ug ut ue _ (ds.drop (i + 1)) (acc ++ [z]) (wipeS δ6 vs) := h6
      refine ⟨z, l, r6.str_of, q1, by unfold scanBound; omega, G6, wipeS δ6 vs, acc ++ [z], _, (back E6).grow hn, e15.trans e6, ?_, fun y => ?_, ?_, h6.2⟩
      · split
        · exact nd
        · rename_i hz
          exact List.nodup_cons.mpr ⟨hz, nd⟩
      · rw [List.mem_append, List.mem_singleton, ← hm y]
        split
        · rename_i hz
          exact ⟨.inl, fun q => q.elim id fun e => e ▸ hz⟩
        · rw [List.mem_cons]
          exact Or.comm
      · rw [List.length_append, List.length_singleton]
        split
        · omega
        · rw [List.length_cons]
          omega
  · have ei : i = ds.length := by omega
    subst ei
    rw [List.drop_length] at h2
    obtain ⟨h64, h2⟩ := h2
    obtain ⟨q1, q2⟩ := E2.hd D _ List.mem_cons_self
    refine .inl ⟨Y.stop G2 H2 e2 E2.ex, D, l, rfl, q1, h64 l nd hm, fun ys p py sy hp => ?_⟩
    have A2 := Al.new (o := .lst (ys.map V.str)) E2.ex hp
    refine k _ δ2 _ _ _ (h2 ys sy (py.nodup_iff.mpr nd) fun z => (py.mem_iff).trans (hm z)) (E2.unhide.al A2) ((e1.trans e2).trans A2.g) (.lst upd_same (strs_rpD ys))
end
/-- a slice of a tuple, the whole one too -/
def dSlA : R3D := fun d lo hi R => match d with
  | .tuple ds => R (.tuple (cutP ds lo hi))
  | _ => False
theorem rsl_tupA : RSl K (rSlA K) dSlA := by
  intro G H x d lo hi Q R e r h k
  cases d <;> first
    | exact False.elim h
    | skip
  rename_i ds
  obtain ⟨a, xs, rfl, h1, q1⟩ := r.tup_of
  refine ⟨a, xs, rfl, .inl (.inl (e _ _ h1)), fun hw => ?_, fun _ p hp => ?_⟩
  · rw [q1.len] at hw
    have e1 : cutP ds lo hi = ds := by
      unfold cutP
      rw [hw.1, hw.2, List.drop_zero, Nat.sub_zero, List.take_length]
    have h : R (.tuple (cutP ds lo hi)) := h
    rw [e1] at h
    exact k _ _ G H h (Al.refl e) (.tup h1 q1)
  · have A := Al.new (o := .tup (cutV xs lo hi)) e hp
    exact k _ _ _ _ h A (.tup upd_same ((cut_rp q1 lo hi).up A.g))
/-- *e in a display -/
def dStar (u : DTE) (ur : DTA) : DTA := fun δ R => u δ fun d δ1 => match d with
  | .list ds => ur δ1 fun es δ2 => R (ds ++ es) δ2
  | .tuple ds => ur δ1 fun es δ2 => R (ds ++ es) δ2
  | _ => False
theorem ra_star {tr : TA} {ur : DTA} (ha : RE K te ue) (hr : RA K tr ur) : RA K (StX.tStar K te tr) (dStar ue ur) := by
  intro c σ G H δ Q R E h k
  refine ha c σ G H δ _ _ E h fun d δ1 v G1 H1 h1 E1 e1 r1 => ?_
  cases d <;> first
    | exact False.elim h1
    | skip
  · obtain ⟨a, xs, rfl, q1, q2⟩ := r1.lst_of
    refine ⟨a, xs, rfl, .inr (.inl (.inl (E1.ex _ _ q1))), ?_⟩
    exact hr c σ G1 H1 δ1 _ _ E1 h1 fun es δ2 vs G2 H2 h2 E2 e2 r2 => k _ δ2 _ G2 H2 h2 E2 (e1.trans e2) (RpAll.app (q2.up e2) r2)
  · obtain ⟨a, xs, rfl, q1, q2⟩ := r1.tup_of
    refine ⟨a, xs, rfl, .inl (.inl (.inl (E1.ex _ _ q1))), ?_⟩
    exact hr c σ G1 H1 δ1 _ _ E1 h1 fun es δ2 vs G2 H2 h2 E2 e2 r2 => k _ δ2 _ G2 H2 h2 E2 (e1.trans e2) (RpAll.app (q2.up e2) r2)
/-- x in a tuple -/
def rInDT (K : PySem.W.Frag) (neg : Bool) : R2 := fun x y H Q => ∃ d ds, Dp K H x d ∧ Dp K H y (.tuple ds) ∧ SeqAt.shaped d = true ∧ SeqAt.shaped (.tuple ds) = true ∧ Q (.bl (if neg = true then !(ds.any fun z => PyData.eqv z d) else ds.any fun z => PyData.eqv z d)) H
def dInTup (neg : Bool) : R2D := fun a b R => match b with
  | .tuple ds => SeqAt.shaped a = true ∧ SeqAt.shaped (.tuple ds) = true ∧ R (.bool (if neg = true then !(ds.any fun z => PyData.eqv z a) else ds.any fun z => PyData.eqv z a))
  | _ => False
theorem ro_inTup (neg : Bool) : RO K (rInDT K neg) (dInTup neg) := by
  intro G H x y d1 d2 Q R e r1 r2 h k
  cases d2 <;> first
    | exact False.elim h
    | skip
  rename_i ds
  exact ⟨d1, ds, (r1.up e).dp _ _ (SeqAt.canLay_of_shaped h.1), (r2.up e).dp _ _ (SeqAt.canLay_of_shaped h.2.1), h.1, h.2.1, k _ _ G H h.2.2 (Al.refl e) (.bl _)⟩
/-- == with a written thing -/
def dEqC (u : DTE) (d0 : PyData) (neg : Bool) : DTE := fun δ R => u δ fun d δ1 => SeqAt.shaped d = true ∧ R (.bool (if neg = true then !(PyData.eqv d d0) else PyData.eqv d d0)) δ1
theorem re_eqC {r : R2} {v0 : V} {d0 : PyData} (neg : Bool) (ha : RE K ta ua) (hr : ∀ x H Q d, Dp K H x d → SeqAt.shaped d = true → Q (.bl (if neg = true then !(PyData.eqv d d0) else PyData.eqv d d0)) H → r x v0 H Q) :
    RE K (tOp r ta (tC v0)) (dEqC ua d0 neg) := by
  intro c σ G H δ Q R E h k
  refine ha c σ G H δ _ _ E h fun d δ1 v G1 H1 h1 E1 e1 r1 => ?_
  exact hr v H1 _ d ((r1.up E1.ex).dp _ _ (SeqAt.canLay_of_shaped h1.1)) h1.1 (k _ δ1 _ G1 H1 h1.2 E1 e1 (.bl _))
/-- two texts held against each other -/
def dNeT : R2D := fun a b R => match a, b with
  | .str x, .str y => R (.bool (!(x == y)))
  | _, _ => False
theorem ro_neT : RO K rNe dNeT := by
  intro G H x y d1 d2 Q R e r1 r2 h k
  cases d1 <;> cases d2 <;> first
    | exact False.elim h
    | skip
  have e1 := r1.str_of
  have e2 := r2.str_of
  subst e1 e2
  refine ⟨rfl, ?_⟩
  rw [dec_str]
  exact k _ _ G H h (Al.refl e) (.bl _)
/-- zip of two lists -/
def zipL (xs ys : List PyData) : List PyData := (xs.zip ys).map fun p => .tuple [p.1, p.2]
def diZL (ua ub : DTE) : DTI := fun δ R => ua δ fun d1 δ1 => ub δ1 fun d2 δ2 => match d1, d2 with
  | .list x, .list y => R (zipL x y) δ2
  | _, _ => False
theorem ri_zipL (ha : RE K ta ua) (hb : RE K tb ub) : RI K (iZip K (tCons ta (tCons tb tNil))) (diZL ua ub) := by
  intro c σ G H δ Q R E h k
  refine ha c σ G H δ _ _ E h fun d1 δ1 v1 G1 H1 h1 E1 e1 r1 => ?_
  refine hb c σ G1 H1 δ1 _ _ E1 h1 fun d2 δ2 v2 G2 H2 h2 E2 e2 r2 => ?_
  cases d1 <;> cases d2 <;> first
    | exact False.elim h2
    | skip
  rename_i x y
  obtain ⟨a, xs, rfl, a1, a2⟩ := (r1.up e2).lst_of
  obtain ⟨b, ys, rfl, b1, b2⟩ := r2.lst_of
  have at1 : ∀ {G3 H3 : Hp}, Ex G2 G3 → Ex G3 H3 → SqL K H3 a xs ∧ SqL K H3 b ys := fun e3 e4 => ⟨.inl (.inl (e4 _ _ (e3 _ _ a1))), .inl (.inl (e4 _ _ (e3 _ _ b1)))⟩
  have sl := at1 (Ex.refl _) E2.ex
  refine ⟨a, b, xs, ys, rfl, sl.1, sl.2, k _ δ2 _ G2 H2 h2 E2 (e1.trans e2) ⟨fun G3 H3 z1 z2 => ?_, fun G3 H3 i d z1 z2 hd => ?_⟩⟩
  · refine ⟨xs, ys, (at1 z1 z2).1, (at1 z1 z2).2, ?_⟩
    have l1 := a2.len
    have l2 := b2.len
    unfold zipL
    rw [List.length_map, List.length_zip]
    omega
  · unfold zipL at hd
    rw [List.getElem?_map] at hd
    cases q : (x.zip y)[i]? with
    | none =>
      rw [q] at hd
      cases hd
    | some ch =>
      rw [q] at hd
      cases hd
      rw [List.getElem?_zip_eq_some] at q
      obtain ⟨qa, qb⟩ := q
      obtain ⟨u1, hu1, ru1⟩ := a2.get qa
      obtain ⟨u2, hu2, ru2⟩ := b2.get qb
      have sl := at1 z1 z2
      refine ⟨⟨xs, ys, u1, u2, sl.1, sl.2, hu1, hu2⟩, fun z H4 hy => ?_⟩
      obtain ⟨T, x', y', rfl, hT, rfl, hc, hd⟩ := hy
      have c1 := (hc xs sl.1).symm.trans hu1
      have c2 := (hd ys sl.2).symm.trans hu2
      cases c1
      cases c2
      have A := Al.new (o := .tup [u1, u2]) z2 hT
      exact ⟨_, A, .tup upd_same (.cons ((ru1.up z1).up A.g) (.cons ((ru2.up z1).up A.g) .nil))⟩
end
/-! ### rules by syntax -/
section
variable {X : Cx} {a b e : Expr} {es : List Expr} {ta tb te : TE} {ua ub ue : DTE} {tr : TA} {ur : DTA} {pos p p2 pk : Pos}
theorem op_inDT (neg : Bool) (hu : X.A.units + 65 < cLine) : OpR X (compareOp (if neg = true then .NotIn else .In)) (rInDT X.K neg) := by
  intro pins s σ H x y v u Q I rx ry h
  obtain ⟨d, ds, hd, he, sd, se, q⟩ := h
  obtain ⟨as, r1⟩ := Dp.reads I d x v hd rx
  obtain ⟨bs, r2⟩ := Dp.reads I (.tuple ds) y u he ry
  cases neg with
  | true => exact SeqAt.notIn_tuple_reads r2 r1 (SeqAt.canLay_of_shaped se) (SeqAt.canLay_of_shaped sd) (room_in_shaped sd hu) ⟨.bl _, H, I, rfl, q⟩
  | false => exact SeqAt.in_tuple_reads r2 r1 (SeqAt.canLay_of_shaped se) (SeqAt.canLay_of_shaped sd) (room_in_shaped sd hu) ⟨.bl _, H, I, rfl, q⟩
theorem da_star {sp_ : Pos} (ha : DE X e te ue) (hr : DA X es tr ur) (hs : starEach (.Starred e sp_ :: es) X.env = (true, eval e X.env) :: starEach es X.env := by rfl) : DA X (.Starred e sp_ :: es) (StX.tStar X.K te tr) (dStar ue ur) := ⟨StX.pa_star ha.pe hr.pa hs, ra_star ha.re hr.ra⟩
theorem de_lenSet (hm : X.mg "len" = none) (hm2 : X.mg "set" = none) (ha : DE X a ta ua) (hc : X.calm = true := by rfl) (hg : Gl X "len" := by rfl) (hg2 : Gl X "set" := by rfl)
    (hv2 : bootBuiltins "set" = some (.type "set") := by decide +kernel) (hs : starEach [a] X.env = (false, eval a X.env) :: starEach [] X.env := by rfl) (hpl : (backTo p2 (starEach [] X.env)).any (·.1) = false := by rfl)
    (hs2 : starEach [.Call (.Name "set" pk) [a] [] p2] X.env = (false, eval (.Call (.Name "set" pk) [a] [] p2) X.env) :: starEach [] X.env := by rfl) (hpl2 : (backTo pos (starEach [] X.env)).any (·.1) = false := by rfl) :
    DE X (.Call (.Name "len" p) [.Call (.Name "set" pk) [a] [] p2] [] pos) (tCB (rLenT X.w) (tCons (tCB (rSetS X.w) (tCons ta tNil)) tNil)) (dLenSet ua) :=
  ⟨pe_callB cr_lenT hg hm PySem.boot_len (pa_cons (pe_callTy (cr_setS hc) hg2 hm2 hv2 (pa_cons ha.pe pa_nil hs) (by decide) (by decide) hs hpl) pa_nil hs2) (by decide) (by decide) hs2 hpl2, re_lenSet ha.re⟩
theorem de_sortSc {elt tg iter : Expr} {ifs : List Expr} {scope : Scope} (own : List (Str × Nat)) {w : L2.TI} {uw : DTI} {g : TG} {ug : DTG} {js : List Nat} {tt : TT} {ut : DTT} (hm : X.mg "sorted" = none) (hc : X.calm = true) (hN : X.N.Nodup) (hi : DI X tg iter w uw) (ok : BlkOk X.N X.env.scope scope own)
    (hg : ∀ (s : Shared) (H : Hp) (C : Addr) (cl : List (Str × Addr)) (fp : List Addr), DG (X.blk s H scope (compEnvC scope cl C X.env) fp) tg g ug js) (ht : ∀ (s : Shared) (H : Hp) (C : Addr) (cl : List (Str × Addr)) (fp : List Addr), DTs (X.blk s H scope (compEnvC scope cl C X.env) fp) ifs tt ut)
    (he : ∀ (s : Shared) (H : Hp) (C : Addr) (cl : List (Str × Addr)) (fp : List Addr), DE (X.blk s H scope (compEnvC scope cl C X.env) fp) elt te ue) (hj : ∀ j ∈ js, j ∈ own.map (·.2)) (hs : ∀ x, foldedSetIterable iter X.env x = pure x := by intro _; rfl)
    (hgl : Gl X "sorted" := by rfl) (hv : bootBuiltins "sorted" = some (.builtin "sorted") := by decide +kernel)
    (hs2 : starEach [.SetComp elt [⟨tg, iter, ifs, 0⟩] scope p2] X.env = (false, eval (.SetComp elt [⟨tg, iter, ifs, 0⟩] scope p2) X.env) :: starEach [] X.env := by rfl) (hpl2 : (backTo pos (starEach [] X.env)).any (·.1) = false := by rfl) :
    DE X (.Call (.Name "sorted" p) [.SetComp elt [⟨tg, iter, ifs, 0⟩] scope p2] [] pos) (tCB (rSortT X.w) (tCons (tScG (rAddTx X.w) (fun a => setTO X.w a []) w g tt te (own.map (·.2))) tNil)) (dSortSc uw ug ut ue (own.map (·.2))) :=
  ⟨pe_callB (cr_sortT hc) hgl hm hv (pa_cons (pe_scG addR_text fresh_text hc hN hi.pi ok (fun a b c d e => (hg a b c d e).pg) (fun a b c d e => (ht a b c d e).pt) (fun a b c d e => (he a b c d e).pe) hs) pa_nil hs2) (by decide) (by decide) hs2 hpl2,
   re_sortSc hi.ri (hg X.s_0 X.H_0 0 [] []).rg (ht X.s_0 X.H_0 0 [] []).rt (he X.s_0 X.H_0 0 [] []).re hj⟩
theorem di_zipL {elts : List Expr} {kk : Nat} {tpos : Pos} (hm : X.mg "zip" = none) (ha : DE X a ta ua) (hb : DE X b tb ub) (hg : Gl X "zip" := by rfl)
    (hs : starEach [a, b] X.env = (false, eval a X.env) :: starEach [b] X.env := by rfl) (hs2 : starEach [b] X.env = (false, eval b X.env) :: starEach [] X.env := by rfl) (hpl : (backTo pos (starEach [b] X.env)).any (·.1) = false := by rfl) :
    DI X (.Tuple elts kk tpos) (.Call (.Name "zip" p) [a, b] [] pos) (iZip X.K (tCons ta (tCons tb tNil))) (diZL ua ub) :=
  ⟨pi_zip hg hm (pa_cons ha.pe (pa_cons hb.pe pa_nil hs2) hs) hs hpl, ri_zipL ha.re hb.re⟩
/-- a module's name that stands for a written tuple -/
structure GDat (K : PySem.W.Frag) (mg : Str → Option Value) (x : Str) (a0 : Addr) (d : PyData) : Prop where
  at_ : mg x = some (.ref a0)
  sh : SeqAt.shaped d = true
  dp : ∀ H, Dp K H (.ref a0) d
theorem de_eqG {x : Str} {a0 : Addr} {d0 : PyData} (hu : X.A.units + 64 < cLine) (D : GDat X.K X.mg x a0 d0) (ha : DE X a ta ua) (hg : Gl X x := by rfl) (hd : (x == ("__debug__" : Str)) = false := by decide)
    (hm : lastMarks [CmpOp.Eq] [Expr.Name x p] = false := by first | rfl | exact nomark _) : DE X (.Compare a [.Eq] [.Name x p] pos) (tOp (rEqD X.K) ta (tC (.ref a0))) (dEqC ua d0 false) :=
  ⟨pe_cmpR (op_eqD hu) ha.pe (pe_glob hg D.at_ rfl hd) hm, re_eqC false ha.re fun v H Q d hd hs q => ⟨d, d0, hd, D.dp H, hs, D.sh, q⟩⟩
theorem dt_eqG {x : Str} {a0 : Addr} {d0 : PyData} (hu : X.A.units + 64 < cLine) (D : GDat X.K X.mg x a0 d0) (ha : DE X a ta ua) (hg : Gl X x := by rfl) (hd : (x == ("__debug__" : Str)) = false := by decide)
    (hm : lastMarks [CmpOp.Eq] [Expr.Name x p] = false := by first | rfl | exact nomark _) : DT X (.Compare a [.Eq] [.Name x p] pos) (tTest (tOp (rEqD X.K) ta (tC (.ref a0)))) (dTest (dEqC ua d0 false)) :=
  ⟨pt_cmpR (op_eqD hu) ha.pe (pe_glob hg D.at_ rfl hd) hm, rt_test (re_eqC false ha.re fun v H Q d hd hs q => ⟨d, d0, hd, D.dp H, hs, D.sh, q⟩)⟩
/-- a written tuple of one text -/
theorem gdat_one {K : PySem.W.Frag} {mg : Str → Option Value} {x z : Str} {a0 : Addr} {t : Tok} {n : Nat} (hm : mg x = some (.ref a0)) (hl : K.lookup a0 = some ⟨.type "tuple", none, .seq #[.str z t] n, #[]⟩) (hs : SeqAt.shaped (.tuple [.str z]) = true) : GDat K mg x a0 (.tuple [.str z]) :=
  ⟨hm, hs, fun H => .tup (.inr ⟨_, _, _, hl, rfl, rfl, by show 1 ≤ sizeLine; decide, .cons (show RelV (V.str z) (Value.str z t) from ⟨t, rfl⟩) .nil⟩) (.cons (.str z) .nil)⟩
end
end TL

set_option Elab.async false
set_option linter.all false
set_option maxRecDepth 100000
set_option maxHeartbeats 4000000
namespace K63
open PySem PySem.Spec L2 TL
def top (i : Nat) : Stmt := PySem.Challenge.pw_triesgrow_k63_put_otherwise.main.body.getD i (.Pass ⟨0, 0, 0, 0⟩)
abbrev s_inner_of : Stmt := top 12
theorem sc_inner_of : FnScope ["pattern"] ["pattern"] (defScope s_inner_of) := ⟨rfl, rfl, rfl, by decide +kernel, rfl, by decide +kernel, by decide +kernel⟩
abbrev s_leaves_of : Stmt := top 13
theorem sc_leaves_of : FnScope ["pattern", "inner"] ["pattern"] (defScope s_leaves_of) := ⟨rfl, rfl, rfl, by decide +kernel, rfl, by decide +kernel, by decide +kernel⟩
abbrev s_parts_of : Stmt := top 14
theorem sc_parts_of : FnScope ["pattern", "inner"] ["pattern"] (defScope s_parts_of) := ⟨rfl, rfl, rfl, by decide +kernel, rfl, by decide +kernel, by decide +kernel⟩
abbrev s_deep_of : Stmt := top 15
theorem sc_deep_of : FnScope ["pattern", "inner"] ["pattern"] (defScope s_deep_of) := ⟨rfl, rfl, rfl, by decide +kernel, rfl, by decide +kernel, by decide +kernel⟩

/-! ### patterns -/
inductive Pt where
  | non
  | sgn (x : Str)
  | again (p : Pt)
  | two (o : Bool) (p q : Pt)
namespace Pt
def tag : Pt → Str
  | non => Str.ofString "none"
  | sgn _ => Str.ofString "sign"
  | again _ => Str.ofString "again"
  | two false _ _ => Str.ofString "then"
  | two true _ _ => Str.ofString "or"
def d : Pt → PyData
  | non => .tuple [.str (Str.ofString "none")]
  | sgn x => .tuple [.str (Str.ofString "sign"), .str x]
  | again p => .tuple [.str (Str.ofString "again"), p.d]
  | two false p q => .tuple [.str (Str.ofString "then"), p.d, q.d]
  | two true p q => .tuple [.str (Str.ofString "or"), p.d, q.d]
def kids : Pt → List Pt
  | again p => [p]
  | two _ p q => [p, q]
  | _ => []
def isS : Pt → Bool
  | sgn _ => true
  | _ => false
def leaves : Pt → Nat
  | non => 0
  | sgn _ => 1
  | again p => p.leaves
  | two _ p q => p.leaves + q.leaves
def parts : Pt → Nat
  | non => 1
  | sgn _ => 1
  | again p => p.parts + 1
  | two _ p q => p.parts + q.parts + 1
def deep : Pt → Nat
  | non => 1
  | sgn _ => 1
  | again p => p.deep + 1
  | two _ p q => max p.deep q.deep + 1
theorem deep_pos : ∀ p : Pt, 0 < p.deep
  | non => Nat.one_pos
  | sgn _ => Nat.one_pos
  | again p => Nat.succ_pos _
  | two _ p q => Nat.succ_pos _
theorem kid_deep : ∀ {p k : Pt} {n : Nat}, k ∈ p.kids → p.deep ≤ n + 1 → k.deep ≤ n
  | non, _, _, h, _ => by cases h
  | sgn _, _, _, h, _ => by cases h
  | again p, k, n, h, hn => by
    have e := List.mem_singleton.mp h
    subst e
    exact Nat.le_of_succ_le_succ hn
  | two o p q, k, n, h, hn => by
    have hn : max p.deep q.deep + 1 ≤ n + 1 := hn
    rcases List.mem_cons.mp h with e | h
    · subst e
      omega
    · have e := List.mem_singleton.mp h
      subst e
      omega
/-- what stands behind the name -/
def rest : Pt → List PyData
  | sgn x => [.str x]
  | p => p.kids.map Pt.d
theorem d_eq : ∀ p : Pt, p.d = .tuple (.str p.tag :: p.rest)
  | non => rfl
  | sgn _ => rfl
  | again _ => rfl
  | two false _ _ => rfl
  | two true _ _ => rfl
theorem rest_of : ∀ {p : Pt}, p.isS = false → p.rest = p.kids.map Pt.d
  | non, _ => rfl
  | again _, _ => rfl
  | two _ _ _, _ => rfl
theorem rest_len : ∀ p : Pt, p.rest.length ≤ 2
  | non => by decide
  | sgn _ => by show 1 ≤ 2; decide
  | again _ => by show 1 ≤ 2; decide
  | two _ _ _ => by show 2 ≤ 2; decide
theorem kids_len : ∀ p : Pt, p.kids.length ≤ 2
  | non => by decide
  | sgn _ => by show 0 ≤ 2; decide
  | again _ => by show 1 ≤ 2; decide
  | two _ _ _ => by show 2 ≤ 2; decide
theorem tag_isS : ∀ p : Pt, (p.tag == Str.ofString "sign") = p.isS
  | non => by decide +kernel
  | sgn _ => by show (Str.ofString "sign" == Str.ofString "sign") = true; decide +kernel
  | again _ => by show (Str.ofString "again" == Str.ofString "sign") = false; decide +kernel
  | two false _ _ => by show (Str.ofString "then" == Str.ofString "sign") = false; decide +kernel
  | two true _ _ => by show (Str.ofString "or" == Str.ofString "sign") = false; decide +kernel
theorem tag_ok : ∀ p : Pt, SeqAt.shaped (.str p.tag) = true
  | non => by decide +kernel
  | sgn _ => by show SeqAt.shaped (.str (Str.ofString "sign")) = true; decide +kernel
  | again _ => by show SeqAt.shaped (.str (Str.ofString "again")) = true; decide +kernel
  | two false _ _ => by show SeqAt.shaped (.str (Str.ofString "then")) = true; decide +kernel
  | two true _ _ => by show SeqAt.shaped (.str (Str.ofString "or")) = true; decide +kernel
end Pt
theorem sh_sign : SeqAt.shaped (.str (Str.ofString "sign")) = true := by decide +kernel
theorem cut1 : ∀ (a : PyData) (l : List PyData), l.length ≤ 2 → cutP (a :: l) (some 1) none = l
  | a, [], _ => rfl
  | a, [b], _ => rfl
  | a, [b, c], _ => rfl
  | a, b :: c :: e :: r, h => by simp at h
def S_inner : DSp := fun as R => ∃ p : Pt, as = [.dat p.d] ∧ R (.tuple (p.kids.map Pt.d)) []
def S_leaves (n : Nat) : DSp := fun as R => ∃ p : Pt, as = [.dat p.d] ∧ p.deep ≤ n ∧ R (.int (p.leaves : Nat)) []
def S_parts (n : Nat) : DSp := fun as R => ∃ p : Pt, as = [.dat p.d] ∧ p.deep ≤ n ∧ R (.int (p.parts : Nat)) []
def S_deep (n : Nat) : DSp := fun as R => ∃ p : Pt, as = [.dat p.d] ∧ p.deep ≤ n ∧ R (.int (p.deep : Nat)) []
theorem mono_inner : MonoS S_inner := fun as R R' h ⟨p, a, k⟩ => ⟨p, a, h _ _ k⟩
theorem mono_leaves (n : Nat) : MonoS (S_leaves n) := fun as R R' h ⟨p, a, b, k⟩ => ⟨p, a, b, h _ _ k⟩
theorem mono_parts (n : Nat) : MonoS (S_parts n) := fun as R R' h ⟨p, a, b, k⟩ => ⟨p, a, b, h _ _ k⟩
theorem mono_deep (n : Nat) : MonoS (S_deep n) := fun as R R' h ⟨p, a, b, k⟩ => ⟨p, a, b, h _ _ k⟩
section
variable {P : Program} {w : World} {K : PySem.W.Frag} {mg : Str → Option Value} {base : Heap}
variable (m_len : mg "len" = none) (m_isinstance : mg "isinstance" = none) (m_str : mg "str" = none) (m_bool : mg "bool" = none) (m_range : mg "range" = none) (m_int : mg "int" = none) (m_max : mg "max" = none) (m_min : mg "min" = none)
  (m_sum : mg "sum" = none) (m_sorted : mg "sorted" = none) (m_set : mg "set" = none) (m_tuple : mg "tuple" = none)
include m_len m_isinstance m_str m_bool m_range m_int m_max m_min m_sum m_sorted m_set m_tuple
theorem ok_inner_of {f : Addr} {fd : FuncData} (F : Fun K "inner_of" "inner_of" s_inner_of f fd) : FnOkG P w K mg base CX0 1 f fd ["pattern"] (spD K S_inner) := by
  refine fnD F sc_inner_of (fun as R h => by obtain ⟨_, rfl, _⟩ := h; rfl) fun cdv A outer s H E hr => ?_
  have nd := sc_inner_of.nd
  have hu := hr.units
  have hu1 := hr.units1
  refine ⟨_, _, (dss_one (ds_ret (de_if (dt_cmp (op_eqD hu) ro_eq (nomark _) (de_ix ix_tup ro_ixT (de_var 0) de_int) de_str) (de_tup da_nil) (de_sl sl_tup rsl_tup (de_var 0) (do_some de_int) do_none)))), ?_⟩
  rintro as R ⟨p, rfl, hR⟩
  rw [p.d_eq]
  simp [dRet, dIf, dTest, dOp, dIxT, dVar, dC, dEq, at0, p.tag_ok, sh_sign, ev_ss, p.tag_isS, dTup, dNil, dSl, dPart, dNoPart, dSlT, endsOf]
  by_cases hs : p.isS = true
  · rw [if_pos hs]
    refine ⟨[], ?_, outs0⟩
    have e : p.kids = [] := by
      cases p <;> first
        | rfl
        | cases hs
    rw [e] at hR
    exact hR
  · rw [if_neg hs]
    have l2 := p.rest_len
    rw [cut1 _ _ l2, Pt.rest_of (Bool.eq_false_iff.mpr hs)]
    refine ⟨fun z _ => ?_, [], hR, outs0⟩
    have q := HT.sIx_nat ((p.kids.map Pt.d).length + 1) 0 1
    rw [show ((1 : Nat) : Int) = 1 from rfl, z] at q
    omega
end
/-- the numbers that a def tells of the parts within -/
theorem ints_kids (g : Pt → Nat) (ks : List Pt) : ((ks.map fun k => (k.d, PyData.int (g k : Nat))).map (·.2)) = (ks.map fun k => ((g k : Nat) : Int)).map PyData.int := by
  rw [List.map_map, List.map_map]
  rfl
theorem fst_kids (g : Pt → Nat) (ks : List Pt) : ((ks.map fun k => (k.d, PyData.int (g k : Nat))).map (·.1)) = ks.map Pt.d := by
  rw [List.map_map]
  rfl
/-- the list of what a def tells of the parts within -/
theorem kids_list {g : Pt → Nat} {S : DSp} {R : DQ} {p : Pt} (mono : MonoS S) (hS : ∀ k ∈ p.kids, ∀ R' : PyData → List (List PyData) → Prop, R' (.int (g k : Nat)) [] → S [.dat k.d] R')
    (k : ∀ x, R (.list ((p.kids.map fun k => ((g k : Nat) : Int)).map PyData.int)) [.dat p.d, x]) :
    dLc (diT (dCall S_inner (cD (dVar 0) cNil))) (dgName 1) dYes (dCall S (cD (dVar 1) cNil)) [1] [.dat p.d, .no] R := by
  unfold dLc diT
  refine call_pure [p.d] ?_ ⟨p, rfl, rfl, ?_⟩ (mono_inner _)
  · exact fun Q q => q
  show lcW [1] (dgName 1) dYes (dCall S (cD (dVar 1) cNil)) (fun acc δ' => R (.list acc) δ') (p.kids.map Pt.d) [] [.dat p.d, .no]
  rw [← fst_kids g p.kids]
  refine lc_calls (R := fun acc δ' => R (.list acc) δ') mono (δ0 := [.dat p.d, .no]) rfl (by show 1 < 2; decide) _ [] _ rfl ?_ ?_ ?_
  · have := p.kids_len
    rw [List.length_map]
    show 0 + _ ≤ _
    omega
  · intro q hq R' h
    obtain ⟨a, ha, rfl⟩ := List.mem_map.mp hq
    exact hS a ha R' h
  · intro δ' h
    have hδ : ∃ x, δ' = [.dat p.d, x] := by
      rcases δ' with _ | ⟨a, _ | ⟨b, _ | ⟨c, r⟩⟩⟩ <;> simp [wipeS] at h
      obtain rfl := h
      exact ⟨b, rfl⟩
    obtain ⟨x, rfl⟩ := hδ
    rw [ints_kids, List.nil_append]
    exact k x
theorem sum_leaves : ∀ {p : Pt}, p.isS = false → (p.kids.map fun k => ((k.leaves : Nat) : Int)).sum = (p.leaves : Nat)
  | .non, _ => rfl
  | .again p, _ => by
    show ((p.leaves : Nat) : Int) + 0 = (p.leaves : Nat)
    omega
  | .two _ p q, _ => by
    show ((p.leaves : Nat) : Int) + (((q.leaves : Nat) : Int) + 0) = ((p.leaves + q.leaves : Nat) : Int)
    omega
theorem sum_parts : ∀ p : Pt, 1 + (p.kids.map fun k => ((k.parts : Nat) : Int)).sum = (p.parts : Nat)
  | .non => rfl
  | .sgn _ => rfl
  | .again p => by
    show 1 + (((p.parts : Nat) : Int) + 0) = ((p.parts + 1 : Nat) : Int)
    omega
  | .two _ p q => by
    show 1 + (((p.parts : Nat) : Int) + (((q.parts : Nat) : Int) + 0)) = ((p.parts + q.parts + 1 : Nat) : Int)
    omega
theorem max_deep0 : ∀ {p : Pt}, (p.kids.map fun k => ((k.deep : Nat) : Int)) = [] → p.deep = 1
  | .non, _ => rfl
  | .sgn _, _ => rfl
  | .again _, h => by cases h
  | .two _ _ _, h => by cases h
theorem max_deep : ∀ {p : Pt} {m : Int}, m ∈ (p.kids.map fun k => ((k.deep : Nat) : Int)) → (∀ y, y ∈ (p.kids.map fun k => ((k.deep : Nat) : Int)) → y ≤ m) → 1 + m = (p.deep : Nat)
  | .non, _, h, _ => by cases h
  | .sgn _, _, h, _ => by cases h
  | .again p, m, h, _ => by
    have e := List.mem_singleton.mp h
    subst e
    show 1 + ((p.deep : Nat) : Int) = ((p.deep + 1 : Nat) : Int)
    omega
  | .two _ p q, m, h, hy => by
    have h1 := hy ((p.deep : Nat) : Int) List.mem_cons_self
    have h2 := hy ((q.deep : Nat) : Int) (List.mem_cons_of_mem _ List.mem_cons_self)
    show 1 + m = ((max p.deep q.deep + 1 : Nat) : Int)
    rcases List.mem_cons.mp h with e | h
    · have e : m = ((p.deep : Nat) : Int) := e
      omega
    · have e : m = ((q.deep : Nat) : Int) := List.mem_singleton.mp h
      omega
section
variable {P : Program} {w : World} {K : PySem.W.Frag} {mg : Str → Option Value} {base : Heap}
variable (m_len : mg "len" = none) (m_isinstance : mg "isinstance" = none) (m_str : mg "str" = none) (m_bool : mg "bool" = none) (m_range : mg "range" = none) (m_int : mg "int" = none) (m_max : mg "max" = none) (m_min : mg "min" = none)
  (m_sum : mg "sum" = none) (m_sorted : mg "sorted" = none) (m_set : mg "set" = none) (m_tuple : mg "tuple" = none)
include m_len m_isinstance m_str m_bool m_range m_int m_max m_min m_sum m_sorted m_set m_tuple
theorem ok_leaves_of {f : Addr} {fd : FuncData} (F : Fun K "leaves_of" "leaves_of" s_leaves_of f fd) (n : Nat) (k_inner_of : Kn P w K mg base 1 "inner_of" S_inner) (k_leaves_of : Kn P w K mg base (n + 1) "leaves_of" (S_leaves n)) : FnOkG P w K mg base CX0 (n + 1 + 1) f fd ["pattern"] (spD K (S_leaves (n + 1))) := by
  refine fnD F sc_leaves_of (fun as R h => by obtain ⟨_, rfl, _⟩ := h; rfl) fun cdv A outer s H E hr => ?_
  have nd := sc_leaves_of.nd
  have hu := hr.units
  have hu1 := hr.units1
  refine ⟨_, _, (dss_cons (ds_if (dt_cmp (op_eqD hu) ro_eq (nomark _) (de_ix ix_tup ro_ixT (de_var 0) de_int) de_str) (dss_one (ds_ret de_int)) dss_nil)
    (dss_one (ds_ret (de_sum1 m_sum (de_lc [("inner", 1)] rfl nd (di_tup (de_call k_inner_of hr (by omega) (dca_d (de_var 0) dca_nil))) (blkOk_by (N := ["pattern", "inner"]) (sc := defScope s_leaves_of) (by decide +kernel)) (fun _ _ _ _ _ => (dg_name 1 nd)) (fun _ _ _ _ _ => dts_nil) (fun _ _ _ _ _ => (de_callI k_leaves_of hr (by omega) (dca_d (de_var 1) dca_nil))) (by decide)))))), ?_⟩
  rintro as R ⟨p, rfl, hn, hR⟩
  generalize hb : dRet (dSum _) = B
  rw [p.d_eq]
  simp [dSeq, dIfS, dRet, dTest, dOp, dIxT, dVar, dC, dEq, at0, p.tag_ok, sh_sign, ev_ss, p.tag_isS, dNext, endsOf]
  rw [← p.d_eq]
  by_cases hs : p.isS = true
  · rw [if_pos hs]
    refine ⟨[], ?_, outs0⟩
    have e : p.leaves = 1 := by
      cases p <;> first
        | rfl
        | cases hs
    rw [e] at hR
    exact hR
  · rw [if_neg hs, ← hb]
    dsimp only [dRet, dSum]
    refine kids_list (g := Pt.leaves) (p := p) (mono_leaves n) (fun k hk R' h => ⟨k, rfl, Pt.kid_deep hk hn, h⟩) fun x => ?_
    show (match intsOf ((p.kids.map fun k => ((k.leaves : Nat) : Int)).map PyData.int) with
      | some ns => _
      | none => False)
    rw [intsOf_map]
    refine ⟨[], ?_, outs0⟩
    rw [sum_leaves (Bool.eq_false_iff.mpr hs)]
    exact hR
theorem ok_parts_of {f : Addr} {fd : FuncData} (F : Fun K "parts_of" "parts_of" s_parts_of f fd) (n : Nat) (k_inner_of : Kn P w K mg base 1 "inner_of" S_inner) (k_parts_of : Kn P w K mg base (n + 1) "parts_of" (S_parts n)) : FnOkG P w K mg base CX0 (n + 1 + 1) f fd ["pattern"] (spD K (S_parts (n + 1))) := by
  refine fnD F sc_parts_of (fun as R h => by obtain ⟨_, rfl, _⟩ := h; rfl) fun cdv A outer s H E hr => ?_
  have nd := sc_parts_of.nd
  have hu := hr.units
  have hu1 := hr.units1
  refine ⟨_, _, (dss_one (ds_ret (de_op op_add ro_I de_int (de_sum1 m_sum (de_lc [("inner", 1)] rfl nd (di_tup (de_call k_inner_of hr (by omega) (dca_d (de_var 0) dca_nil))) (blkOk_by (N := ["pattern", "inner"]) (sc := defScope s_parts_of) (by decide +kernel)) (fun _ _ _ _ _ => (dg_name 1 nd)) (fun _ _ _ _ _ => dts_nil) (fun _ _ _ _ _ => (de_callI k_parts_of hr (by omega) (dca_d (de_var 1) dca_nil))) (by decide)))))), ?_⟩
  rintro as R ⟨p, rfl, hn, hR⟩
  dsimp only [dRet, dOp, dC, dI, dSum]
  refine kids_list (g := Pt.parts) (p := p) (mono_parts n) (fun k hk R' h => ⟨k, rfl, Pt.kid_deep hk hn, h⟩) fun x => ?_
  show (match intsOf ((p.kids.map fun k => ((k.parts : Nat) : Int)).map PyData.int) with
    | some ns => _
    | none => False)
  rw [intsOf_map]
  refine ⟨[], ?_, outs0⟩
  rw [sum_parts]
  exact hR
theorem ok_deep_of {f : Addr} {fd : FuncData} (F : Fun K "deep_of" "deep_of" s_deep_of f fd) (n : Nat) (k_inner_of : Kn P w K mg base 1 "inner_of" S_inner) (k_deep_of : Kn P w K mg base (n + 1) "deep_of" (S_deep n)) : FnOkG P w K mg base CX0 (n + 1 + 1) f fd ["pattern"] (spD K (S_deep (n + 1))) := by
  refine fnD F sc_deep_of (fun as R h => by obtain ⟨_, rfl, _⟩ := h; rfl) fun cdv A outer s H E hr => ?_
  have nd := sc_deep_of.nd
  have hu := hr.units
  have hu1 := hr.units1
  refine ⟨_, _, (dss_one (ds_ret (de_op op_add ro_I de_int (de_maxDf m_max hu1 (de_lc [("inner", 1)] rfl nd (di_tup (de_call k_inner_of hr (by omega) (dca_d (de_var 0) dca_nil))) (blkOk_by (N := ["pattern", "inner"]) (sc := defScope s_deep_of) (by decide +kernel)) (fun _ _ _ _ _ => (dg_name 1 nd)) (fun _ _ _ _ _ => dts_nil) (fun _ _ _ _ _ => (de_callI k_deep_of hr (by omega) (dca_d (de_var 1) dca_nil))) (by decide)) (DE.pe de_int))))), ?_⟩
  rintro as R ⟨p, rfl, hn, hR⟩
  dsimp only [dRet, dOp, dC, dI, dMaxDf]
  refine kids_list (g := Pt.deep) (p := p) (mono_deep n) (fun k hk R' h => ⟨k, rfl, Pt.kid_deep hk hn, h⟩) fun x => ?_
  show (match intsOf ((p.kids.map fun k => ((k.deep : Nat) : Int)).map PyData.int) with
    | some ns => _
    | none => False)
  rw [intsOf_map]
  refine ⟨fun e => ⟨[], ?_, outs0⟩, fun m hm hy => ⟨[], ?_, outs0⟩⟩
  · rw [max_deep0 e] at hR
    exact hR
  · rw [max_deep hm hy]
    exact hR
end
abbrev s_law_hand : Stmt := top 26
theorem sc_law_hand : FnScope ["_law_script", "_law_k", "_law_cell", "_law_seed"] ["_law_script", "_law_k"] (defScope s_law_hand) := ⟨rfl, rfl, rfl, by decide +kernel, rfl, by decide +kernel, by decide +kernel⟩
abbrev s_law_draw : Stmt := top 27
theorem sc_law_draw : FnScope ["_law_hand_here", "_law_many", "_law_found"] ["_law_hand_here", "_law_many"] (defScope s_law_draw) := ⟨rfl, rfl, rfl, by decide +kernel, rfl, by decide +kernel, by decide +kernel⟩
abbrev s_law_letters : Stmt := top 28
theorem sc_law_letters : FnScope ["_law_hand_here", "_law_many", "_law_step", "_law_start"] ["_law_hand_here"] (defScope s_law_letters) := ⟨rfl, rfl, rfl, by decide +kernel, rfl, by decide +kernel, by decide +kernel⟩
abbrev s_law_are_letters : Stmt := top 31
theorem sc_law_are_letters : FnScope ["_law_thing", "_law_places", "_law_sign"] ["_law_thing"] (defScope s_law_are_letters) := ⟨rfl, rfl, rfl, by decide +kernel, rfl, by decide +kernel, by decide +kernel⟩
/-! ### letters -/
abbrev abc : Str := Str.ofString "abcdefghijklmnopqrstuvwxyz"
def small (c : Nat) : Bool := decide (97 ≤ c) && decide (c ≤ 122)
def rising : List Nat → Bool
  | a :: b :: r => decide (a < b) && rising (b :: r)
  | _ => true
def goodL (z : Str) : Bool := decide (1 ≤ z.length) && decide (z.length ≤ 8) && z.cps.toList.all small && rising z.cps.toList
theorem good_slice : ∀ m ∈ [1, 2, 3, 8], ∀ k ∈ [1, 2, 3], ∀ s ∈ List.range 26, s + k * (m - 1) < 26 → goodL (sliceS abc (s : Nat) ((s : Nat) + (k : Nat) * (m : Nat) : Int) (k : Nat)) = true := by decide +kernel
theorem good_slice' {m k s : Int} (hm : m = 1 ∨ m = 2 ∨ m = 3 ∨ m = 8) (hk : 1 ≤ k ∧ k ≤ 3) (hs : 0 ≤ s) (h : s < 26 - k * (m - 1)) : goodL (sliceS abc s (s + k * m) k) = true := by
  have hk' : k = 1 ∨ k = 2 ∨ k = 3 := by omega
  have z : ∀ m ∈ [1, 2, 3, 8], ∀ k ∈ [1, 2, 3], (s < 26 - (k : Nat) * ((m : Nat) - 1 : Int)) → goodL (sliceS abc s (s + (k : Nat) * (m : Nat)) (k : Nat)) = true := fun m hm k hk hlt => by
    obtain ⟨a, rfl⟩ := Int.eq_ofNat_of_zero_le hs
    have m1 : 1 ≤ m := by
      simp only [List.mem_cons, List.not_mem_nil, or_false] at hm
      omega
    have e : ((k * (m - 1) : Nat) : Int) = (k : Int) * ((m : Int) - 1) := by
      rw [Int.natCast_mul, Int.ofNat_sub m1]
      rfl
    rw [← e] at hlt
    exact good_slice m hm k hk a (List.mem_range.mpr (by omega)) (by omega)
  rcases hm with rfl | rfl | rfl | rfl <;> rcases hk' with rfl | rfl | rfl
  · exact z 1 (by decide) 1 (by decide) h
  · exact z 1 (by decide) 2 (by decide) h
  · exact z 1 (by decide) 3 (by decide) h
  · exact z 2 (by decide) 1 (by decide) h
  · exact z 2 (by decide) 2 (by decide) h
  · exact z 2 (by decide) 3 (by decide) h
  · exact z 3 (by decide) 1 (by decide) h
  · exact z 3 (by decide) 2 (by decide) h
  · exact z 3 (by decide) 3 (by decide) h
  · exact z 8 (by decide) 1 (by decide) h
  · exact z 8 (by decide) 2 (by decide) h
  · exact z 8 (by decide) 3 (by decide) h
theorem find_abc : ∀ c ∈ List.range 26, Txt.find abc ⟨#[c + 97]⟩ = (c : Nat) := by decide +kernel
theorem find_small {c : Nat} (h : small c = true) : Txt.find abc ⟨#[c]⟩ = (c : Int) - 97 := by
  unfold small at h
  rw [Bool.and_eq_true, decide_eq_true_iff, decide_eq_true_iff] at h
  have z := find_abc (c - 97) (List.mem_range.mpr (by omega))
  rw [Nat.sub_add_cancel h.1] at z
  rw [z]
  omega
theorem eqv_ints : ∀ ns : List Int, PyData.eqvAll (ns.map PyData.int) (ns.map PyData.int) = true
  | [] => by simp [PyData.eqvAll]
  | n :: r => by
    show PyData.eqvAll (.int n :: r.map PyData.int) (.int n :: r.map PyData.int) = true
    simp [PyData.eqvAll, ev_ii, eqv_ints r]
theorem eqv_lints (ns : List Int) : PyData.eqv (.list (ns.map PyData.int)) (.list (ns.map PyData.int)) = true := by
  simp [PyData.eqv, eqv_ints ns]
theorem sh_ints (ns : List Int) : SeqAt.shaped (.list (ns.map PyData.int)) = true := by
  have a : PyData.canLayAll0 (ns.map PyData.int) = true := by
    induction ns with
    | nil => rfl
    | cons n r ih =>
      show (PyData.canLay0 (.int n) && PyData.canLayAll0 (r.map PyData.int)) = true
      rw [ih]
      rfl
  unfold SeqAt.shaped
  rw [Bool.and_eq_true]
  refine ⟨a, decide_eq_true ?_⟩
  show PyData.depthAll _ + 1 ≤ 64
  rw [depth_ints]
  decide
theorem rising_pw : ∀ {l : List Nat}, rising l = true → l.Pairwise (· < ·)
  | [], _ => .nil
  | [a], _ => List.pairwise_singleton _ _
  | a :: b :: r, h => by
    have h : (decide (a < b) && rising (b :: r)) = true := h
    rw [Bool.and_eq_true, decide_eq_true_iff] at h
    have ih := rising_pw h.2
    refine List.pairwise_cons.mpr ⟨fun x hx => ?_, ih⟩
    rcases List.mem_cons.mp hx with e | hx
    · rw [e]
      exact h.1
    · exact Nat.lt_trans h.1 ((List.pairwise_cons.mp ih).1 x hx)
/-- two rising lists with the same members are one -/
theorem rise_eq : ∀ {a b : List Int}, a.Pairwise (· < ·) → b.Pairwise (· < ·) → (∀ k, k ∈ a ↔ k ∈ b) → a = b
  | [], [], _, _, _ => rfl
  | [], y :: b, _, _, h => absurd ((h y).mpr List.mem_cons_self) (by simp)
  | x :: a, [], _, _, h => absurd ((h x).mp List.mem_cons_self) (by simp)
  | x :: a, y :: b, ha, hb, h => by
    have ha' := List.pairwise_cons.mp ha
    have hb' := List.pairwise_cons.mp hb
    have e : x = y := by
      rcases List.mem_cons.mp ((h x).mp List.mem_cons_self) with e | h1
      · exact e
      · rcases List.mem_cons.mp ((h y).mpr List.mem_cons_self) with e | h2
        · exact e.symm
        · have := hb'.1 x h1
          have := ha'.1 y h2
          omega
    subst e
    refine congrArg (x :: ·) (rise_eq ha'.2 hb'.2 fun k => ⟨fun hk => ?_, fun hk => ?_⟩)
    · rcases List.mem_cons.mp ((h k).mp (List.mem_cons_of_mem _ hk)) with e | h1
      · have := ha'.1 k hk
        omega
      · exact h1
    · rcases List.mem_cons.mp ((h k).mpr (List.mem_cons_of_mem _ hk)) with e | h1
      · have := hb'.1 k hk
        omega
      · exact h1
def S_letters : DSp := fun as R => ∃ x y : Int, as = [.own (some 0) [.int x, .int y]] ∧ okH x y ∧
  ∀ (z : Str) (x' y' : Int), goodL z = true → okH x' y' → R (.str z) [[.int x', .int y']]
theorem mono_letters : MonoS S_letters := fun as R R' h ⟨x, y, a, b, k⟩ => ⟨x, y, a, b, fun z x' y' c d => h _ _ (k z x' y' c d)⟩
section
variable {P : Program} {w : World} {K : PySem.W.Frag} {mg : Str → Option Value} {base : Heap}
variable (m_len : mg "len" = none) (m_isinstance : mg "isinstance" = none) (m_str : mg "str" = none) (m_bool : mg "bool" = none) (m_range : mg "range" = none) (m_int : mg "int" = none) (m_max : mg "max" = none) (m_min : mg "min" = none)
  (m_sum : mg "sum" = none) (m_sorted : mg "sorted" = none) (m_set : mg "set" = none) (m_tuple : mg "tuple" = none)
include m_len m_isinstance m_str m_bool m_range m_int m_max m_min m_sum m_sorted m_set m_tuple
theorem ok_law_hand {f : Addr} {fd : FuncData} (F : Fun K "_law_hand" "_law_hand" s_law_hand f fd)  : FnOkG P w K mg base CX0 1 f fd ["_law_script", "_law_k"] (spN K S_hand) := by
  refine fnN F sc_law_hand (fun as R h => by obtain ⟨_, _, rfl, _⟩ := h; rfl) fun cdv A outer s H E hr => ?_
  have nd := sc_law_hand.nd
  have hu := hr.units
  have hu1 := hr.units1
  refine ⟨_, _, (dss_cons (ds_set 2 nd (de_ix ix_list ro_ixL (de_op op_cat ro_cat (de_slScr 0 (do_some (de_var 1)) (do_some (de_op op_add ro_I (de_var 1) de_int))) (de_lst (da_cons de_int da_nil))) de_int))
    (dss_cons (ds_set 3 nd (de_op op_mod ro_IC (de_op op_mul ro_IC (de_op op_add ro_I (de_op op_add ro_I (de_op op_mod ro_IC (de_var 2) de_int) (de_op op_mul ro_IC de_int (de_var 1))) de_int) de_int) de_int))
    (dss_one (ds_retNew (da_cons (de_op op_mul ro_IC (de_int1 m_int (de_cmp op_ge ro_B (nomark _) (de_var 2) (de_op op_pow ro_IC de_int de_int))) (de_var 2)) (da_cons (de_var 3) da_nil)))))), ?_⟩
  rintro as R ⟨ns, k, rfl, hl, hk, hR⟩
  obtain ⟨z, hz⟩ := cell_at ns (some k) (some (k + 1))
  obtain ⟨ms, he, hm⟩ := cutP_map ns (some k) (some (k + 1))
  have hlen : (cutP (List.map PyData.int ns) (some k) (some (k + 1))).length ≤ 63 := by
    rw [he, List.length_map]
    omega
  simp [dRet, dRetNew, dAndV, dIsi, dVar, dOp, dEq, dNe, dLen, dC, dChain, dS, dI, dIC, dB, dIxV, slL, dSlScr, dCat, dLst, dCons, dNil, dPart, dNoPart, dIxL, dIxS, dAsg, dgName, dSeq, dIfS, dSetI, dTest, dInt1, cS, cD, cNil, dNext, tyD, kb_ss, kb_bb, sh_int, sh_bool, ev_ii, ev_bb, endsOf, endsNew, dAnd, dOr, dNot, cps_a, cps_z, lt_one', le_one', cps_one, at0, at1, ix20, ix21, hz]
  refine ⟨nat_le_size (by decide), nat_le_size (by omega), .inl ⟨by decide, by decide⟩, .inr ⟨by decide, by decide⟩, ⟨by decide, by decide, by decide⟩, ?_, nat_le_size (by decide), [], ?_, outs0⟩
  · left
    split <;> exact ⟨by decide, by decide⟩
  · refine hR _ _ ?_ (Int.emod_nonneg _ (by decide)) (Int.lt_of_lt_of_le (Int.emod_lt_of_pos _ (by decide)) (by decide))
    split
    · rw [Int.one_mul]
      omega
    · rw [Int.zero_mul]
      exact Int.le_refl _
theorem ok_law_draw {f : Addr} {fd : FuncData} (F : Fun K "_law_draw" "_law_draw" s_law_draw f fd)  : FnOkG P w K mg base CX0 1 f fd ["_law_hand_here", "_law_many"] (spD K S_draw) := by
  refine fnD F sc_law_draw (fun as R h => by obtain ⟨_, _, _, rfl, _⟩ := h; rfl) fun cdv A outer s H E hr => ?_
  have nd := sc_law_draw.nd
  have hu := hr.units
  have hu1 := hr.units1
  refine ⟨_, _, (dss_cons (ds_if (dt_cmp op_gt ro_B (nomark _) (de_ixV 0 de_int) de_int) (dss_cons (ds_set 2 nd (de_op op_mod ro_IC (de_ixV 0 de_int) (de_var 1)))
    (dss_cons (ds_setI 0 (de_op op_fdiv ro_IC (de_ixV 0 de_int) (de_var 1)) de_int)
    (dss_one (ds_ret (de_var 2))))) dss_nil)
    (dss_cons (ds_setI 0 (de_op op_mod ro_IC (de_op op_add ro_I (de_op op_mul ro_IC (de_ixV 0 de_int) de_int) de_int) de_int) de_int)
    (dss_one (ds_ret (de_op op_mod ro_IC (de_op op_fdiv ro_IC (de_op op_mod ro_IC (de_op op_mul ro_IC (de_ixV 0 de_int) (de_ixV 0 de_int)) de_int) de_int) (de_var 1)))))), ?_⟩
  rintro as R ⟨x, y, n, rfl, hv, hn, hR⟩
  simp [dRet, dRetNew, dAndV, dIsi, dVar, dOp, dEq, dNe, dLen, dC, dChain, dS, dI, dIC, dB, dIxV, slL, dSlScr, dCat, dLst, dCons, dNil, dPart, dNoPart, dIxL, dIxS, dAsg, dgName, dSeq, dIfS, dSetI, dTest, dInt1, cS, cD, cNil, dNext, tyD, kb_ss, kb_bb, sh_int, sh_bool, ev_ii, ev_bb, endsOf, endsNew, dAnd, dOr, dNot, cps_a, cps_z, lt_one', le_one', cps_one, at0, at1, ix20, ix21]
  obtain ⟨h1, h2, h3⟩ := hv
  split
  · refine ⟨hn.1, ⟨hn.1, hn.2⟩, _, hR _ _ _ ⟨Int.emod_nonneg _ (by omega), Int.emod_lt_of_pos _ hn.1⟩ ⟨Int.ediv_nonneg h1 (by omega), h2, h3⟩, outs1 0 rfl⟩
  · have a1 := Int.emod_nonneg (y * 48271 + 11) (by decide : (2147483647 : Int) ≠ 0)
    have a2 := Int.emod_lt_of_pos (y * 48271 + 11) (by decide : (0 : Int) < 2147483647)
    refine ⟨.inr ⟨by decide, by decide⟩, .inl ⟨by omega, by omega⟩, ⟨by decide, by decide⟩, hn.1, _, hR _ _ _ ⟨Int.emod_nonneg _ (by omega), Int.emod_lt_of_pos _ hn.1⟩ ⟨h1, a1, by omega⟩, outs1 0 rfl⟩
theorem ok_law_letters {f : Addr} {fd : FuncData} (F : Fun K "_law_letters" "_law_letters" s_law_letters f fd) (k_law_draw : Kn P w K mg base 1 "_law_draw" S_draw) : FnOkG P w K mg base CX0 2 f fd ["_law_hand_here"] (spD K S_letters) := by
  refine fnD F sc_law_letters (fun as R h => by obtain ⟨_, _, rfl, _⟩ := h; rfl) fun cdv A outer s H E hr => ?_
  have nd := sc_law_letters.nd
  have hu := hr.units
  have hu1 := hr.units1
  refine ⟨_, _, (dss_cons (ds_set 1 nd (de_ix ix_list ro_ixL (de_lst (da_cons de_int (da_cons de_int (da_cons de_int (da_cons de_int (da_cons de_int (da_cons de_int da_nil))))))) (de_call k_law_draw hr (by omega) (dca_s 0 (dca_d de_int dca_nil)))))
    (dss_cons (ds_set 2 nd (de_op op_add ro_I de_int (de_call k_law_draw hr (by omega) (dca_s 0 (dca_d de_int dca_nil)))))
    (dss_cons (ds_set 3 nd (de_call k_law_draw hr (by omega) (dca_s 0 (dca_d (de_op op_sub ro_I de_int (de_op op_mul ro_IC (de_var 2) (de_op op_sub ro_I (de_var 1) de_int))) dca_nil))))
    (dss_one (ds_ret (de_slStep de_str (de_var 3) (de_op op_add ro_I (de_var 3) (de_op op_mul ro_IC (de_var 2) (de_var 1))) (de_var 2))))))), ?_⟩
  rintro as R ⟨x, y, rfl, hv, hR⟩
  have tail : ∀ (m x y : Int), (m = 1 ∨ m = 2 ∨ m = 3 ∨ m = 8) → okH x y →
      dSeq (dAsg (dOp (dI fun i j => i + j) (dC (.int 1)) (dCall S_draw (cS 0 (cD (dC (.int 3)) cNil)))) (dgName 2))
        (dSeq (dAsg (dCall S_draw (cS 0 (cD (dOp (dI fun i j => i - j) (dC (.int 26)) (dOp (dIC CMul fun i j => i * j) (dVar 2) (dOp (dI fun i j => i - j) (dVar 1) (dC (.int 1))))) cNil))) (dgName 3))
          (dRet (dSlStep (dC (.str abc)) (dVar 3) (dOp (dI fun i j => i + j) (dVar 3) (dOp (dIC CMul fun i j => i * j) (dVar 2) (dVar 1))) (dVar 2)))) (endsOf R) [.own (some 0) [.int x, .int y], .dat (.int m), .no, .no] := by
    intro m x y hm hv
    have m8 : 0 ≤ m ∧ m ≤ 8 := by omega
    dsimp only [dSeq, dAsg, dOp, dC, dgName, dRet]
    refine call_draw (i := 0) (t := some 0) (n := 3) ?_ hv ⟨by decide, by decide⟩ ?_ ?_
    · rfl
    · exact fun Q q => q
    intro k x1 y1 hk hv1
    dsimp only [dI]
    have hk3 : k = 0 ∨ k = 1 ∨ k = 2 := by omega
    have pos : 0 < 26 - (1 + k) * (m - 1) := by
      rcases hm with rfl | rfl | rfl | rfl <;> rcases hk3 with rfl | rfl | rfl <;> decide
    have top : 26 - (1 + k) * (m - 1) < 1073741824 := by
      rcases hm with rfl | rfl | rfl | rfl <;> rcases hk3 with rfl | rfl | rfl <;> decide
    refine call_draw (i := 0) (t := some 0) (n := 26 - (1 + k) * (m - 1)) ?_ hv1 ⟨pos, top⟩ ?_ ?_
    · rfl
    · exact fun Q q => ⟨.inl ⟨by omega, by omega⟩, q⟩
    intro st x2 y2 hst hv2
    show CMul (1 + k) m ∧ _
    refine ⟨.inl ⟨by omega, by omega⟩, ⟨by omega, nat_le_size (by decide +kernel)⟩, _, hR _ x2 y2 (good_slice' hm ⟨by omega, by omega⟩ hst.1 hst.2) hv2, outs1 0 rfl⟩
  generalize hT : dSeq (dAsg (dOp (dI _) (dC (.int 1)) _) _) _ = T
  dsimp only [dSeq, dAsg, dOp, dC, dgName, dLst, dCons, dNil]
  refine ⟨nat_le_size (by decide), ?_⟩
  refine call_draw (i := 0) (t := some 0) (n := 6) ?_ hv ⟨by decide, by decide⟩ ?_ ?_
  · rfl
  · exact fun Q q => q
  intro q x1 y1 hq hv1
  subst hT
  have hq6 : q = 0 ∨ q = 1 ∨ q = 2 ∨ q = 3 ∨ q = 4 ∨ q = 5 := by omega
  rcases hq6 with rfl | rfl | rfl | rfl | rfl | rfl
  · exact tail 1 x1 y1 (by decide) hv1
  · exact tail 1 x1 y1 (by decide) hv1
  · exact tail 1 x1 y1 (by decide) hv1
  · exact tail 2 x1 y1 (by decide) hv1
  · exact tail 3 x1 y1 (by decide) hv1
  · exact tail 8 x1 y1 (by decide) hv1
end
abbrev s_law_pattern : Stmt := top 29
theorem sc_law_pattern : FnScope ["_law_hand_here", "_law_leaves", "_law_room", "_law_way", "_law_first", "_law_one"] ["_law_hand_here", "_law_leaves", "_law_room"] (defScope s_law_pattern) := ⟨rfl, rfl, rfl, by decide +kernel, rfl, by decide +kernel, by decide +kernel⟩
def Pt.good : Pt → Bool
  | .non => true
  | .sgn x => goodL x
  | .again p => p.good
  | .two _ p q => p.good && q.good
def S_pattern (n : Nat) : DSp := fun as R => ∃ x y l : Int, as = [.own (some 0) [.int x, .int y], .dat (.int l), .dat (.int (n : Nat))] ∧ 0 < n ∧ n ≤ 14 ∧ okH x y ∧ 0 ≤ l ∧ l ≤ 13 ∧
  ∀ (p : Pt) (x' y' : Int), p.good = true → p.deep ≤ n → okH x' y' → R p.d [[.int x', .int y']]
theorem mono_pattern (n : Nat) : MonoS (S_pattern n) := fun as R R' h ⟨x, y, l, a, b, c, d, e, f, k⟩ => ⟨x, y, l, a, b, c, d, e, f, fun p x' y' g i j => h _ _ (k p x' y' g i j)⟩
theorem call_pat {n : Nat} {i : Nat} {x y l m : Int} {t : Option Nat} {δ : List Sl} {R : DQ} {u : DCA} (hs : δ[i]? = some (.own t [.int x, .int y])) (hv : okH x y) (hn : 0 < n ∧ n ≤ 14) (hl : 0 ≤ l ∧ l ≤ 13) (hm : m = (n : Nat))
    (hu : ∀ Q : List CA → List Sl → Prop, Q [.d (.int l), .d (.int m)] δ → u δ Q) (k : ∀ (p : Pt) (x' y' : Int), p.good = true → p.deep ≤ n → okH x' y' → R p.d (δ.set i (.own t [.int x', .int y']))) : dCall (S_pattern n) (cS i u) δ R := by
  subst hm
  exact call_own1 hs [.int l, .int (n : Nat)] hu ⟨x, y, l, rfl, hn.1, hn.2, hv, hl.1, hl.2, fun p x' y' a b c => ⟨_, rfl, k p x' y' a b c⟩⟩ (mono_pattern n _)
theorem call_let {i : Nat} {x y : Int} {t : Option Nat} {δ : List Sl} {R : DQ} (hs : δ[i]? = some (.own t [.int x, .int y])) (hv : okH x y)
    (k : ∀ (z : Str) (x' y' : Int), goodL z = true → okH x' y' → R (.str z) (δ.set i (.own t [.int x', .int y']))) : dCall S_letters (cS i cNil) δ R := by
  exact call_own1 hs [] (fun Q q => q) ⟨x, y, rfl, hv, fun z x' y' a b => ⟨_, rfl, k z x' y' a b⟩⟩ (mono_letters _)
section
variable {P : Program} {w : World} {K : PySem.W.Frag} {mg : Str → Option Value} {base : Heap}
variable (m_len : mg "len" = none) (m_isinstance : mg "isinstance" = none) (m_str : mg "str" = none) (m_bool : mg "bool" = none) (m_range : mg "range" = none) (m_int : mg "int" = none) (m_max : mg "max" = none) (m_min : mg "min" = none)
  (m_sum : mg "sum" = none) (m_sorted : mg "sorted" = none) (m_set : mg "set" = none) (m_tuple : mg "tuple" = none)
include m_len m_isinstance m_str m_bool m_range m_int m_max m_min m_sum m_sorted m_set m_tuple
theorem ok_law_pattern {f : Addr} {fd : FuncData} (F : Fun K "_law_pattern" "_law_pattern" s_law_pattern f fd) (n : Nat) (k_law_draw : Kn P w K mg base 1 "_law_draw" S_draw) (k_law_letters : Kn P w K mg base 2 "_law_letters" S_letters) (k_law_pattern : Kn P w K mg base (n + 3) "_law_pattern" (S_pattern n)) :
    FnOkG P w K mg base CX0 (n + 3 + 1) f fd ["_law_hand_here", "_law_leaves", "_law_room"] (spD K (S_pattern (n + 1))) := by
  refine fnD F sc_law_pattern (fun as R h => by obtain ⟨_, _, _, rfl, _⟩ := h; rfl) fun cdv A outer s H E hr => ?_
  have nd := sc_law_pattern.nd
  have hu := hr.units
  have hu1 := hr.units1
  refine ⟨_, _, (dss_cons (ds_set 3 nd (de_call k_law_draw hr (by omega) (dca_s 0 (dca_d de_int dca_nil))))
    (dss_cons (ds_if (dt_cmp (op_eqD hu) ro_eq (nomark _) (de_var 1) de_int) (dss_one (ds_ret (de_ix ix_list ro_ixL (de_lst (da_cons (de_tup (da_cons de_str da_nil)) (da_cons (de_tup (da_cons de_str (da_cons (de_tup (da_cons de_str da_nil)) da_nil))) da_nil))) (de_int1 m_int (de_and (de_cmp op_gt ro_B (nomark _) (de_var 2) de_int) (de_one (de_cmp (op_eqD hu) ro_eq (nomark _) (de_var 3) de_int))))))) dss_nil)
    (dss_cons (ds_if (dt_w (dw_and (dt_cmp op_gt ro_B (nomark _) (de_var 2) de_int) (dw_and1 (dt_cmp (op_eqD hu) ro_eq (nomark _) (de_var 3) de_int)))) (dss_one (ds_ret (de_tup (da_cons de_str (da_cons (de_call k_law_pattern hr (by omega) (dca_s 0 (dca_d (de_var 1) (dca_d (de_op op_sub ro_I (de_var 2) de_int) dca_nil)))) da_nil))))) dss_nil)
    (dss_cons (ds_if (dt_w (dw_or (dt_cmp (op_eqD hu) ro_eq (nomark _) (de_var 2) de_int) (dw_or1 (dt_w (dw_and (dt_cmp (op_eqD hu) ro_eq (nomark _) (de_var 1) de_int) (dw_and1 (dt_cmp op_lt ro_B (nomark _) (de_var 3) de_int))))))) (dss_one (ds_ret (de_tup (da_cons de_str (da_cons (de_call k_law_letters hr (by omega) (dca_s 0 dca_nil)) da_nil))))) dss_nil)
    (dss_cons (ds_set 4 nd (de_call k_law_draw hr (by omega) (dca_s 0 (dca_d (de_op op_add ro_I (de_var 1) de_int) dca_nil))))
    (dss_cons (ds_set 5 nd (de_call k_law_pattern hr (by omega) (dca_s 0 (dca_d (de_var 4) (dca_d (de_op op_sub ro_I (de_var 2) de_int) dca_nil)))))
    (dss_one (ds_ret (de_tup (da_cons (de_ix ix_list ro_ixL (de_lst (da_cons de_str (da_cons de_str da_nil))) (de_op op_mod ro_IC (de_var 3) de_int)) (da_cons (de_var 5) (da_cons (de_call k_law_pattern hr (by omega) (dca_s 0 (dca_d (de_op op_sub ro_I (de_var 1) (de_var 4)) (dca_d (de_op op_sub ro_I (de_var 2) de_int) dca_nil)))) da_nil)))))))))))), ?_⟩
  rintro as R ⟨x, y, l, rfl, hn0, hn, hv, hl0, hl, hR⟩
  generalize h4 : dSeq (dAsg (dCall S_draw (cS 0 (cD (dOp _ _ _) cNil))) (dgName 4)) _ = T4
  generalize h3 : dSeq (dIfS (dOr _ _) _ _) T4 = T3
  generalize h2 : dSeq (dIfS (dAnd _ _) _ _) T3 = T2
  dsimp only [dSeq, dAsg, dC, dgName]
  refine call_draw (i := 0) (t := some 0) (n := 8) ?_ hv ⟨by decide, by decide⟩ ?_ ?_
  · rfl
  · exact fun Q q => q
  intro wy x1 y1 hw hv1
  show dIfS _ _ _ _ [.own (some 0) [.int x1, .int y1], .dat (.int l), .dat (.int ((n + 1 : Nat) : Int)), .dat (.int wy), .no, .no]
  have stepD : 1 ≤ n → T4 (endsOf R) [.own (some 0) [.int x1, .int y1], .dat (.int l), .dat (.int ((n + 1 : Nat) : Int)), .dat (.int wy), .no, .no] := fun h1 => by
    rw [← h4]
    dsimp only [dSeq, dAsg, dgName]
    refine call_draw (i := 0) (t := some 0) (n := l + 1) ?_ hv1 ⟨by omega, by omega⟩ ?_ ?_
    · rfl
    · exact fun Q q => q
    intro fs x2 y2 hf hv2
    refine call_pat (n := n) (i := 0) (t := some 0) (x := x2) (y := y2) (l := fs) (m := ((n + 1 : Nat) : Int) - 1) ?_ hv2 ⟨by omega, by omega⟩ ⟨by omega, by omega⟩ (by omega) ?_ ?_
    · rfl
    · exact fun Q q => q
    intro p x3 y3 hp hd hv3
    dsimp only [dRet, dTup, dCons, dNil, dOp, dLst, dC, dIC]
    refine ⟨nat_le_size (by decide), ?_⟩
    show 0 < (2 : Int) ∧ (match atI [PyData.str (Str.ofString "then"), PyData.str (Str.ofString "or")] (wy % 2) with
      | some d => _
      | none => False)
    refine ⟨by decide, ?_⟩
    have hw2 : wy % 2 = 0 ∨ wy % 2 = 1 := by omega
    rcases hw2 with e | e <;> rw [e]
    · rw [at0]
      refine var_at (d := p.d) rfl ?_
      refine call_pat (n := n) (i := 0) (t := some 0) (x := x3) (y := y3) (l := l - fs) (m := ((n + 1 : Nat) : Int) - 1) ?_ hv3 ⟨by omega, by omega⟩ ⟨by omega, by omega⟩ (by omega) ?_ ?_
      · rfl
      · exact fun Q q => q
      intro q x4 y4 hq hd2 hv4
      exact ⟨nat_le_size (by show 3 ≤ 16777216; decide), _, hR (.two false p q) x4 y4 (by show (p.good && q.good) = true; rw [hp, hq]; rfl) (by show max p.deep q.deep + 1 ≤ n + 1; omega) hv4, outs1 0 rfl⟩
    · rw [at1]
      refine var_at (d := p.d) rfl ?_
      refine call_pat (n := n) (i := 0) (t := some 0) (x := x3) (y := y3) (l := l - fs) (m := ((n + 1 : Nat) : Int) - 1) ?_ hv3 ⟨by omega, by omega⟩ ⟨by omega, by omega⟩ (by omega) ?_ ?_
      · rfl
      · exact fun Q q => q
      intro q x4 y4 hq hd2 hv4
      exact ⟨nat_le_size (by show 3 ≤ 16777216; decide), _, hR (.two true p q) x4 y4 (by show (p.good && q.good) = true; rw [hp, hq]; rfl) (by show max p.deep q.deep + 1 ≤ n + 1; omega) hv4, outs1 0 rfl⟩
  have sgn : dRet (dTup (dCons (dC (PyData.str (Str.ofString "sign"))) (dCons (dCall S_letters (cS 0 cNil)) dNil))) { endsOf R with nx := T4 (endsOf R) } [.own (some 0) [.int x1, .int y1], .dat (.int l), .dat (.int ((n + 1 : Nat) : Int)), .dat (.int wy), .no, .no] := by
    dsimp only [dRet, dTup, dCons, dNil, dC]
    refine call_let (i := 0) (t := some 0) (x := x1) (y := y1) ?_ hv1 ?_
    · rfl
    intro z x2 y2 hz hv2
    exact ⟨nat_le_size (by show 2 ≤ 16777216; decide), _, hR (.sgn z) x2 y2 hz (by show 1 ≤ n + 1; omega) hv2, outs1 0 rfl⟩
  have stepC : l ≠ 0 → T3 (endsOf R) [.own (some 0) [.int x1, .int y1], .dat (.int l), .dat (.int ((n + 1 : Nat) : Int)), .dat (.int wy), .no, .no] := fun hl1 => by
    rw [← h3]
    refine ⟨rfl, rfl, ?_⟩
    show if PyData.eqv (.int ((n + 1 : Nat) : Int)) (.int 1) = true then _ else _
    by_cases h0 : n = 0
    · rw [if_pos (by rw [ev_ii, beq_iff_eq]; omega)]
      exact sgn
    · rw [if_neg (by rw [ev_ii, beq_iff_eq]; omega)]
      refine ⟨rfl, rfl, ?_⟩
      show if PyData.eqv (.int l) (.int 1) = true then _ else _
      by_cases hl1 : l = 1
      · rw [if_pos (by rw [ev_ii, beq_iff_eq]; exact hl1)]
        show if decide (wy < 6) = true then _ else _
        split
        · exact sgn
        · exact stepD (by omega)
      · rw [if_neg (by rw [ev_ii, beq_iff_eq]; exact hl1)]
        exact stepD (by omega)
  refine ⟨rfl, rfl, ?_⟩
  show if PyData.eqv (.int l) (.int 0) = true then _ else _
  by_cases hz : l = 0
  · subst hz
    rw [if_pos (by rw [ev_ii]; rfl)]
    dsimp only [dRet, dOp, dLst, dCons, dNil, dTup, dC]
    refine ⟨nat_le_size (by decide), nat_le_size (by decide), nat_le_size (by decide), nat_le_size (by decide), ?_⟩
    have fin : ∀ b : Bool, (b = true → 1 ≤ n) → dIxL (.list [.tuple [.str (Str.ofString "none")], .tuple [.str (Str.ofString "again"), .tuple [.str (Str.ofString "none")]]]) (.int (if b = true then 1 else 0)) fun d => (endsOf R).rt d [.own (some 0) [.int x1, .int y1], .dat (.int 0), .dat (.int ((n + 1 : Nat) : Int)), .dat (.int wy), .no, .no] := fun b hb => by
      cases b with
      | false => exact ⟨_, hR .non x1 y1 rfl (by show 1 ≤ n + 1; omega) hv1, outs1 0 rfl⟩
      | true => exact ⟨_, hR (.again .non) x1 y1 rfl (by show 1 + 1 ≤ n + 1; have := hb rfl; omega) hv1, outs1 0 rfl⟩
    show if decide ((1 : Int) < ((n + 1 : Nat) : Int)) = true then (SeqAt.shaped (.int wy) = true ∧ SeqAt.shaped (.int 0) = true ∧ dIxL _ (.int (if PyData.eqv (.int wy) (.int 0) = true then 1 else 0)) _) else dIxL _ (.int (if false = true then 1 else 0)) _
    by_cases h1 : (1 : Int) < ((n + 1 : Nat) : Int)
    · rw [if_pos (decide_eq_true h1)]
      exact ⟨rfl, rfl, fin (PyData.eqv (.int wy) (.int 0)) fun _ => by omega⟩
    · rw [if_neg (by simpa using h1)]
      exact fin false (by simp)
  · rw [if_neg (by rw [ev_ii, beq_iff_eq]; exact hz)]
    show T2 (endsOf R) _
    rw [← h2]
    show if decide ((1 : Int) < ((n + 1 : Nat) : Int)) = true then _ else _
    by_cases h1 : (1 : Int) < ((n + 1 : Nat) : Int)
    · rw [if_pos (decide_eq_true h1)]
      refine ⟨rfl, rfl, ?_⟩
      show if PyData.eqv (.int wy) (.int 0) = true then _ else _
      by_cases hw0 : wy = 0
      · rw [if_pos (by rw [ev_ii, beq_iff_eq]; exact hw0)]
        dsimp only [dRet, dTup, dCons, dNil, dC]
        refine call_pat (n := n) (i := 0) (t := some 0) (x := x1) (y := y1) (l := l) (m := ((n + 1 : Nat) : Int) - 1) ?_ hv1 ⟨by omega, by omega⟩ ⟨hl0, hl⟩ (by omega) ?_ ?_
        · rfl
        · exact fun Q q => q
        intro p x2 y2 hp hd hv2
        exact ⟨nat_le_size (by show 2 ≤ 16777216; decide), _, hR (.again p) x2 y2 hp (by show p.deep + 1 ≤ n + 1; omega) hv2, outs1 0 rfl⟩
      · rw [if_neg (by rw [ev_ii, beq_iff_eq]; exact hw0)]
        exact stepC hz
    · rw [if_neg (by simpa using h1)]
      exact stepC hz
end
abbrev s_law_sizes : Stmt := top 30
theorem sc_law_sizes : FnScope ["_law_thing", "_law_some", "_law_part", "_law_one"] ["_law_thing"] (defScope s_law_sizes) := ⟨rfl, rfl, rfl, by decide +kernel, rfl, by decide +kernel, by decide +kernel⟩
theorem okC_good {z : Str} (h : goodL z = true) : okC z := fun c hc => by
  unfold goodL at h
  rw [Bool.and_eq_true, Bool.and_eq_true] at h
  have q := List.all_eq_true.mp h.1.2 c hc
  unfold small at q
  rw [Bool.and_eq_true, decide_eq_true_iff, decide_eq_true_iff] at q
  omega
namespace Pt
theorem lay : ∀ p : Pt, p.good = true → PyData.canLay0 p.d = true
  | non, _ => by decide +kernel
  | sgn x, h => by
    show (PyData.strOk (Str.ofString "sign") && (PyData.strOk x && true)) = true
    rw [strOk_of (okC_good h), show PyData.strOk (Str.ofString "sign") = true by decide +kernel]
    rfl
  | again p, h => by
    show (PyData.strOk (Str.ofString "again") && (PyData.canLay0 p.d && true)) = true
    rw [lay p h, show PyData.strOk (Str.ofString "again") = true by decide +kernel]
    rfl
  | two false p q, h => by
    have h : (p.good && q.good) = true := h
    rw [Bool.and_eq_true] at h
    show (PyData.strOk (Str.ofString "then") && (PyData.canLay0 p.d && (PyData.canLay0 q.d && true))) = true
    rw [lay p h.1, lay q h.2, show PyData.strOk (Str.ofString "then") = true by decide +kernel]
    rfl
  | two true p q, h => by
    have h : (p.good && q.good) = true := h
    rw [Bool.and_eq_true] at h
    show (PyData.strOk (Str.ofString "or") && (PyData.canLay0 p.d && (PyData.canLay0 q.d && true))) = true
    rw [lay p h.1, lay q h.2, show PyData.strOk (Str.ofString "or") = true by decide +kernel]
    rfl
theorem dep : ∀ p : Pt, PyData.depth p.d ≤ p.deep
  | non => by decide
  | sgn x => by show max 0 (max 0 0) + 1 ≤ 1; decide
  | again p => by
    have := dep p
    show max 0 (max (PyData.depth p.d) 0) + 1 ≤ p.deep + 1
    omega
  | two false p q => by
    have := dep p
    have := dep q
    show max 0 (max (PyData.depth p.d) (max (PyData.depth q.d) 0)) + 1 ≤ max p.deep q.deep + 1
    omega
  | two true p q => by
    have := dep p
    have := dep q
    show max 0 (max (PyData.depth p.d) (max (PyData.depth q.d) 0)) + 1 ≤ max p.deep q.deep + 1
    omega
theorem shp {p : Pt} (h : p.good = true) (hd : p.deep ≤ 60) : SeqAt.shaped p.d = true := by
  unfold SeqAt.shaped
  rw [Bool.and_eq_true]
  refine ⟨lay p h, decide_eq_true ?_⟩
  have := dep p
  omega
/-- its numbers -/
def nums (p : Pt) : List Int := [(p.leaves : Nat), (p.parts : Nat), (p.deep : Nat)]
def tri (p : Pt) : PyData := .list (p.nums.map PyData.int)
end Pt
theorem kb_tt : kitB "tuple" "tuple" = some true := by decide +kernel
theorem ev_t0 (a : PyData) (l : List PyData) : PyData.eqv (.tuple (a :: l)) (.tuple []) = false := by simp [PyData.eqv, PyData.eqvAll]
theorem sh_t0 : SeqAt.shaped (.tuple []) = true := rfl
theorem sh_again : SeqAt.shaped (.str (Str.ofString "again")) = true := by decide +kernel
theorem sh_none : SeqAt.shaped (.str (Str.ofString "none")) = true := by decide +kernel
theorem sh_three : SeqAt.shaped (.list [.str (Str.ofString "again"), .str (Str.ofString "then"), .str (Str.ofString "or")]) = true := by decide +kernel
theorem t_nn : (Str.ofString "none" == Str.ofString "none") = true := by decide +kernel
theorem t_sn : (Str.ofString "sign" == Str.ofString "none") = false := by decide +kernel
theorem t_an : (Str.ofString "again" == Str.ofString "none") = false := by decide +kernel
theorem t_tn : (Str.ofString "then" == Str.ofString "none") = false := by decide +kernel
theorem t_on : (Str.ofString "or" == Str.ofString "none") = false := by decide +kernel
theorem t_ns : (Str.ofString "none" == Str.ofString "sign") = false := by decide +kernel
theorem t_ss : (Str.ofString "sign" == Str.ofString "sign") = true := by decide +kernel
theorem t_as : (Str.ofString "again" == Str.ofString "sign") = false := by decide +kernel
theorem t_ts : (Str.ofString "then" == Str.ofString "sign") = false := by decide +kernel
theorem t_os : (Str.ofString "or" == Str.ofString "sign") = false := by decide +kernel
theorem t_aa : (Str.ofString "again" == Str.ofString "again") = true := by decide +kernel
theorem t_ta : (Str.ofString "then" == Str.ofString "again") = false := by decide +kernel
theorem t_oa : (Str.ofString "or" == Str.ofString "again") = false := by decide +kernel
theorem t_tt : (Str.ofString "then" == Str.ofString "then") = true := by decide +kernel
theorem t_oo : (Str.ofString "or" == Str.ofString "or") = true := by decide +kernel
theorem t_at : (Str.ofString "again" == Str.ofString "then") = false := by decide +kernel
theorem t_ot : (Str.ofString "or" == Str.ofString "then") = false := by decide +kernel
theorem t_ao : (Str.ofString "again" == Str.ofString "or") = false := by decide +kernel
theorem t_to : (Str.ofString "then" == Str.ofString "or") = false := by decide +kernel
theorem sh_then : SeqAt.shaped (.str (Str.ofString "then")) = true := by decide +kernel
theorem sh_or : SeqAt.shaped (.str (Str.ofString "or")) = true := by decide +kernel
theorem tris_ok : ∀ ks : List Pt, PyData.canLayAll0 (ks.map Pt.tri) = true ∧ PyData.depthAll (ks.map Pt.tri) ≤ 1
  | [] => ⟨rfl, by decide⟩
  | k :: r => by
    obtain ⟨h1, h2⟩ := tris_ok r
    constructor
    · show (PyData.canLay0 k.tri && PyData.canLayAll0 (r.map Pt.tri)) = true
      rw [h1]
      rfl
    · show max (PyData.depth k.tri) (PyData.depthAll (r.map Pt.tri)) ≤ 1
      have : PyData.depth k.tri = 1 := rfl
      omega
theorem sh_tris (ks : List Pt) : SeqAt.shaped (.list (ks.map Pt.tri)) = true := by
  obtain ⟨h1, h2⟩ := tris_ok ks
  unfold SeqAt.shaped
  rw [Bool.and_eq_true]
  refine ⟨h1, decide_eq_true ?_⟩
  show PyData.depthAll _ + 1 ≤ 64
  omega
theorem no_none (ks : List Pt) : ((ks.map Pt.tri).any fun z => PyData.eqv z .none) = false := by
  rw [List.any_eq_false]
  intro z hz
  obtain ⟨k, _, rfl⟩ := List.mem_map.mp hz
  simp [Pt.tri, PyData.eqv]
/-- one number of each */ -/
theorem lc_item {D : PyData} {ks : List Pt} {x2 : Sl} {R : DQ} (j : Int) (g : Pt → Int) (hk : ks.length ≤ 2) (hg : ∀ k ∈ ks, atI (k.nums.map PyData.int) j = some (.int (g k)))
    (k : ∀ x, R (.list ((ks.map g).map PyData.int)) [.dat D, .dat (.list (ks.map Pt.tri)), x2, x]) : ∀ x3, dLc (diL (dVar 1)) (dgName 3) dYes (dIxV 3 (dC (.int j))) [3] [.dat D, .dat (.list (ks.map Pt.tri)), x2, x3] R := fun x3 => by
  show lcW [3] (dgName 3) dYes (dIxV 3 (dC (.int j))) (fun acc δ' => R (.list acc) δ') (ks.map Pt.tri) [] [.dat D, .dat (.list (ks.map Pt.tri)), x2, x3]
  refine lc_fm (R := fun acc δ' => R (.list acc) δ') (fun _ => true) (fun d => match d with
      | .list ds => (atI ds j).getD .none
      | _ => .none) (δ0 := [.dat D, .dat (.list (ks.map Pt.tri)), x2, .no]) _ [] _ rfl ?_ ?_ rfl ?_
  · rw [List.length_map]
    show 0 + _ ≤ _
    omega
  · intro d hd Y N hy hn
    obtain ⟨a, ha, rfl⟩ := List.mem_map.mp hd
    show (true = true) ∧ (match atI (a.nums.map PyData.int) j with
      | some x => Y x _
      | none => False)
    refine ⟨rfl, ?_⟩
    have z := hy rfl [.dat D, .dat (.list (ks.map Pt.tri)), x2, .dat a.tri] rfl
    have z : Y ((atI (a.nums.map PyData.int) j).getD .none) [.dat D, .dat (.list (ks.map Pt.tri)), x2, .dat a.tri] := z
    rw [hg a ha] at z ⊢
    exact z
  · intro δ' h'
    have hδ : ∃ x, δ' = [.dat D, .dat (.list (ks.map Pt.tri)), x2, x] := by
      rcases δ' with _ | ⟨a, _ | ⟨b, _ | ⟨c, _ | ⟨e, _ | ⟨e2, r⟩⟩⟩⟩⟩ <;> simp [wipeS] at h'
      obtain ⟨rfl, rfl, rfl⟩ := h'
      exact ⟨e, rfl⟩
    obtain ⟨x, rfl⟩ := hδ
    have el : ((ks.map Pt.tri).filter (fun _ => true)).map (fun d => match d with
        | .list ds => (atI ds j).getD .none
        | _ => PyData.none) = (ks.map g).map PyData.int := by
      rw [List.filter_eq_self.mpr fun _ _ => rfl, List.map_map, List.map_map]
      refine List.map_congr_left fun a ha => ?_
      show (atI (a.nums.map PyData.int) j).getD .none = .int (g a)
      rw [hg a ha]
      rfl
    rw [el, List.nil_append]
    exact k x
theorem nums0 (k : Pt) : atI (k.nums.map PyData.int) 0 = some (.int ((k.leaves : Nat) : Int)) := at0 _ _
theorem nums1 (k : Pt) : atI (k.nums.map PyData.int) 1 = some (.int ((k.parts : Nat) : Int)) := at1 _ _ _
theorem nums2 (k : Pt) : atI (k.nums.map PyData.int) 2 = some (.int ((k.deep : Nat) : Int)) := rfl
end K63

set_option Elab.async false
set_option linter.all false
set_option maxRecDepth 100000
set_option maxHeartbeats 4000000
namespace K63
open PySem PySem.Spec L2 TL
abbrev s_is_sign : Stmt := top 1
theorem sc_is_sign : FnScope ["thing"] ["thing"] (defScope s_is_sign) := ⟨rfl, rfl, rfl, by decide +kernel, rfl, by decide +kernel, by decide +kernel⟩
abbrev s_is_within : Stmt := top 9
theorem sc_is_within : FnScope ["leaves", "parts", "deep"] ["leaves", "parts", "deep"] (defScope s_is_within) := ⟨rfl, rfl, rfl, by decide +kernel, rfl, by decide +kernel, by decide +kernel⟩
abbrev s_are_letters : Stmt := top 11
theorem sc_are_letters : FnScope ["thing", "signs", "letter", "ahead"] ["thing"] (defScope s_are_letters) := ⟨rfl, rfl, rfl, by decide +kernel, rfl, by decide +kernel, by decide +kernel⟩
/-! ### things -/
/-- a text that may stand in a thing -/
def okS (z : Str) : Bool := decide (z.length ≤ 20) && z.cps.toList.all fun c => decide (c < 128)
mutual
/-- a thing: no ints, short texts, of dicts empty ones -/
def gd : PyData → Bool
  | .none => true
  | .bool _ => true
  | .int _ => false
  | .str z => okS z
  | .list ds => decide (ds.length ≤ 20) && gds ds
  | .tuple ds => decide (ds.length ≤ 20) && gds ds
  | .dict ds => ds.isEmpty
def gds : List PyData → Bool
  | [] => true
  | d :: ds => gd d && gds ds
end
theorem gds_mem : ∀ {ds : List PyData} {d : PyData}, gds ds = true → d ∈ ds → gd d = true
  | x :: r, d, h, hd => by
    have h : (gd x && gds r) = true := h
    rw [Bool.and_eq_true] at h
    rcases List.mem_cons.mp hd with e | hd
    · rw [e]
      exact h.1
    · exact gds_mem h.2 hd
theorem okS_sh {z : Str} (h : okS z = true) : SeqAt.shaped (.str z) = true := by
  unfold okS at h
  rw [Bool.and_eq_true, decide_eq_true_iff] at h
  refine sh_str (strOk_of fun c hc => ?_)
  have := of_decide_eq_true (List.all_eq_true.mp h.2 c hc)
  omega
theorem okS_len {z : Str} (h : okS z = true) : z.length ≤ 20 := by
  unfold okS at h
  rw [Bool.and_eq_true, decide_eq_true_iff] at h
  exact h.1
/-- what are letters -/
def lettersB : PyData → Bool
  | .str z => goodL z
  | _ => false
theorem find_no : ∀ c ∈ List.range 128, small c = false → Txt.find abc ⟨#[c]⟩ = -1 := by decide +kernel
theorem eqv_intsB : ∀ ns ms : List Int, PyData.eqvAll (ns.map PyData.int) (ms.map PyData.int) = decide (ns = ms)
  | [], [] => by simp [PyData.eqvAll]
  | [], m :: ms => by simp [PyData.eqvAll]
  | n :: ns, [] => by simp [PyData.eqvAll]
  | n :: ns, m :: ms => by
    show PyData.eqvAll (.int n :: ns.map PyData.int) (.int m :: ms.map PyData.int) = _
    simp only [PyData.eqvAll, ev_ii, eqv_intsB ns ms]
    by_cases h1 : n = m
    · by_cases h2 : ns = ms
      · simp [h1, h2]
      · simp [h1, h2]
    · simp [h1]
theorem pw_rising : ∀ {l : List Nat}, l.Pairwise (· < ·) → rising l = true
  | [], _ => rfl
  | [a], _ => rfl
  | a :: b :: r, h => by
    obtain ⟨h1, h2⟩ := List.pairwise_cons.mp h
    show (decide (a < b) && rising (b :: r)) = true
    rw [decide_eq_true (h1 b List.mem_cons_self), pw_rising h2]
    rfl
/-- of a list each sign below the next -/
def steps (l : List Nat) : List Bool := (l.zip (l.drop 1)).map fun p => decide (p.1 < p.2)
theorem steps_rising : ∀ l : List Nat, (steps l).all id = rising l
  | [] => rfl
  | [a] => rfl
  | a :: b :: r => by
    have ih := steps_rising (b :: r)
    show (decide (a < b) && (steps (b :: r)).all id) = (decide (a < b) && rising (b :: r))
    rw [ih]
def S_is_sign : DSp := fun as R => ∃ c, as = [.dat (.str ⟨#[c]⟩)] ∧ R (.bool (small c)) []
def S_within : DSp := fun as R => ∃ a b c : Int, as = [.dat (.int a), .dat (.int b), .dat (.int c)] ∧ R (.bool (decide (a ≤ 11) && (decide (b ≤ 40) && decide (c ≤ 12)))) []
def S_let : DSp := fun as R => ∃ d, as = [.dat d] ∧ gd d = true ∧ R (.bool (lettersB d)) []
theorem mono_is_sign : MonoS S_is_sign := fun as R R' h ⟨p, a, k⟩ => ⟨p, a, h _ _ k⟩
theorem mono_within : MonoS S_within := fun as R R' h ⟨a, b, c, d, k⟩ => ⟨a, b, c, d, h _ _ k⟩
theorem mono_let : MonoS S_let := fun as R R' h ⟨p, a, b, k⟩ => ⟨p, a, b, h _ _ k⟩
section
variable {P : Program} {w : World} {K : PySem.W.Frag} {mg : Str → Option Value} {base : Heap}
variable (m_len : mg "len" = none) (m_isinstance : mg "isinstance" = none) (m_str : mg "str" = none) (m_bool : mg "bool" = none) (m_range : mg "range" = none) (m_int : mg "int" = none) (m_max : mg "max" = none) (m_min : mg "min" = none)
  (m_sum : mg "sum" = none) (m_sorted : mg "sorted" = none) (m_set : mg "set" = none) (m_tuple : mg "tuple" = none)
include m_len m_isinstance m_str m_bool m_range m_int m_max m_min m_sum m_sorted m_set m_tuple
theorem ok_is_sign {f : Addr} {fd : FuncData} (F : Fun K "is_sign" "is_sign" s_is_sign f fd)  : FnOkG P w K mg base CX0 1 f fd ["thing"] (spD K S_is_sign) := by
  refine fnD F sc_is_sign (fun as R h => by obtain ⟨_, rfl, _⟩ := h; rfl) fun cdv A outer s H E hr => ?_
  have nd := sc_is_sign.nd
  have hu := hr.units
  have hu1 := hr.units1
  refine ⟨_, _, (dss_one (ds_ret (de_and (de_isi (T := "str") m_isinstance m_str (by decide +kernel) (de_var 0)) (de_and (de_cmp (op_eqD hu) ro_eq (nomark _) (de_len (ps := default) m_len (de_var 0)) de_int) (de_one (de_chain op_le_str ro_S op_le_str ro_S de_str (de_var 0) de_str)))))), ?_⟩
  rintro as R ⟨c, rfl, hR⟩
  simp [dRet, dRetNew, dAndV, dIsi, dVar, dOp, dEq, dNe, dLen, dC, dChain, dS, dI, dIC, dB, dIxV, slL, dSlScr, dCat, dLst, dCons, dNil, dPart, dNoPart, dIxL, dIxS, dAsg, dgName, dSeq, dIfS, dSetI, dTest, dInt1, cS, cD, cNil, dNext, tyD, kb_ss, kb_bb, sh_int, sh_bool, ev_ii, ev_bb, endsOf, endsNew, dAnd, dOr, dNot, cps_a, cps_z, lt_one', le_one', cps_one, at0, at1, ix20, ix21]
  refine ⟨nat_le_size (by show 1 ≤ 16777216; decide), ?_⟩
  have e1 : ((Str.mk #[c]).length : Int) = 1 := rfl
  rw [if_pos e1]
  unfold small at hR
  by_cases h1 : 97 ≤ c
  · rw [if_pos h1]
    rw [decide_eq_true h1, Bool.true_and] at hR
    have e2 : (!decide (122 < c)) = decide (c ≤ 122) := by
      by_cases h2 : c ≤ 122
      · rw [decide_eq_true h2, decide_eq_false (by omega)]
        rfl
      · rw [decide_eq_false h2, decide_eq_true (by omega)]
        rfl
    rw [e2]
    exact ⟨[], hR, outs0⟩
  · rw [if_neg h1]
    rw [decide_eq_false h1, Bool.false_and] at hR
    exact ⟨[], hR, outs0⟩
theorem ok_is_within {f : Addr} {fd : FuncData} (F : Fun K "is_within" "is_within" s_is_within f fd) (g_LEAVES_MOST : ∃ tk, mg "LEAVES_MOST" = some (.int 11 tk)) (g_PARTS_MOST : ∃ tk, mg "PARTS_MOST" = some (.int 40 tk)) (g_DEEP_MOST : ∃ tk, mg "DEEP_MOST" = some (.int 12 tk)) :
    FnOkG P w K mg base CX0 1 f fd ["leaves", "parts", "deep"] (spD K S_within) := by
  refine fnD F sc_is_within (fun as R h => by obtain ⟨_, _, _, rfl, _⟩ := h; rfl) fun cdv A outer s H E hr => ?_
  refine ⟨_, _, (dss_one (ds_ret (de_and (de_cmp op_le ro_B (nomark _) (de_var 0) (de_gint rfl g_LEAVES_MOST)) (de_and (de_cmp op_le ro_B (nomark _) (de_var 1) (de_gint rfl g_PARTS_MOST)) (de_one (de_cmp op_le ro_B (nomark _) (de_var 2) (de_gint rfl g_DEEP_MOST))))))), ?_⟩
  rintro as R ⟨a, b, c, rfl, hR⟩
  by_cases h1 : a ≤ 11
  · by_cases h2 : b ≤ 40
    · simp [dRet, dAndV, dOp, dVar, dC, dB, endsOf, h1, h2]
      simp [h1, h2] at hR
      exact ⟨[], hR, outs0⟩
    · simp [dRet, dAndV, dOp, dVar, dC, dB, endsOf, h1, h2]
      simp [h1, h2] at hR
      exact ⟨[], hR, outs0⟩
  · simp [dRet, dAndV, dOp, dVar, dC, dB, endsOf, h1]
    simp [h1] at hR
    exact ⟨[], hR, outs0⟩
end
end K63

set_option Elab.async false
set_option linter.all false
set_option maxRecDepth 100000
set_option maxHeartbeats 4000000
namespace K63
open PySem PySem.Spec L2 TL
theorem dg_tupI {X : Cx} {K : PySem.W.Frag} {es : List Expr} {pos : Pos} {gs : TGs} {ugs : DTGs} {js : List Nat} {k n : Nat} (hc : X.calm = true) (h : DGs X es gs ugs js) (hK : X.K = K := by rfl) (hn : (assignEach es X.env).length = n := by rfl) (hst : (assignEach es X.env).findIdx? (·.1) = none := by rfl) : DG X (.Tuple es k pos) (gTup K n gs) (dgTup n ugs) js := by
  subst hK
  exact dg_tup hc h hn hst
def isStr : PyData → Bool
  | .str _ => true
  | _ => false
def isTup : PyData → Bool
  | .tuple _ => true
  | _ => false
theorem kb_str : ∀ d : PyData, kitB (tyD d) "str" = some (isStr d)
  | .none => by show kitB "NoneType" "str" = some false; decide +kernel
  | .bool _ => by show kitB "bool" "str" = some false; decide +kernel
  | .int _ => by show kitB "int" "str" = some false; decide +kernel
  | .str _ => by show kitB "str" "str" = some true; decide +kernel
  | .list _ => by show kitB "list" "str" = some false; decide +kernel
  | .tuple _ => by show kitB "tuple" "str" = some false; decide +kernel
  | .dict _ => by show kitB "dict" "str" = some false; decide +kernel
theorem kb_tup : ∀ d : PyData, kitB (tyD d) "tuple" = some (isTup d)
  | .none => by show kitB "NoneType" "tuple" = some false; decide +kernel
  | .bool _ => by show kitB "bool" "tuple" = some false; decide +kernel
  | .int _ => by show kitB "int" "tuple" = some false; decide +kernel
  | .str _ => by show kitB "str" "tuple" = some false; decide +kernel
  | .list _ => by show kitB "list" "tuple" = some false; decide +kernel
  | .tuple _ => by show kitB "tuple" "tuple" = some true; decide +kernel
  | .dict _ => by show kitB "dict" "tuple" = some false; decide +kernel
theorem isStr_of {d : PyData} (h : isStr d = true) : ∃ z, d = .str z := by
  cases d <;> first
    | (cases h; done)
    | exact ⟨_, rfl⟩
theorem lettersB_no {d : PyData} (h : isStr d = false) : lettersB d = false := by
  cases d <;> first
    | (cases h; done)
    | rfl
theorem cutS1 (z : Str) (h : 1 ≤ z.length) : (cutS z (some 1) none).cps.toList = z.cps.toList.drop 1 := by
  have e : z.cps.toList.length = z.length := by rw [Array.length_toList]; rfl
  have q := HT.sIx_nat z.length 0 1
  unfold cutS
  rw [show ((1 : Nat) : Int) = 1 from rfl] at q
  rw [q, show HT.sIx z.length z.length none = z.length from rfl]
  rw [List.toList_toArray, show min 1 z.length = 1 by omega]
  exact List.take_of_length_le (by rw [List.length_drop]; omega)
section
variable {P : Program} {w : World} {K : PySem.W.Frag} {mg : Str → Option Value} {base : Heap}
variable (m_len : mg "len" = none) (m_isinstance : mg "isinstance" = none) (m_str : mg "str" = none) (m_bool : mg "bool" = none) (m_range : mg "range" = none) (m_int : mg "int" = none) (m_max : mg "max" = none) (m_min : mg "min" = none)
  (m_sum : mg "sum" = none) (m_sorted : mg "sorted" = none) (m_set : mg "set" = none) (m_tuple : mg "tuple" = none) (m_all : mg "all" = none) (m_zip : mg "zip" = none)
include m_len m_isinstance m_str m_bool m_range m_int m_max m_min m_sum m_sorted m_set m_tuple m_all m_zip
theorem ok_are_letters {f : Addr} {fd : FuncData} (F : Fun K "are_letters" "are_letters" s_are_letters f fd) (g_LETTERS_MOST : ∃ tk, mg "LETTERS_MOST" = some (.int 8 tk)) (k_is_sign : Kn P w K mg base 1 "is_sign" S_is_sign) : FnOkG P w K mg base CX0 2 f fd ["thing"] (spD K S_let) := by
  refine fnD F sc_are_letters (fun as R h => by obtain ⟨_, rfl, _⟩ := h; rfl) fun cdv A outer s H E hr => ?_
  have nd := sc_are_letters.nd
  have hu := hr.units
  have hu1 := hr.units1
  refine ⟨_, _, (dss_cons (ds_if (dt_w (dw_or (dt_not (dt_val (de_isi (T := "str") m_isinstance m_str (by decide +kernel) (de_var 0)))) (dw_or1 (dt_not (dt_chain op_le ro_B op_le ro_B de_int (de_len (ps := default) m_len (de_var 0)) (de_gint rfl g_LETTERS_MOST)))))) (dss_one (ds_ret de_bl)) dss_nil)
    (dss_cons (ds_set 1 nd (de_all1 m_all (de_lc [("letter", 2)] rfl nd (di_str (de_var 0)) (blkOk_by (N := ["thing", "signs", "letter", "ahead"]) (sc := defScope s_are_letters) (by decide +kernel)) (fun _ _ _ _ _ => (dg_name 2 nd)) (fun _ _ _ _ _ => dts_nil) (fun _ _ _ _ _ => (de_callI k_is_sign hr (by omega) (dca_d (de_var 2) dca_nil))) (by decide))))
    (dss_one (ds_ret (de_and (de_var 1) (de_one (de_all1 m_all (de_lc [("ahead", 3), ("letter", 2)] rfl nd (di_zipS m_zip (de_var 0) (de_sl sl_str rsl_str (de_var 0) (do_some de_int) do_none)) (blkOk_by (N := ["thing", "signs", "letter", "ahead"]) (sc := defScope s_are_letters) (by decide +kernel)) (fun _ _ _ _ _ => (dg_tupI (n := 2) rfl (dgs_cons (dg_name 3 nd) (dgs_cons (dg_name 2 nd) dgs_nil)))) (fun _ _ _ _ _ => dts_nil) (fun _ _ _ _ _ => (de_cmp op_lt_str ro_S (nomark _) (de_var 3) (de_var 2))) (by decide))))))))), ?_⟩
  rintro as R ⟨d, rfl, hg, hR⟩
  generalize hb : dSeq (dAsg _ (dgName 1)) _ = B
  dsimp only [dSeq, dIfS, dOr, dNot, dTest, dIsi]
  refine var_at (d := d) rfl ?_
  rw [kb_str]
  show if (!isStr d) = true then _ else _
  cases hs : isStr d with
  | false =>
    rw [lettersB_no hs] at hR
    exact ⟨[], hR, outs0⟩
  | true =>
    obtain ⟨z, rfl⟩ := isStr_of hs
    have zl := okS_len hg
    have hzl : z.cps.toList.length = z.length := by rw [Array.length_toList]; rfl
    have hR : R (.bool (goodL z)) [] := hR
    unfold goodL at hR
    show z.length ≤ sizeLine ∧ _
    refine ⟨nat_le_size (by omega), ?_⟩
    show if (decide ((1 : Int) ≤ (z.length : Nat))) = true then _ else _
    by_cases h1 : 1 ≤ z.length
    · rw [if_pos (decide_eq_true (by omega))]
      show if (!decide (((z.length : Nat) : Int) ≤ 8)) = true then _ else _
      by_cases h8 : z.length ≤ 8
      · rw [if_neg (by rw [decide_eq_true (by omega)]; decide)]
        rw [decide_eq_true h1, decide_eq_true h8] at hR
        subst hb
        have e1 : (z.cps.toList.map fun c => PyData.str ⟨#[c]⟩) = (z.cps.toList.map fun c => (PyData.str ⟨#[c]⟩, PyData.bool (small c))).map (·.1) := by
          rw [List.map_map]
          rfl
        dsimp only [dSeq, dAsg, dBools, dLc, diS, dNext]
        refine var_at (d := .str z) rfl ?_
        show lcW [2] (dgName 2) dYes (dCall S_is_sign (cD (dVar 2) cNil)) _ (z.cps.toList.map fun c => PyData.str ⟨#[c]⟩) [] _
        rw [e1]
        refine lc_calls mono_is_sign (δ0 := [.dat (.str z), .no, .no, .no]) rfl (by show 2 < 4; decide) _ [] _ rfl ?_ ?_ ?_
        · rw [List.length_map]
          show 0 + _ ≤ _
          omega
        · intro q hq R' h
          obtain ⟨c, hc, rfl⟩ := List.mem_map.mp hq
          exact ⟨c, rfl, h⟩
        · intro δ' h
          have hδ : ∃ x, δ' = [.dat (.str z), .no, x, .no] := by
            rcases δ' with _ | ⟨a, _ | ⟨b, _ | ⟨c, _ | ⟨e, _ | ⟨e2, r⟩⟩⟩⟩⟩ <;> simp [wipeS] at h
            obtain ⟨rfl, rfl, rfl⟩ := h
            exact ⟨c, rfl⟩
          obtain ⟨x, rfl⟩ := hδ
          have e2 : ((z.cps.toList.map fun c => (PyData.str ⟨#[c]⟩, PyData.bool (small c))).map (·.2)) = (z.cps.toList.map small).map PyData.bool := by
            rw [List.map_map, List.map_map]
            rfl
          rw [e2, List.nil_append]
          show (match boolsOf ((z.cps.toList.map small).map PyData.bool) with
            | some bs => _
            | none => False)
          rw [boolsOf_map]
          have e3 : (z.cps.toList.map small).all id = z.cps.toList.all small := by rw [List.all_map]; rfl
          show dRet _ _ [.dat (.str z), .dat (.bool ((z.cps.toList.map small).all id)), x, .no]
          rw [e3]
          dsimp only [dRet, dAndV]
          refine var_at (d := .bool (z.cps.toList.all small)) rfl ?_
          show if z.cps.toList.all small = true then _ else _
          cases hsm : z.cps.toList.all small with
          | false =>
            rw [if_neg (by decide)]
            rw [hsm] at hR
            exact ⟨[], hR, outs0⟩
          | true =>
            rw [if_pos rfl]
            rw [hsm] at hR
            dsimp only [dBools, dLc, diZS]
            refine var_at (d := .str z) rfl ?_
            show z.length ≤ sizeLine ∧ lcW [3, 2] _ dYes _ _ (zipS z (cutS z (some 1) none)) [] _
            refine ⟨nat_le_size (by omega), ?_⟩
            have e4 : zipS z (cutS z (some 1) none) = (z.cps.toList.zip (z.cps.toList.drop 1)).map fun p => .tuple [.str ⟨#[p.1]⟩, .str ⟨#[p.2]⟩] := by
              unfold zipS
              rw [cutS1 z h1]
            rw [e4]
            refine lc_fm (fun _ => true) (fun d => match d with
              | .tuple [.str a, .str b] => .bool (decide (a.cps.toList < b.cps.toList))
              | _ => .none) (δ0 := [.dat (.str z), .dat (.bool true), .no, .no]) _ _ _ rfl ?_ ?_ rfl ?_
            · rw [List.length_map, List.length_zip]
              show 0 + _ ≤ _
              omega
            · intro d hd Y N hy hn
              obtain ⟨p, hp, rfl⟩ := List.mem_map.mp hd
              exact ⟨rfl, hy rfl _ rfl⟩
            · intro δ' h'
              have e5 : ((((z.cps.toList.zip (z.cps.toList.drop 1)).map fun p => PyData.tuple [.str ⟨#[p.1]⟩, .str ⟨#[p.2]⟩]).filter (fun _ => true)).map fun d => match d with
                  | .tuple [.str a, .str b] => PyData.bool (decide (a.cps.toList < b.cps.toList))
                  | _ => .none) = (steps z.cps.toList).map PyData.bool := by
                unfold steps
                rw [List.filter_eq_self.mpr fun _ _ => rfl, List.map_map, List.map_map]
                refine List.map_congr_left fun p hp => ?_
                show PyData.bool (decide (([p.1] : List Nat) < [p.2])) = PyData.bool (decide (p.1 < p.2))
                simp only [lt_one']
              rw [e5, List.nil_append]
              show (match boolsOf ((steps z.cps.toList).map PyData.bool) with
                | some bs => _
                | none => False)
              rw [boolsOf_map]
              refine ⟨[], ?_, outs0⟩
              rw [steps_rising]
              exact hR
      · rw [if_pos (by rw [decide_eq_false (by omega)]; rfl)]
        rw [decide_eq_false h8, Bool.and_false] at hR
        exact ⟨[], hR, outs0⟩
    · rw [if_neg (by rw [decide_eq_false (by omega)]; decide)]
      rw [decide_eq_false h1] at hR
      exact ⟨[], hR, outs0⟩
theorem ok_law_are_letters {f : Addr} {fd : FuncData} (F : Fun K "_law_are_letters" "_law_are_letters" s_law_are_letters f fd) : FnOkG P w K mg base CX0 1 f fd ["_law_thing"] (spD K S_let) := by
  refine fnD F sc_law_are_letters (fun as R h => by obtain ⟨_, rfl, _⟩ := h; rfl) fun cdv A outer s H E hr => ?_
  have nd := sc_law_are_letters.nd
  have hu := hr.units
  have hu1 := hr.units1
  refine ⟨_, _, (dss_cons (ds_if (dt_w (dw_or (dt_not (dt_val (de_isi (T := "str") m_isinstance m_str (by decide +kernel) (de_var 0)))) (dw_or (dt_cmp op_lt ro_B (nomark _) (de_len (ps := default) m_len (de_var 0)) de_int) (dw_or1 (dt_cmp op_gt ro_B (nomark _) (de_len (ps := default) m_len (de_var 0)) de_int))))) (dss_one (ds_ret de_bl)) dss_nil)
    (dss_cons (ds_setLc 1 [("_law_sign", 2)] rfl nd (di_str (de_var 0)) (blkOk_by (N := ["_law_thing", "_law_places", "_law_sign"]) (sc := defScope s_law_are_letters) (by decide +kernel)) (fun _ _ _ _ _ => (dg_name 2 nd)) (fun _ _ _ _ _ => dts_nil) (fun _ _ _ _ _ => (de_m_find de_str (de_var 2))) (by decide) (sw_true rfl rfl rfl (by decide +kernel)))
    (dss_one (ds_ret (de_and (de_cmp (op_notInD hu1) ro_notIn rfl (de_un un_neg r1_neg de_int) (de_var 1)) (de_one (de_cmp (op_eqD hu) ro_eq (nomark _) (de_var 1) (de_sortSet m_sorted m_set (de_var 1))))))))), ?_⟩
  rintro as R ⟨d, rfl, hg, hR⟩
  generalize hb : dSeq (dAsg _ (dgName 1)) _ = B
  dsimp only [dSeq, dIfS, dOr, dNot, dTest, dIsi]
  refine var_at (d := d) rfl ?_
  rw [kb_str]
  show if (!isStr d) = true then _ else _
  cases hs : isStr d with
  | false =>
    rw [lettersB_no hs] at hR
    exact ⟨[], hR, outs0⟩
  | true =>
    obtain ⟨z, rfl⟩ := isStr_of hs
    have zl := okS_len hg
    have hzl : z.cps.toList.length = z.length := by rw [Array.length_toList]; rfl
    have hR : R (.bool (goodL z)) [] := hR
    unfold goodL at hR
    show z.length ≤ sizeLine ∧ if decide (((z.length : Nat) : Int) < 1) = true then _ else _
    refine ⟨nat_le_size (by omega), ?_⟩
    by_cases h1 : 1 ≤ z.length
    · rw [if_neg (by rw [decide_eq_false (by omega)]; decide)]
      show z.length ≤ sizeLine ∧ if decide (((z.length : Nat) : Int) > 8) = true then _ else _
      refine ⟨nat_le_size (by omega), ?_⟩
      by_cases h8 : z.length ≤ 8
      · rw [if_neg (by rw [decide_eq_false (by omega)]; decide)]
        rw [decide_eq_true h1, decide_eq_true h8] at hR
        subst hb
        dsimp only [dSeq, dAsg, dgName, dLc, diS, dNext]
        refine var_at (d := .str z) rfl ?_
        show lcW [2] (dgName 2) dYes _ _ (z.cps.toList.map fun c => PyData.str ⟨#[c]⟩) [] _
        refine lc_fm (fun _ => true) (fun d => match d with
            | .str x => .int (Txt.find abc x)
            | _ => .none) (δ0 := [.dat (.str z), .no, .no]) _ _ _ rfl ?_ ?_ rfl ?_
        · show 0 + (z.cps.toList.map _).length ≤ _
          rw [List.length_map]
          omega
        · intro d hd Y N hy hn
          obtain ⟨c, hc, rfl⟩ := List.mem_map.mp hd
          exact hy rfl _ rfl
        · intro δ' h'
          have hδ : ∃ x, δ' = [.dat (.str z), .no, x] := by
            rcases δ' with _ | ⟨a, _ | ⟨b, _ | ⟨c, _ | ⟨e, r⟩⟩⟩⟩ <;> simp [wipeS] at h'
            obtain ⟨rfl, rfl⟩ := h'
            exact ⟨c, rfl⟩
          obtain ⟨x, rfl⟩ := hδ
          have el : ((z.cps.toList.map fun c => PyData.str ⟨#[c]⟩).filter (fun _ => true)).map (fun d => match d with
              | .str x => PyData.int (Txt.find abc x)
              | _ => .none) = (z.cps.toList.map fun (c : Nat) => Txt.find abc ⟨#[c]⟩).map PyData.int := by
            rw [List.filter_eq_self.mpr fun _ _ => rfl, List.map_map, List.map_map]
            refine List.map_congr_left fun c hc => ?_
            rfl
          rw [el, List.nil_append]
          have lns : (z.cps.toList.map fun (c : Nat) => Txt.find abc ⟨#[c]⟩).length ≤ 8 := by
            rw [List.length_map]
            omega
          have low : ∀ c ∈ z.cps.toList, c < 128 := fun c hc => by
            have hg : okS z = true := hg
            unfold okS at hg
            rw [Bool.and_eq_true] at hg
            exact of_decide_eq_true (List.all_eq_true.mp hg.2 c hc)
          show SeqAt.shaped (.int (-1)) = true ∧ SeqAt.shaped (.list ((z.cps.toList.map fun (c : Nat) => Txt.find abc ⟨#[c]⟩).map PyData.int)) = true ∧ _
          refine ⟨rfl, sh_ints _, ?_⟩
          cases hsm : z.cps.toList.all small with
          | false =>
            have ha : ((z.cps.toList.map fun (c : Nat) => Txt.find abc ⟨#[c]⟩).map PyData.int).any (fun q => PyData.eqv q (.int (-1))) = true := by
              rw [List.all_eq_false] at hsm
              obtain ⟨c, hc, hn⟩ := hsm
              have hn : small c = false := by simpa using hn
              refine List.any_eq_true.mpr ⟨.int (Txt.find abc ⟨#[c]⟩), List.mem_map.mpr ⟨_, List.mem_map.mpr ⟨c, hc, rfl⟩, rfl⟩, ?_⟩
              rw [find_no c (List.mem_range.mpr (low c hc)) hn, ev_ii]
              rfl
            rw [ha]
            rw [hsm] at hR
            exact ⟨[], hR, outs0⟩
          | true =>
            have eq : (z.cps.toList.map fun (c : Nat) => Txt.find abc ⟨#[c]⟩) = z.cps.toList.map fun (c : Nat) => (c : Int) - 97 :=
              List.map_congr_left fun c hc => find_small (List.all_eq_true.mp hsm c hc)
            rw [eq] at lns ⊢
            rw [hsm] at hR
            have n1 : ((z.cps.toList.map fun (c : Nat) => (c : Int) - 97).map PyData.int).any (fun q => PyData.eqv q (.int (-1))) = false := by
              rw [List.any_eq_false]
              intro q hq
              obtain ⟨i, hi, rfl⟩ := List.mem_map.mp hq
              obtain ⟨c, hc, rfl⟩ := List.mem_map.mp hi
              have hs := List.all_eq_true.mp hsm c hc
              unfold small at hs
              rw [Bool.and_eq_true, decide_eq_true_iff, decide_eq_true_iff] at hs
              rw [ev_ii, beq_iff_eq]
              omega
            have pw : rising z.cps.toList = true ↔ (z.cps.toList.map fun (c : Nat) => (c : Int) - 97).Pairwise (· < ·) := by
              rw [List.pairwise_map]
              exact ⟨fun h => (rising_pw h).imp fun {a b} hab => by omega, fun h => pw_rising (h.imp fun {a b} hab => by omega)⟩
            generalize (z.cps.toList.map fun (c : Nat) => (c : Int) - 97) = ns at pw n1 lns ⊢
            rw [n1]
            show (match intsOf (ns.map PyData.int) with
              | some ns => _
              | none => False)
            rw [intsOf_map]
            refine ⟨by omega, fun ms hms hmem => ?_⟩
            refine ⟨sh_ints _, sh_ints _, [], ?_, outs0⟩
            have ee : PyData.eqv (.list (ns.map PyData.int)) (.list (ms.map PyData.int)) = rising z.cps.toList := by
              simp only [PyData.eqv, eqv_intsB]
              cases hr : rising z.cps.toList with
              | true => exact decide_eq_true (rise_eq (pw.mp hr) hms fun k => (hmem k).symm)
              | false =>
                refine decide_eq_false fun e => ?_
                rw [pw.mpr (e ▸ hms)] at hr
                cases hr
            rw [ee]
            exact hR
      · rw [if_pos (by rw [decide_eq_true (by omega)])]
        rw [decide_eq_false h8, Bool.and_false] at hR
        exact ⟨[], hR, outs0⟩
    · rw [if_pos (by rw [decide_eq_true (by omega)])]
      rw [decide_eq_false h1] at hR
      exact ⟨[], hR, outs0⟩
end
end K63

set_option Elab.async false
set_option linter.all false
set_option maxRecDepth 100000
set_option maxHeartbeats 4000000
namespace K63
open PySem PySem.Spec L2 TL
/-! ### what a thing is read to -/
def rds (f : PyData → Option Pt) : List PyData → Option (List Pt)
  | [] => some []
  | d :: r => match f d with
    | some p => (match rds f r with
      | some ps => some (p :: ps)
      | none => none)
    | none => none
def mk (k : Str) (ps : List Pt) : Option Pt :=
  if (k == Str.ofString "none") = true then (match ps with
    | [] => some .non
    | _ => none)
  else if (k == Str.ofString "again") = true then (match ps with
    | [p] => some (.again p)
    | _ => none)
  else if (k == Str.ofString "then") = true then (match ps with
    | [p, q] => some (.two false p q)
    | _ => none)
  else if (k == Str.ofString "or") = true then (match ps with
    | [p, q] => some (.two true p q)
    | _ => none)
  else none
def sgnOf : List PyData → Option Pt
  | [.str z] => if goodL z = true then some (.sgn z) else none
  | _ => none
/-- the pattern that a thing of at most that depth is -/
def rd : Nat → PyData → Option Pt
  | 0, _ => none
  | n + 1, .tuple (.str k :: r) => if (k == Str.ofString "sign") = true then sgnOf r else (match rds (rd n) r with
    | some ps => mk k ps
    | none => none)
  | _ + 1, _ => none
theorem rds_some (f : PyData → Option Pt) : ∀ r : List PyData, (rds f r).isSome = r.all fun d => (f d).isSome
  | [] => rfl
  | d :: r => by
    have ih := rds_some f r
    show (match f d with
      | some p => (match rds f r with
        | some ps => some (p :: ps)
        | none => none)
      | none => none).isSome = ((f d).isSome && r.all fun d => (f d).isSome)
    rw [← ih]
    cases f d with
    | none => rfl
    | some p =>
      cases rds f r with
      | none => rfl
      | some ps => rfl
theorem rds_len {f : PyData → Option Pt} : ∀ {r : List PyData} {ps : List Pt}, rds f r = some ps → r.length = ps.length ∧ r.map f = ps.map some
  | [], ps, h => by
    cases h
    exact ⟨rfl, rfl⟩
  | d :: r, ps, h => by
    have h : (match f d with
      | some p => (match rds f r with
        | some ps => some (p :: ps)
        | none => none)
      | none => none) = some ps := h
    cases e : f d with
    | none =>
      rw [e] at h
      cases h
    | some p =>
      rw [e] at h
      cases e2 : rds f r with
      | none =>
        rw [e2] at h
        cases h
      | some qs =>
        rw [e2] at h
        cases h
        obtain ⟨h1, h2⟩ := rds_len e2
        exact ⟨by rw [List.length_cons, List.length_cons, h1], by rw [List.map_cons, List.map_cons, h2, e]⟩
theorem rds_of {f : PyData → Option Pt} : ∀ {ps : List Pt}, (∀ p ∈ ps, f p.d = some p) → rds f (ps.map Pt.d) = some ps
  | [], _ => rfl
  | p :: ps, h => by
    show (match f p.d with
      | some p => (match rds f (ps.map Pt.d) with
        | some ps => some (p :: ps)
        | none => none)
      | none => none) = _
    rw [h p List.mem_cons_self, rds_of fun q hq => h q (List.mem_cons_of_mem _ hq)]
theorem rds_map {f : PyData → Option Pt} : ∀ {r : List PyData} {ps : List Pt}, rds f r = some ps → (∀ d p, d ∈ r → f d = some p → d = p.d) → r = ps.map Pt.d
  | [], ps, h, _ => by
    cases h
    rfl
  | d :: r, ps, h, hf => by
    have h : (match f d with
      | some p => (match rds f r with
        | some ps => some (p :: ps)
        | none => none)
      | none => none) = some ps := h
    cases e : f d with
    | none =>
      rw [e] at h
      cases h
    | some p =>
      rw [e] at h
      cases e2 : rds f r with
      | none =>
        rw [e2] at h
        cases h
      | some qs =>
        rw [e2] at h
        cases h
        rw [List.map_cons, ← rds_map e2 fun d p hd => hf d p (List.mem_cons_of_mem _ hd), ← hf d p List.mem_cons_self e]
theorem rds_all {f : PyData → Option Pt} {Q : Pt → Prop} : ∀ {r : List PyData} {ps : List Pt}, rds f r = some ps → (∀ d p, f d = some p → Q p) → ∀ p ∈ ps, Q p
  | [], ps, h, _, p, hp => by
    cases h
    cases hp
  | d :: r, ps, h, hf, p, hp => by
    have h : (match f d with
      | some p => (match rds f r with
        | some ps => some (p :: ps)
        | none => none)
      | none => none) = some ps := h
    cases e : f d with
    | none =>
      rw [e] at h
      cases h
    | some p0 =>
      rw [e] at h
      cases e2 : rds f r with
      | none =>
        rw [e2] at h
        cases h
      | some qs =>
        rw [e2] at h
        cases h
        rcases List.mem_cons.mp hp with e3 | hp
        · rw [e3]
          exact hf d p0 e
        · exact rds_all e2 hf p hp
/-- what was put together -/
theorem mk_some {k : Str} {ps : List Pt} {p : Pt} (h : mk k ps = some p) : p.isS = false ∧ p.kids = ps ∧ p.d = .tuple (.str k :: ps.map Pt.d) ∧ ((k == Str.ofString "none") = false → 0 < ps.length) := by
  unfold mk at h
  split at h
  · rename_i e
    have e := eq_of_beq e
    subst e
    split at h
    · cases h
      exact ⟨rfl, rfl, rfl, fun z => by rw [t_nn] at z; cases z⟩
    · cases h
  · split at h
    · rename_i e
      have e := eq_of_beq e
      subst e
      split at h
      · cases h
        exact ⟨rfl, rfl, rfl, fun _ => Nat.one_pos⟩
      · cases h
    · split at h
      · rename_i e
        have e := eq_of_beq e
        subst e
        split at h
        · cases h
          exact ⟨rfl, rfl, rfl, fun _ => Nat.succ_pos _⟩
        · cases h
      · split at h
        · rename_i e
          have e := eq_of_beq e
          subst e
          split at h
          · cases h
            exact ⟨rfl, rfl, rfl, fun _ => Nat.succ_pos _⟩
          · cases h
        · cases h
theorem Pt.good_of : ∀ {p : Pt}, p.isS = false → (∀ k ∈ p.kids, k.good = true) → p.good = true
  | .non, _, _ => rfl
  | .again p, _, h => h p List.mem_cons_self
  | .two _ p q, _, h => by
    show (p.good && q.good) = true
    rw [h p List.mem_cons_self, h q (List.mem_cons_of_mem _ List.mem_cons_self)]
    rfl
theorem Pt.deep_of : ∀ {p : Pt} {n : Nat}, p.isS = false → (∀ k ∈ p.kids, k.deep ≤ n) → p.deep ≤ n + 1
  | .non, n, _, _ => by show 1 ≤ n + 1; omega
  | .again p, n, _, h => Nat.succ_le_succ (h p List.mem_cons_self)
  | .two _ p q, n, _, h => by
    have h1 := h p List.mem_cons_self
    have h2 := h q (List.mem_cons_of_mem _ List.mem_cons_self)
    show max p.deep q.deep + 1 ≤ n + 1
    omega
theorem rd_sound : ∀ (n : Nat) (d : PyData) (p : Pt), rd n d = some p → p.good = true ∧ d = p.d ∧ p.deep ≤ n
  | 0, _, _, h => by cases h
  | n + 1, .tuple (.str k :: r), p, h => by
    have h : (if (k == Str.ofString "sign") = true then sgnOf r else (match rds (rd n) r with
      | some ps => mk k ps
      | none => none)) = some p := h
    by_cases e : (k == Str.ofString "sign") = true
    · rw [if_pos e] at h
      have e := eq_of_beq e
      subst e
      rcases r with _ | ⟨x, _ | ⟨y, r⟩⟩
      · cases h
      · cases x with
        | str z =>
          have h2 : (if goodL z = true then some (Pt.sgn z) else none) = some p := h
          cases hz : goodL z with
          | false =>
            rw [hz] at h2
            cases h2
          | true =>
            rw [hz] at h2
            cases h2
            exact ⟨hz, rfl, Nat.succ_le_succ (Nat.zero_le _)⟩
        | none => cases h
        | bool _ => cases h
        | int _ => cases h
        | list _ => cases h
        | tuple _ => cases h
        | dict _ => cases h
      · cases x <;> cases h
    · rw [if_neg e] at h
      cases e : rds (rd n) r with
      | none =>
        rw [e] at h
        cases h
      | some ps =>
        rw [e] at h
        obtain ⟨h1, h2, h3, _⟩ := mk_some h
        have g := rds_all (Q := fun p => p.good = true ∧ p.deep ≤ n) e fun d p hd => ⟨(rd_sound n d p hd).1, (rd_sound n d p hd).2.2⟩
        have er := rds_map e fun d p _ hd => (rd_sound n d p hd).2.1
        refine ⟨Pt.good_of h1 fun k hk => (g k (h2 ▸ hk)).1, ?_, Pt.deep_of h1 fun k hk => (g k (h2 ▸ hk)).2⟩
        rw [h3, er]
  | n + 1, .tuple [], _, h => by cases h
  | n + 1, .tuple (.none :: _), _, h => by cases h
  | n + 1, .tuple (.bool _ :: _), _, h => by cases h
  | n + 1, .tuple (.int _ :: _), _, h => by cases h
  | n + 1, .tuple (.list _ :: _), _, h => by cases h
  | n + 1, .tuple (.tuple _ :: _), _, h => by cases h
  | n + 1, .tuple (.dict _ :: _), _, h => by cases h
  | n + 1, .none, _, h => by cases h
  | n + 1, .bool _, _, h => by cases h
  | n + 1, .int _, _, h => by cases h
  | n + 1, .str _, _, h => by cases h
  | n + 1, .list _, _, h => by cases h
  | n + 1, .dict _, _, h => by cases h
theorem rd_complete : ∀ (n : Nat) (p : Pt), p.good = true → p.deep ≤ n → rd n p.d = some p
  | 0, p, _, h => absurd p.deep_pos (by omega)
  | n + 1, .sgn z, hg, _ => by
    show (if (Str.ofString "sign" == Str.ofString "sign") = true then sgnOf [.str z] else _) = _
    rw [if_pos t_ss]
    show (if goodL z = true then some (Pt.sgn z) else none) = _
    exact if_pos hg
  | n + 1, .non, hg, _ => by
    show (if (Str.ofString "none" == Str.ofString "sign") = true then _ else mk (Str.ofString "none") []) = _
    rw [if_neg (by rw [t_ns]; decide)]
    unfold mk
    rw [if_pos t_nn]
  | n + 1, .again p, hg, hd => by
    have e := rds_of (f := rd n) (ps := [p]) fun q hq => by
      rw [List.mem_singleton.mp hq]
      exact rd_complete n p hg (Nat.le_of_succ_le_succ hd)
    show (if (Str.ofString "again" == Str.ofString "sign") = true then _ else (match rds (rd n) [p.d] with
      | some ps => mk (Str.ofString "again") ps
      | none => none)) = _
    rw [if_neg (by rw [t_as]; decide)]
    have e : rds (rd n) [p.d] = some [p] := e
    rw [e]
    show mk (Str.ofString "again") [p] = _
    unfold mk
    rw [if_neg (by rw [t_an]; decide), if_pos t_aa]
  | n + 1, .two false p q, hg, hd => by
    have hg : (p.good && q.good) = true := hg
    have hd : max p.deep q.deep + 1 ≤ n + 1 := hd
    rw [Bool.and_eq_true] at hg
    have e := rds_of (f := rd n) (ps := [p, q]) fun x hx => by
      rcases List.mem_cons.mp hx with e | hx
      · rw [e]
        exact rd_complete n p hg.1 (by omega)
      · rw [List.mem_singleton.mp hx]
        exact rd_complete n q hg.2 (by omega)
    have e : rds (rd n) [p.d, q.d] = some [p, q] := e
    show (if (Str.ofString "then" == Str.ofString "sign") = true then _ else (match rds (rd n) [p.d, q.d] with
      | some ps => mk (Str.ofString "then") ps
      | none => none)) = _
    rw [if_neg (by rw [t_ts]; decide), e]
    show mk (Str.ofString "then") [p, q] = _
    unfold mk
    rw [if_neg (by rw [t_tn]; decide), if_neg (by rw [t_ta]; decide), if_pos t_tt]
  | n + 1, .two true p q, hg, hd => by
    have hg : (p.good && q.good) = true := hg
    have hd : max p.deep q.deep + 1 ≤ n + 1 := hd
    rw [Bool.and_eq_true] at hg
    have e := rds_of (f := rd n) (ps := [p, q]) fun x hx => by
      rcases List.mem_cons.mp hx with e | hx
      · rw [e]
        exact rd_complete n p hg.1 (by omega)
      · rw [List.mem_singleton.mp hx]
        exact rd_complete n q hg.2 (by omega)
    have e : rds (rd n) [p.d, q.d] = some [p, q] := e
    show (if (Str.ofString "or" == Str.ofString "sign") = true then _ else (match rds (rd n) [p.d, q.d] with
      | some ps => mk (Str.ofString "or") ps
      | none => none)) = _
    rw [if_neg (by rw [t_os]; decide), e]
    show mk (Str.ofString "or") [p, q] = _
    unfold mk
    rw [if_neg (by rw [t_on]; decide), if_neg (by rw [t_oa]; decide), if_neg (by rw [t_ot]; decide), if_pos t_oo]
/-- how many parts a name asks -/
def innerL : List (Str × Int) := [(Str.ofString "none", 0), (Str.ofString "then", 2), (Str.ofString "or", 2), (Str.ofString "again", 1)]
def innerD : Str → PyData := fun z => match innerL.find? (·.1 == z) with
  | some p => .int p.2
  | none => .none
theorem mk_len (k : Str) (ps : List Pt) : (mk k ps).isSome = (match innerL.find? (·.1 == k) with
    | some p => decide ((ps.length : Int) = p.2)
    | none => false) := by
  have sy : ∀ z : Str, (z == k) = (k == z) := fun z => by rw [Bool.eq_iff_iff, beq_iff_eq, beq_iff_eq]; exact eq_comm
  unfold mk innerL
  rw [List.find?_cons, List.find?_cons, List.find?_cons, List.find?_cons, List.find?_nil, sy, sy, sy, sy]
  cases h1 : (k == Str.ofString "none") with
  | true =>
    rw [if_pos rfl]
    rcases ps with _ | ⟨a, r⟩
    · rfl
    · show false = decide (((a :: r).length : Int) = 0)
      rw [decide_eq_false (by rw [List.length_cons]; omega)]
  | false =>
    rw [if_neg (by decide)]
    cases h2 : (k == Str.ofString "again") with
    | true =>
      have e := eq_of_beq h2
      subst e
      rw [if_pos rfl, t_at, t_ao]
      rcases ps with _ | ⟨a, _ | ⟨b, r⟩⟩
      · rfl
      · rfl
      · show false = decide (((a :: b :: r).length : Int) = 1)
        rw [decide_eq_false (by rw [List.length_cons, List.length_cons]; omega)]
    | false =>
      rw [if_neg (by decide)]
      cases h3 : (k == Str.ofString "then") with
      | true =>
        rw [if_pos rfl]
        rcases ps with _ | ⟨a, _ | ⟨b, _ | ⟨c, r⟩⟩⟩
        · rfl
        · rfl
        · rfl
        · show false = decide (((a :: b :: c :: r).length : Int) = 2)
          rw [decide_eq_false (by rw [List.length_cons, List.length_cons, List.length_cons]; omega)]
      | false =>
        rw [if_neg (by decide)]
        cases h4 : (k == Str.ofString "or") with
        | true =>
          rw [if_pos rfl]
          rcases ps with _ | ⟨a, _ | ⟨b, _ | ⟨c, r⟩⟩⟩
          · rfl
          · rfl
          · rfl
          · show false = decide (((a :: b :: c :: r).length : Int) = 2)
            rw [decide_eq_false (by rw [List.length_cons, List.length_cons, List.length_cons]; omega)]
        | false =>
          rw [if_neg (by decide)]
          rfl
theorem rd_form (n : Nat) {k : Str} {r : List PyData} (h : (k == Str.ofString "sign") = false) : (rd (n + 1) (.tuple (.str k :: r))).isSome = (match innerL.find? (·.1 == k) with
    | some p => decide ((r.length : Int) = p.2) && r.all fun d => (rd n d).isSome
    | none => false) := by
  show (if (k == Str.ofString "sign") = true then sgnOf r else (match rds (rd n) r with
    | some ps => mk k ps
    | none => none)).isSome = _
  rw [if_neg (by rw [h]; decide), ← rds_some]
  cases e : rds (rd n) r with
  | none =>
    show false = _
    cases innerL.find? (·.1 == k) with
    | none => rfl
    | some p => exact (Bool.and_false _).symm
  | some ps =>
    show (mk k ps).isSome = _
    rw [mk_len, (rds_len e).1]
    cases innerL.find? (·.1 == k) with
    | none => rfl
    | some p => exact (Bool.and_true _).symm
theorem rd_sign (n : Nat) (r : List PyData) : (rd (n + 1) (.tuple (.str (Str.ofString "sign") :: r))).isSome = (match r with
    | [x] => lettersB x
    | _ => false) := by
  show (if (Str.ofString "sign" == Str.ofString "sign") = true then sgnOf r else _).isSome = _
  rw [if_pos t_ss]
  rcases r with _ | ⟨x, _ | ⟨y, r⟩⟩
  · rfl
  · cases x <;> first
      | rfl
      | skip
    rename_i z
    show (if goodL z = true then some (Pt.sgn z) else none).isSome = goodL z
    cases goodL z <;> rfl
  · cases x <;> rfl
theorem cutT1 (a : PyData) (l : List PyData) : cutP (a :: l) (some 1) none = l := by
  have q := HT.sIx_nat (a :: l).length 0 1
  unfold cutP
  rw [show ((1 : Nat) : Int) = 1 from rfl] at q
  rw [q, show HT.sIx (a :: l).length (a :: l).length none = (a :: l).length from rfl, show min 1 (a :: l).length = 1 by rw [List.length_cons]; omega]
  exact List.take_of_length_le (by rw [List.drop_succ_cons, List.drop_zero, List.length_cons]; omega)
theorem cutT1_ne (a : PyData) (l : List PyData) (Q : Prop) : ¬ (HT.sIx (a :: l).length 0 (some 1) = 0 ∧ Q) := fun z => by
  have q := HT.sIx_nat (a :: l).length 0 1
  rw [show ((1 : Nat) : Int) = 1 from rfl, z.1, List.length_cons] at q
  omega
end K63

set_option Elab.async false
set_option linter.all false
set_option maxRecDepth 100000
set_option maxHeartbeats 4000000
namespace K63
open PySem PySem.Spec L2 TL
abbrev s_is_formed : Stmt := top 10
theorem sc_is_formed : FnScope ["thing", "deep", "many", "inner"] ["thing", "deep"] (defScope s_is_formed) := ⟨rfl, rfl, rfl, by decide +kernel, rfl, by decide +kernel, by decide +kernel⟩
abbrev s_is_pattern : Stmt := top 8
theorem sc_is_pattern : FnScope ["thing"] ["thing"] (defScope s_is_pattern) := ⟨rfl, rfl, rfl, by decide +kernel, rfl, by decide +kernel, by decide +kernel⟩
def S_formed (m : Nat) : DSp := fun as R => ∃ d, as = [.dat d, .dat (.int ((m : Nat) - 1 : Int))] ∧ gd d = true ∧ 1 ≤ m ∧ m ≤ 20 ∧ R (.bool (rd (m - 1) d).isSome) []
theorem mono_formed (m : Nat) : MonoS (S_formed m) := fun as R R' h ⟨d, a, b, c, e, k⟩ => ⟨d, a, b, c, e, h _ _ k⟩
/-- what both looks say -/
def inB (p : Pt) : Bool := decide (p.leaves ≤ 11) && (decide (p.parts ≤ 40) && decide (p.deep ≤ 12))
def isP (d : PyData) : Bool := match rd 12 d with
  | some p => inB p
  | none => false
def S_pat : DSp := fun as R => ∃ d, as = [.dat d] ∧ gd d = true ∧ R (.bool (isP d)) []
theorem mono_pat : MonoS S_pat := fun as R R' h ⟨d, a, b, k⟩ => ⟨d, a, b, h _ _ k⟩
theorem rd_nt {n : Nat} {d : PyData} (h : isTup d = false) : rd n d = none := by
  cases n with
  | zero => rfl
  | succ n => cases d <;> first
    | (cases h; done)
    | rfl
theorem rd_ns {n : Nat} {x : PyData} {r : List PyData} (h : isStr x = false) : rd n (.tuple (x :: r)) = none := by
  cases n with
  | zero => rfl
  | succ n => cases x <;> first
    | (cases h; done)
    | rfl
theorem rd_e (n : Nat) : rd n (.tuple []) = none := by
  cases n <;> rfl
theorem isTup_of {d : PyData} (h : isTup d = true) : ∃ l, d = .tuple l := by
  cases d <;> first
    | (cases h; done)
    | exact ⟨_, rfl⟩
theorem gd_tup {l : List PyData} (h : gd (.tuple l) = true) : l.length ≤ 20 ∧ gds l = true := by
  have h : (decide (l.length ≤ 20) && gds l) = true := h
  rw [Bool.and_eq_true, decide_eq_true_iff] at h
  exact h
section
variable {P : Program} {w : World} {K : PySem.W.Frag} {mg : Str → Option Value} {base : Heap}
variable (m_len : mg "len" = none) (m_isinstance : mg "isinstance" = none) (m_str : mg "str" = none) (m_bool : mg "bool" = none) (m_range : mg "range" = none) (m_int : mg "int" = none) (m_max : mg "max" = none) (m_min : mg "min" = none)
  (m_sum : mg "sum" = none) (m_sorted : mg "sorted" = none) (m_set : mg "set" = none) (m_tuple : mg "tuple" = none) (m_all : mg "all" = none) (m_zip : mg "zip" = none)
include m_len m_isinstance m_str m_bool m_range m_int m_max m_min m_sum m_sorted m_set m_tuple m_all m_zip
theorem ok_is_formed {f : Addr} {fd : FuncData} (F : Fun K "is_formed" "is_formed" s_is_formed f fd) (m : Nat) {dN : Addr} {es : Array DictEntry} {nI : Nat} (kd_INNER : KDict K w dN es nI) (km_INNER : KMap0 K dN innerD) (mx_INNER : mg "INNER" = some (.ref dN)) (k_are_letters : Kn P w K mg base 2 "are_letters" S_let) (k_is_formed : Kn P w K mg base (m + 2) "is_formed" (S_formed m)) : FnOkG P w K mg base CX0 (m + 2 + 1) f fd ["thing", "deep"] (spD K (S_formed (m + 1))) := by
  refine fnD F sc_is_formed (fun as R h => by obtain ⟨_, rfl, _⟩ := h; rfl) fun cdv A outer s H E hr => ?_
  have nd := sc_is_formed.nd
  have hu := hr.units
  have hu1 := hr.units1
  refine ⟨_, _, (dss_cons (ds_if (dt_w (dw_or (dt_cmp op_lt ro_B (nomark _) (de_var 1) de_int) (dw_or (dt_not (dt_val (de_isi (T := "tuple") m_isinstance m_tuple (by decide +kernel) (de_var 0)))) (dw_or (dt_cmp op_lt ro_B (nomark _) (de_len (ps := default) m_len (de_var 0)) de_int) (dw_or1 (dt_not (dt_val (de_isi (T := "str") m_isinstance m_str (by decide +kernel) (de_ix ix_tup ro_ixT (de_var 0) de_int))))))))) (dss_one (ds_ret de_bl)) dss_nil)
    (dss_cons (ds_if (dt_cmp (op_eqD hu) ro_eq (nomark _) (de_ix ix_tup ro_ixT (de_var 0) de_int) de_str) (dss_one (ds_ret (de_and (de_cmp (op_eqD hu) ro_eq (nomark _) (de_len (ps := default) m_len (de_var 0)) de_int) (de_one (de_call k_are_letters hr (by omega) (dca_d (de_ix ix_tup ro_ixT (de_var 0) de_int) dca_nil)))))) dss_nil)
    (dss_cons (ds_set 2 nd (de_kget kd_INNER km_INNER mx_INNER (de_ix ix_tup ro_ixT (de_var 0) de_int)))
    (dss_one (ds_ret (de_and (de_cmp op_notN ro_notN (nomark _) (de_var 2) de_non) (de_and (de_cmp (op_eqD hu) ro_eq (nomark _) (de_len (ps := default) m_len (de_var 0)) (de_op op_add ro_I de_int (de_var 2))) (de_one (de_all1 m_all (de_lc [("inner", 3)] rfl nd (di_tup (de_sl sl_tup rsl_tup (de_var 0) (do_some de_int) do_none)) (blkOk_by (N := ["thing", "deep", "many", "inner"]) (sc := defScope s_is_formed) (by decide +kernel)) (fun _ _ _ _ _ => (dg_name 3 nd)) (fun _ _ _ _ _ => dts_nil) (fun _ _ _ _ _ => (de_callI k_is_formed hr (by omega) (dca_d (de_var 3) (dca_d (de_op op_sub ro_I (de_var 1) de_int) dca_nil)))) (by decide))))))))))), ?_⟩
  rintro as R ⟨d, rfl, hg, hm1, hm2, hR⟩
  rw [show (((m + 1 : Nat) : Int) - 1) = (m : Nat) by omega]
  have hR : R (.bool (rd m d).isSome) [] := hR
  generalize hT : dSeq (dIfS (dTest (dOp dEq _ _)) _ _) _ = T
  dsimp only [dSeq, dIfS, dOr, dNot, dTest, dIsi]
  show if decide (((m : Nat) : Int) < 1) = true then _ else _
  by_cases hm : m = 0
  · subst hm
    rw [if_pos (by decide)]
    exact ⟨[], hR, outs0⟩
  obtain ⟨n, rfl⟩ : ∃ n, m = n + 1 := ⟨m - 1, by omega⟩
  rw [if_neg (by rw [decide_eq_false (by omega)]; decide)]
  refine var_at (d := d) rfl ?_
  rw [kb_tup]
  show if (!isTup d) = true then _ else _
  cases ht : isTup d with
  | false =>
    rw [rd_nt ht] at hR
    exact ⟨[], hR, outs0⟩
  | true =>
    obtain ⟨l, rfl⟩ := isTup_of ht
    obtain ⟨hl, hgl⟩ := gd_tup hg
    cases l with
    | nil =>
      exact ⟨[], hR, outs0⟩
    | cons x r =>
      show if decide (((x :: r).length : Int) < 1) = true then _ else _
      rw [if_neg (by rw [decide_eq_false (by rw [List.length_cons]; omega)]; decide)]
      show (match atI (x :: r) 0 with
        | some d => _
        | none => False)
      rw [at0]
      show (match kitB (tyD x) "str" with
        | some b => _
        | none => False)
      rw [kb_str]
      show if (!isStr x) = true then _ else _
      cases hs : isStr x with
      | false =>
        rw [rd_ns hs] at hR
        exact ⟨[], hR, outs0⟩
      | true =>
        obtain ⟨k, rfl⟩ := isStr_of hs
        have hk : okS k = true := gds_mem hgl List.mem_cons_self
        have hgr : ∀ y ∈ r, gd y = true := fun y hy => gds_mem hgl (List.mem_cons_of_mem _ hy)
        have hlr : r.length ≤ 20 := by
          rw [List.length_cons] at hl
          omega
        subst hT
        dsimp only [dSeq, dIfS, dTest, dNext]
        show (match atI (.str k :: r : List PyData) 0 with
          | some d => _
          | none => False)
        rw [at0]
        show SeqAt.shaped (.str k) = true ∧ SeqAt.shaped (.str (Str.ofString "sign")) = true ∧ if PyData.eqv (.str k) (.str (Str.ofString "sign")) = true then _ else _
        refine ⟨okS_sh hk, sh_sign, ?_⟩
        rw [ev_ss]
        cases hk2 : (k == Str.ofString "sign") with
        | true =>
          have e := eq_of_beq hk2
          subst e
          rw [if_pos rfl]
          rw [rd_sign] at hR
          show SeqAt.shaped (.int ((PyData.str (Str.ofString "sign") :: r).length : Nat)) = true ∧ SeqAt.shaped (.int 2) = true ∧ (match PyData.bool (PyData.eqv (.int ((PyData.str (Str.ofString "sign") :: r).length : Nat)) (.int 2)) with
            | .bool b => _
            | _ => False)
          refine ⟨rfl, rfl, ?_⟩
          rw [ev_ii]
          rcases r with _ | ⟨x, _ | ⟨y, r⟩⟩
          · exact ⟨[], hR, outs0⟩
          · show dCall S_let (cD (dOp dIxT (dVar 0) (dC (.int 1))) cNil) _ _
            refine call_pure [x] ?_ ⟨x, rfl, hgr x List.mem_cons_self, rfl, [], hR, outs0⟩ (mono_let _)
            intro Q q
            show (match atI [PyData.str (Str.ofString "sign"), x] 1 with
              | some d => _
              | none => False)
            rw [at1]
            exact q
          · show if (((PyData.str (Str.ofString "sign") :: x :: y :: r).length : Int) == 2) = true then _ else _
            rw [if_neg (by rw [beq_iff_eq, List.length_cons, List.length_cons, List.length_cons]; omega)]
            exact ⟨[], hR, outs0⟩
        | false =>
          rw [if_neg (by decide)]
          rw [rd_form n hk2] at hR
          dsimp only [dAsg, dgName]
          show (match atI (.str k :: r : List PyData) 0 with
            | some d => _
            | none => False)
          rw [at0]
          show dRet _ _ [.dat (.tuple (.str k :: r)), .dat (.int ((n + 1 : Nat) : Int)), .dat (innerD k), .no]
          unfold innerD
          cases hf : innerL.find? (·.1 == k) with
          | none =>
            rw [hf] at hR
            exact ⟨[], hR, outs0⟩
          | some q =>
            rw [hf] at hR
            have hR : R (.bool (decide ((r.length : Int) = q.2) && r.all fun d => (rd n d).isSome)) [] := hR
            dsimp only [dRet, dAndV, dOp]
            refine var_at (d := .int q.2) rfl ?_
            show (match PyData.bool (!TL.isNon (.int q.2)) with
              | .bool b => _
              | _ => False)
            show SeqAt.shaped (.int ((PyData.str k :: r).length : Nat)) = true ∧ SeqAt.shaped (.int (1 + q.2)) = true ∧ (match PyData.bool (PyData.eqv (.int ((PyData.str k :: r).length : Nat)) (.int (1 + q.2))) with
              | .bool b => _
              | _ => False)
            refine ⟨rfl, rfl, ?_⟩
            rw [ev_ii]
            show if (((PyData.str k :: r).length : Int) == 1 + q.2) = true then _ else _
            by_cases hq : (r.length : Int) = q.2
            · rw [if_pos (by rw [beq_iff_eq, List.length_cons]; omega)]
              rw [decide_eq_true hq, Bool.true_and] at hR
              dsimp only [dBools, dLc, diT]
              show ¬ (HT.sIx (.str k :: r : List PyData).length 0 (some 1) = 0 ∧ _) ∧ lcW [3] (dgName 3) dYes _ _ (cutP (.str k :: r) (some 1) none) [] _
              refine ⟨cutT1_ne _ _ _, ?_⟩
              rw [cutT1]
              have e2 : (r.filter (fun _ => true)).map (fun y => PyData.bool (rd n y).isSome) = (r.map fun y => (rd n y).isSome).map PyData.bool := by
                rw [List.filter_eq_self.mpr fun _ _ => rfl, List.map_map]
                rfl
              generalize hD : PyData.tuple (.str k :: r) = D
              refine lc_fm (fun _ => true) (fun y => PyData.bool (rd n y).isSome) (δ0 := [.dat D, .dat (.int ((n + 1 : Nat) : Int)), .dat (.int q.2), .no]) r [] _ rfl (by show 0 + _ ≤ _; omega) ?_ rfl ?_
              · intro y hy Y N hY hN
                show dCall (S_formed (n + 1)) (cD (dVar 3) (cD (dOp (dI fun i j => i - j) (dVar 1) (dC (.int 1))) cNil)) [.dat D, .dat (.int ((n + 1 : Nat) : Int)), .dat (.int q.2), .dat y] _
                exact call_pure [y, .int (((n + 1 : Nat) : Int) - 1)] (fun Q q => q) ⟨y, rfl, hgr y hy, by omega, by omega, rfl, hY rfl _ rfl⟩ (mono_formed _ _)
              · intro δ' h
                rw [e2, List.nil_append]
                show (match boolsOf ((r.map fun y => (rd n y).isSome).map PyData.bool) with
                  | some bs => _
                  | none => False)
                rw [boolsOf_map]
                refine ⟨[], ?_, outs0⟩
                rw [List.all_map]
                exact hR
            · rw [if_neg (by rw [beq_iff_eq, List.length_cons]; omega)]
              rw [decide_eq_false hq, Bool.false_and] at hR
              exact ⟨[], hR, outs0⟩
end
end K63

set_option Elab.async false
set_option linter.all false
set_option maxRecDepth 100000
set_option maxHeartbeats 4000000
namespace K63
open PySem PySem.Spec L2 TL
abbrev s_law_is : Stmt := top 32
theorem sc_law_is : FnScope ["_law_thing", "_law_sizes_here"] ["_law_thing"] (defScope s_law_is) := ⟨rfl, rfl, rfl, by decide +kernel, rfl, by decide +kernel, by decide +kernel⟩
def szD : Option Pt → PyData
  | some p => p.tri
  | none => .none
def S_sizes (n : Nat) : DSp := fun as R => ∃ d, as = [.dat d] ∧ gd d = true ∧ PyData.depth d < n ∧ n ≤ 40 ∧ R (szD (rd n d)) []
theorem mono_sizes (n : Nat) : MonoS (S_sizes n) := fun as R R' h ⟨x, a, b, c, d, k⟩ => ⟨x, a, b, c, d, h _ _ k⟩
def S_is : DSp := fun as R => ∃ d, as = [.dat d] ∧ gd d = true ∧ PyData.depth d ≤ 32 ∧ R (.bool (isP d)) []
theorem mono_is : MonoS S_is := fun as R R' h ⟨d, a, b, c, k⟩ => ⟨d, a, b, c, h _ _ k⟩
theorem depth_mem : ∀ {l : List PyData} {d : PyData}, d ∈ l → PyData.depth d ≤ PyData.depthAll l
  | x :: r, d, h => by
    show _ ≤ max (PyData.depth x) (PyData.depthAll r)
    rcases List.mem_cons.mp h with e | h
    · rw [e]
      exact Nat.le_max_left _ _
    · exact Nat.le_trans (depth_mem h) (Nat.le_max_right _ _)
theorem szs_ok : ∀ os : List (Option Pt), PyData.canLayAll0 (os.map szD) = true ∧ PyData.depthAll (os.map szD) ≤ 1
  | [] => ⟨rfl, by decide⟩
  | o :: r => by
    obtain ⟨h1, h2⟩ := szs_ok r
    constructor
    · show (PyData.canLay0 (szD o) && PyData.canLayAll0 (r.map szD)) = true
      rw [h1]
      cases o <;> rfl
    · show max (PyData.depth (szD o)) (PyData.depthAll (r.map szD)) ≤ 1
      have : PyData.depth (szD o) ≤ 1 := by
        cases o with
        | none => decide
        | some p => exact Nat.le_refl 1
      omega
theorem sh_szs (os : List (Option Pt)) : SeqAt.shaped (.list (os.map szD)) = true := by
  obtain ⟨h1, h2⟩ := szs_ok os
  unfold SeqAt.shaped
  rw [Bool.and_eq_true]
  refine ⟨h1, decide_eq_true ?_⟩
  show PyData.depthAll _ + 1 ≤ 64
  omega
theorem any_none (f : PyData → Option Pt) : ∀ r : List PyData, ((r.map fun y => szD (f y)).any fun z => PyData.eqv z .none) = !(rds f r).isSome
  | [] => rfl
  | d :: r => by
    have ih := any_none f r
    rw [rds_some] at ih ⊢
    rw [List.map_cons, List.any_cons, List.all_cons, ih]
    cases f d with
    | none => simp [szD, PyData.eqv]
    | some p => simp [szD, Pt.tri, PyData.eqv]
def tailD (n : Nat) : DTS := dSeq (dAsg (dLc (diT (dSl dSlT (dVar 0) (dPart (dC (.int 1))) dNoPart)) (dgName 2) dYes (dCall (S_sizes n) (cD (dVar 2) cNil)) [2]) (dgName 1))
  (dSeq (dIfS (dTest (dOp dIn (dC .none) (dVar 1))) (dRet (dC .none)) dNext)
    (dRet (dLst (dCons (dSum (dLc (diL (dVar 1)) (dgName 3) dYes (dIxV 3 (dC (.int 0))) [3]))
      (dCons (dOp (dI fun i j => i + j) (dC (.int 1)) (dSum (dLc (diL (dVar 1)) (dgName 3) dYes (dIxV 3 (dC (.int 1))) [3])))
        (dCons (dOp (dI fun i j => i + j) (dC (.int 1)) (dMaxL (dLc (diL (dVar 1)) (dgName 3) dYes (dIxV 3 (dC (.int 2))) [3]))) dNil))))))
theorem tail_ok {n : Nat} {E : DEnds} {k : Str} {r : List PyData} (hk2 : (k == Str.ofString "sign") = false) (hk1 : (k == Str.ofString "none") = false) (hgr : ∀ y ∈ r, gd y = true) (hdr : ∀ y ∈ r, PyData.depth y < n) (hm : n ≤ 40) (hlr : r.length ≤ 20)
    (hmk : ∀ ps, rds (rd n) r = some ps → (mk k ps).isSome = true) (hE : ∀ δ, E.rt (szD (rd (n + 1) (.tuple (.str k :: r)))) δ) : tailD n E [.dat (.tuple (.str k :: r)), .no, .no, .no] := by
  have hE : ∀ δ, E.rt (szD (match rds (rd n) r with
    | some ps => mk k ps
    | none => none)) δ := fun δ => by
    have e : rd (n + 1) (.tuple (.str k :: r)) = (match rds (rd n) r with
      | some ps => mk k ps
      | none => none) := if_neg (by rw [hk2]; decide)
    rw [← e]
    exact hE δ
  unfold tailD
  show ¬ (HT.sIx (.str k :: r : List PyData).length 0 (some 1) = 0 ∧ _) ∧ lcW [2] (dgName 2) dYes (dCall (S_sizes n) (cD (dVar 2) cNil)) _ (cutP (.str k :: r) (some 1) none) [] _
  refine ⟨cutT1_ne _ _ _, ?_⟩
  rw [cutT1]
  generalize hD : PyData.tuple (.str k :: r) = D
  refine lc_fm (fun _ => true) (fun y => szD (rd n y)) (δ0 := [.dat D, .no, .no, .no]) r [] _ rfl (by show 0 + _ ≤ _; omega) ?_ rfl ?_
  · intro y hy Y N hY hN
    show dCall (S_sizes n) (cD (dVar 2) cNil) [.dat D, .no, .dat y, .no] _
    exact call_pure [y] (fun Q q => q) ⟨y, rfl, hgr y hy, hdr y hy, hm, rfl, hY rfl _ rfl⟩ (mono_sizes n _)
  · intro δ' h
    have hδ : ∃ x, δ' = [.dat D, .no, x, .no] := by
      rcases δ' with _ | ⟨a, _ | ⟨b, _ | ⟨c, _ | ⟨e, _ | ⟨e2, r⟩⟩⟩⟩⟩ <;> simp [wipeS] at h
      obtain ⟨rfl, rfl, rfl⟩ := h
      exact ⟨c, rfl⟩
    obtain ⟨x, rfl⟩ := hδ
    rw [List.filter_eq_self.mpr fun _ _ => rfl, List.nil_append]
    have e1 : (r.map fun y => szD (rd n y)) = (r.map (rd n)).map szD := by
      rw [List.map_map]
      rfl
    show SeqAt.shaped .none = true ∧ SeqAt.shaped (.list (r.map fun y => szD (rd n y))) = true ∧ _
    refine ⟨rfl, by rw [e1]; exact sh_szs _, ?_⟩
    rw [any_none]
    cases hs : rds (rd n) r with
    | none =>
      rw [hs] at hE
      exact hE _
    | some ps =>
      rw [hs] at hE
      obtain ⟨p, hp⟩ := Option.isSome_iff_exists.mp (hmk ps hs)
      have hE : ∀ δ, E.rt (szD (mk k ps)) δ := hE
      rw [hp] at hE
      have hE : ∀ δ, E.rt p.tri δ := hE
      obtain ⟨h1, h2, h3, h4⟩ := mk_some hp
      have h4 := h4 hk1
      show if (false = true) then _ else _
      rw [if_neg (by decide)]
      have e2 : (r.map fun y => szD (rd n y)) = p.kids.map Pt.tri := by
        rw [e1, (rds_len hs).2, h2, List.map_map]
        rfl
      rw [e2]
      have hl := p.kids_len
      dsimp only [dNext, dRet, dLst, dCons, dNil, dSum, dOp, dC, dI, dMaxL]
      refine lc_item 0 (fun k => (k.leaves : Nat)) hl (fun k _ => nums0 k) (fun x1 => ?_) _
      show (match intsOf _ with
        | some ns => _
        | none => False)
      rw [intsOf_map]
      refine lc_item 1 (fun k => (k.parts : Nat)) hl (fun k _ => nums1 k) (fun x2 => ?_) _
      show (match intsOf _ with
        | some ns => _
        | none => False)
      rw [intsOf_map]
      refine lc_item 2 (fun k => (k.deep : Nat)) hl (fun k _ => nums2 k) (fun x3 => ?_) _
      show (match intsOf _ with
        | some ns => _
        | none => False)
      rw [intsOf_map]
      refine ⟨by rw [List.length_map, h2]; exact h4, fun m hm hy => ⟨nat_le_size (by show 3 ≤ 16777216; decide), ?_⟩⟩
      have z := hE [.dat D, .dat (.list (p.kids.map Pt.tri)), x, x3]
      unfold Pt.tri Pt.nums at z
      rw [← sum_leaves h1, ← sum_parts, ← max_deep hm hy] at z
      exact z
theorem find_other {k : Str} (h1 : (k == Str.ofString "none") = false) (h2 : ¬ Str.ofString "again" = k) (h3 : ¬ Str.ofString "then" = k) (h4 : ¬ Str.ofString "or" = k) : innerL.find? (·.1 == k) = none := by
  have e1 : (Str.ofString "none" == k) = false := by
    rw [beq_eq_false_iff_ne] at h1 ⊢
    exact fun e => h1 e.symm
  unfold innerL
  rw [List.find?_cons, List.find?_cons, List.find?_cons, List.find?_cons, List.find?_nil, e1, beq_eq_false_iff_ne.mpr h2, beq_eq_false_iff_ne.mpr h3, beq_eq_false_iff_ne.mpr h4]
section
variable {P : Program} {w : World} {K : PySem.W.Frag} {mg : Str → Option Value} {base : Heap}
variable (m_len : mg "len" = none) (m_isinstance : mg "isinstance" = none) (m_str : mg "str" = none) (m_bool : mg "bool" = none) (m_range : mg "range" = none) (m_int : mg "int" = none) (m_max : mg "max" = none) (m_min : mg "min" = none)
  (m_sum : mg "sum" = none) (m_sorted : mg "sorted" = none) (m_set : mg "set" = none) (m_tuple : mg "tuple" = none) (m_all : mg "all" = none) (m_zip : mg "zip" = none)
include m_len m_isinstance m_str m_bool m_range m_int m_max m_min m_sum m_sorted m_set m_tuple m_all m_zip
theorem ok_is_pattern {f : Addr} {fd : FuncData} (F : Fun K "is_pattern" "is_pattern" s_is_pattern f fd) (g_DEEP_MOST : ∃ tk, mg "DEEP_MOST" = some (.int 12 tk)) (k_is_formed : Kn P w K mg base 15 "is_formed" (S_formed 13)) (k_is_within : Kn P w K mg base 1 "is_within" S_within)
    (k_leaves_of : Kn P w K mg base 13 "leaves_of" (S_leaves 12)) (k_parts_of : Kn P w K mg base 13 "parts_of" (S_parts 12)) (k_deep_of : Kn P w K mg base 13 "deep_of" (S_deep 12)) : FnOkG P w K mg base CX0 16 f fd ["thing"] (spD K S_pat) := by
  refine fnD F sc_is_pattern (fun as R h => by obtain ⟨_, rfl, _⟩ := h; rfl) fun cdv A outer s H E hr => ?_
  have nd := sc_is_pattern.nd
  have hu := hr.units
  have hu1 := hr.units1
  refine ⟨_, _, (dss_one (ds_ret (de_and (de_call k_is_formed hr (by omega) (dca_d (de_var 0) (dca_d (de_gint rfl g_DEEP_MOST) dca_nil))) (de_one (de_call k_is_within hr (by omega) (dca_d (de_call k_leaves_of hr (by omega) (dca_d (de_var 0) dca_nil)) (dca_d (de_call k_parts_of hr (by omega) (dca_d (de_var 0) dca_nil)) (dca_d (de_call k_deep_of hr (by omega) (dca_d (de_var 0) dca_nil)) dca_nil)))))))), ?_⟩
  rintro as R ⟨d, rfl, hg, hR⟩
  dsimp only [dRet, dAndV]
  refine call_pure [d, .int 12] (fun Q q => q) ⟨d, rfl, hg, by decide, by decide, rfl, ?_⟩ (mono_formed _ _)
  unfold isP at hR
  show if (rd 12 d).isSome = true then _ else _
  cases e : rd 12 d with
  | none =>
    rw [e] at hR
    exact ⟨[], hR, outs0⟩
  | some p =>
    rw [e] at hR
    obtain ⟨h1, rfl, h3⟩ := rd_sound 12 _ _ e
    rw [if_pos (show (some p).isSome = true from rfl)]
    show dCall S_within _ _ _
    refine call_pure [.int (p.leaves : Nat), .int (p.parts : Nat), .int (p.deep : Nat)] (fun Q q => ?_) ⟨_, _, _, rfl, rfl, [], ?_, outs0⟩ (mono_within _)
    · refine call_pure [p.d] (fun Q q => q) ⟨p, rfl, h3, rfl, ?_⟩ (mono_leaves 12 _)
      refine call_pure [p.d] (fun Q q => q) ⟨p, rfl, h3, rfl, ?_⟩ (mono_parts 12 _)
      exact call_pure [p.d] (fun Q q => q) ⟨p, rfl, h3, rfl, q⟩ (mono_deep 12 _)
    · have e2 : (decide (((p.leaves : Nat) : Int) ≤ 11) && (decide (((p.parts : Nat) : Int) ≤ 40) && decide (((p.deep : Nat) : Int) ≤ 12))) = inB p := by
        unfold inB
        congr 1
        · exact decide_eq_decide.mpr (by omega)
        · congr 1
          · exact decide_eq_decide.mpr (by omega)
          · exact decide_eq_decide.mpr (by omega)
      rw [e2]
      exact hR
theorem ok_law_sizes {f : Addr} {fd : FuncData} (F : Fun K "_law_sizes" "_law_sizes" s_law_sizes f fd) (n : Nat) (k_law_are_letters : Kn P w K mg base 1 "_law_are_letters" S_let) (k_law_sizes : Kn P w K mg base (n + 1) "_law_sizes" (S_sizes n)) :
    FnOkG P w K mg base CX0 (n + 1 + 1) f fd ["_law_thing"] (spD K (S_sizes (n + 1))) := by
  refine fnD F sc_law_sizes (fun as R h => by obtain ⟨_, rfl, _⟩ := h; rfl) fun cdv A outer s H E hr => ?_
  have nd := sc_law_sizes.nd
  have hu := hr.units
  have hu1 := hr.units1
  refine ⟨_, _, (dss_cons (ds_if (dt_w (dw_or (dt_not (dt_val (de_isi (T := "tuple") m_isinstance m_tuple (by decide +kernel) (de_var 0)))) (dw_or (dt_cmp (op_eqT0 (Nat.lt_of_le_of_lt (Nat.le_add_right _ 64) hu)) ro_eqT0 (nomark _) (de_var 0) (de_tup da_nil)) (dw_or1 (dt_not (dt_val (de_isi (T := "str") m_isinstance m_str (by decide +kernel) (de_ix ix_tup ro_ixT (de_var 0) de_int)))))))) (dss_one (ds_ret de_non)) dss_nil)
    (dss_cons (ds_if (dt_cmp (op_eqD hu) ro_eq (nomark _) (de_ix ix_tup ro_ixT (de_var 0) de_int) de_str) (dss_one (ds_ret (de_ix ix_list ro_ixL (de_lst (da_cons de_non (da_cons (de_lst (da_cons de_int (da_cons de_int (da_cons de_int da_nil)))) da_nil))) (de_int1 m_int (de_cmp (op_eqD hu) ro_eq (nomark _) (de_len (ps := default) m_len (de_var 0)) de_int))))) dss_nil)
    (dss_cons (ds_if (dt_cmp (op_eqD hu) ro_eq (nomark _) (de_ix ix_tup ro_ixT (de_var 0) de_int) de_str) (dss_one (ds_ret (de_ix ix_list ro_ixL (de_lst (da_cons de_non (da_cons (de_lst (da_cons de_int (da_cons de_int (da_cons de_int da_nil)))) da_nil))) (de_int1 m_int (de_and (de_cmp (op_eqD hu) ro_eq (nomark _) (de_len (ps := default) m_len (de_var 0)) de_int) (de_one (de_call k_law_are_letters hr (by omega) (dca_d (de_ix ix_tup ro_ixT (de_var 0) de_int) dca_nil)))))))) dss_nil)
    (dss_cons (ds_if (dt_w (dw_or (dt_cmp (op_notInD hu1) ro_notIn rfl (de_ix ix_tup ro_ixT (de_var 0) de_int) (de_lst (da_cons de_str (da_cons de_str (da_cons de_str da_nil))))) (dw_or1 (dt_cmp (op_neD hu) ro_ne (nomark _) (de_len (ps := default) m_len (de_var 0)) (de_op op_add ro_I de_int (de_int1 m_int (de_cmp (op_neD hu) ro_ne (nomark _) (de_ix ix_tup ro_ixT (de_var 0) de_int) de_str))))))) (dss_one (ds_ret de_non)) dss_nil)
    (dss_cons (ds_setLc 1 [("_law_part", 2)] rfl nd (di_tup (de_sl sl_tup rsl_tup (de_var 0) (do_some de_int) do_none)) (blkOk_by (N := ["_law_thing", "_law_some", "_law_part", "_law_one"]) (sc := defScope s_law_sizes) (by decide +kernel)) (fun _ _ _ _ _ => (dg_name 2 nd)) (fun _ _ _ _ _ => dts_nil) (fun _ _ _ _ _ => (de_callI k_law_sizes hr (by omega) (dca_d (de_var 2) dca_nil))) (by decide) (sw_true rfl rfl rfl (by decide +kernel)))
    (dss_cons (ds_if (dt_cmp (op_inD hu1) ro_in rfl de_non (de_var 1)) (dss_one (ds_ret de_non)) dss_nil)
    (dss_one (ds_ret (de_lst (da_cons (de_sum1 m_sum (de_lc [("_law_one", 3)] rfl nd (di_list (de_var 1)) (blkOk_by (N := ["_law_thing", "_law_some", "_law_part", "_law_one"]) (sc := defScope s_law_sizes) (by decide +kernel)) (fun _ _ _ _ _ => (dg_name 3 nd)) (fun _ _ _ _ _ => dts_nil) (fun _ _ _ _ _ => (de_ixVI 3 de_int)) (by decide))) (da_cons (de_op op_add ro_I de_int (de_sum1 m_sum (de_lc [("_law_one", 3)] rfl nd (di_list (de_var 1)) (blkOk_by (N := ["_law_thing", "_law_some", "_law_part", "_law_one"]) (sc := defScope s_law_sizes) (by decide +kernel)) (fun _ _ _ _ _ => (dg_name 3 nd)) (fun _ _ _ _ _ => dts_nil) (fun _ _ _ _ _ => (de_ixVI 3 de_int)) (by decide)))) (da_cons (de_op op_add ro_I de_int (de_max1 m_max (de_lc [("_law_one", 3)] rfl nd (di_list (de_var 1)) (blkOk_by (N := ["_law_thing", "_law_some", "_law_part", "_law_one"]) (sc := defScope s_law_sizes) (by decide +kernel)) (fun _ _ _ _ _ => (dg_name 3 nd)) (fun _ _ _ _ _ => dts_nil) (fun _ _ _ _ _ => (de_ixVI 3 de_int)) (by decide)))) da_nil)))))))))))), ?_⟩
  rintro as R ⟨d, rfl, hg, hd, hm, hR⟩
  generalize h2 : dSeq (dIfS (dTest (dOp dEq (dOp dIxT (dVar 0) (dC (.int 0))) (dC (.str (Str.ofString "none"))))) _ _) _ = T2
  dsimp only [dSeq, dIfS, dOr, dNot, dTest, dIsi]
  refine var_at (d := d) rfl ?_
  rw [kb_tup]
  show if (!isTup d) = true then _ else _
  cases ht : isTup d with
  | false =>
    rw [rd_nt ht] at hR
    exact ⟨[], hR, outs0⟩
  | true =>
    obtain ⟨l, rfl⟩ := isTup_of ht
    obtain ⟨hl, hgl⟩ := gd_tup hg
    show 0 ≤ sizeLine ∧ if l.isEmpty = true then _ else _
    refine ⟨Nat.zero_le _, ?_⟩
    cases l with
    | nil =>
      exact ⟨[], hR, outs0⟩
    | cons x r =>
      rw [if_neg (show ¬ ((x :: r).isEmpty = true) from Bool.false_ne_true)]
      show (match atI (x :: r) 0 with
        | some d => _
        | none => False)
      rw [at0]
      show (match kitB (tyD x) "str" with
        | some b => _
        | none => False)
      rw [kb_str]
      show if (!isStr x) = true then _ else _
      cases hs : isStr x with
      | false =>
        rw [rd_ns hs] at hR
        exact ⟨[], hR, outs0⟩
      | true =>
        obtain ⟨k, rfl⟩ := isStr_of hs
        have hk : okS k = true := gds_mem hgl List.mem_cons_self
        have hsk := okS_sh hk
        have hgr : ∀ y ∈ r, gd y = true := fun y hy => gds_mem hgl (List.mem_cons_of_mem _ hy)
        have hdr : ∀ y ∈ r, PyData.depth y < n := fun y hy => by
          have q := depth_mem hy
          have hd : max (PyData.depth (.str k)) (PyData.depthAll r) + 1 < n + 1 := hd
          omega
        have hlr : r.length ≤ 20 := by
          rw [List.length_cons] at hl
          omega
        rw [if_neg (by decide)]
        subst h2
        generalize h3 : dSeq (dIfS (dTest (dOp dEq (dOp dIxT (dVar 0) (dC (.int 0))) (dC (.str (Str.ofString "sign"))))) _ _) _ = T3
        dsimp only [dSeq, dIfS, dTest, dNext]
        show (match atI (.str k :: r : List PyData) 0 with
          | some d => _
          | none => False)
        rw [at0]
        show SeqAt.shaped (.str k) = true ∧ SeqAt.shaped (.str (Str.ofString "none")) = true ∧ if PyData.eqv (.str k) (.str (Str.ofString "none")) = true then _ else _
        refine ⟨hsk, sh_none, ?_⟩
        rw [ev_ss]
        cases hk1 : (k == Str.ofString "none") with
        | true =>
          have e := eq_of_beq hk1
          subst e
          rw [if_pos rfl]
          rcases r with _ | ⟨y, r⟩
          · simp [dRet, dLst, dCons, dNil, dC, dOp, dEq, dLen, dInt1, dIxL, dVar, ev_ii, sh_int, endsOf, at1, at0]
            exact ⟨nat_le_size (by decide), nat_le_size (by decide), [], hR, outs0⟩
          · have hR : R (szD (match rds (rd n) (y :: r) with
              | some ps => mk (Str.ofString "none") ps
              | none => none)) [] := by
              have e : rd (n + 1) (.tuple (.str (Str.ofString "none") :: y :: r)) = (match rds (rd n) (y :: r) with
                | some ps => mk (Str.ofString "none") ps
                | none => none) := if_neg (by rw [t_ns]; decide)
              rw [← e]
              exact hR
            have e : (match rds (rd n) (y :: r) with
              | some ps => mk (Str.ofString "none") ps
              | none => none) = none := by
              cases h : rds (rd n) (y :: r) with
              | none => rfl
              | some ps =>
                have q := (rds_len h).1
                rcases ps with _ | ⟨a, b⟩
                · cases q
                · show mk (Str.ofString "none") (a :: b) = none
                  unfold mk
                  rw [if_pos t_nn]
            rw [e] at hR
            simp [dRet, dLst, dCons, dNil, dC, dOp, dEq, dLen, dInt1, dIxL, dVar, ev_ii, sh_int, endsOf, at1, at0]
            rw [if_neg (by omega)]
            exact ⟨nat_le_size (by decide), nat_le_size (by decide), [], hR, outs0⟩
        | false =>
          rw [if_neg (by decide)]
          subst h3
          generalize h5 : dSeq (dIfS (dOr (dTest (dOp dNotIn _ _)) _) _ _) _ = T5
          dsimp only [dSeq, dIfS, dTest, dNext]
          show (match atI (.str k :: r : List PyData) 0 with
            | some d => _
            | none => False)
          rw [at0]
          show SeqAt.shaped (.str k) = true ∧ SeqAt.shaped (.str (Str.ofString "sign")) = true ∧ if PyData.eqv (.str k) (.str (Str.ofString "sign")) = true then _ else _
          refine ⟨hsk, sh_sign, ?_⟩
          rw [ev_ss]
          cases hk2 : (k == Str.ofString "sign") with
          | true =>
            have e := eq_of_beq hk2
            subst e
            rw [if_pos rfl]
            have hR : R (szD (sgnOf r)) [] := by
              have e : rd (n + 1) (.tuple (.str (Str.ofString "sign") :: r)) = sgnOf r := if_pos t_ss
              rw [← e]
              exact hR
            rcases r with _ | ⟨x, _ | ⟨y, r⟩⟩
            · simp [dRet, dLst, dCons, dNil, dC, dOp, dEq, dLen, dInt1, dIxL, dVar, ev_ii, sh_int, endsOf, at1, at0, dAndV]
              exact ⟨nat_le_size (by decide), nat_le_size (by decide), [], hR, outs0⟩
            · simp [dRet, dLst, dCons, dNil, dC, dOp, dEq, dLen, dInt1, dIxL, dVar, ev_ii, sh_int, endsOf, at1, at0, dAndV]
              refine ⟨nat_le_size (by decide), nat_le_size (by decide), ?_⟩
              refine call_pure [x] ?_ ⟨x, rfl, hgr x List.mem_cons_self, ?_⟩ (mono_let _)
              · intro Q q
                show (match atI [PyData.str (Str.ofString "sign"), x] 1 with
                  | some d => _
                  | none => False)
                rw [at1]
                exact q
              · cases hb : lettersB x with
                | true =>
                  cases x with
                  | str z =>
                    have hz : goodL z = true := hb
                    have e : sgnOf [.str z] = some (.sgn z) := if_pos hz
                    rw [e] at hR
                    exact ⟨rfl, [], hR, outs0⟩
                  | none => cases hb
                  | bool _ => cases hb
                  | int _ => cases hb
                  | list _ => cases hb
                  | tuple _ => cases hb
                  | dict _ => cases hb
                | false =>
                  have e : sgnOf [x] = none := by
                    cases x with
                    | str z =>
                      have hz : goodL z = false := hb
                      exact if_neg (by rw [hz]; decide)
                    | none => rfl
                    | bool _ => rfl
                    | int _ => rfl
                    | list _ => rfl
                    | tuple _ => rfl
                    | dict _ => rfl
                  rw [e] at hR
                  exact ⟨rfl, [], hR, outs0⟩
            · have e : sgnOf (x :: y :: r) = none := by cases x <;> rfl
              rw [e] at hR
              simp [dRet, dLst, dCons, dNil, dC, dOp, dEq, dLen, dInt1, dIxL, dVar, ev_ii, sh_int, endsOf, at1, at0, dAndV]
              rw [if_neg (by omega)]
              exact ⟨nat_le_size (by decide), nat_le_size (by decide), [], hR, outs0⟩
          | false =>
            rw [if_neg (by decide)]
            subst h5
            have fin : ∀ δ, (endsOf R).rt (szD (rd (n + 1) (.tuple (.str k :: r)))) δ := fun δ => ⟨[], hR, outs0⟩
            have fn : (rd (n + 1) (.tuple (.str k :: r))).isSome = false → ∀ δ, (endsOf R).rt .none δ := fun h δ => by
              have z := fin δ
              cases e : rd (n + 1) (.tuple (.str k :: r)) with
              | none =>
                rw [e] at z
                exact z
              | some p =>
                rw [e] at h
                cases h
            have rf := rd_form n (r := r) hk2
            generalize endsOf R = E1 at fin fn ⊢
            generalize h6 : dSeq (dAsg (dLc _ _ _ _ _) _) _ = T6
            simp [dSeq, dIfS, dTest, dOp, dIxT, dVar, dC, dEq, at0, at1, sh_again, sh_sign, ev_ss, dNext, dOr, dNotIn, dNe, dLen, dInt1, dLst, dCons, dNil, sh_three, sh_int, ev_ii, dI, hsk]
            refine ⟨nat_le_size (by decide), ?_⟩
            have run : ∀ q, innerL.find? (·.1 == k) = some q → (r.length : Int) = q.2 → T6 E1 [.dat (.tuple (.str k :: r)), .no, .no, .no] := fun q hf hq => by
              subst h6
              refine tail_ok hk2 hk1 hgr hdr (by omega) hlr (fun ps hps => ?_) fin
              rw [mk_len, hf]
              exact decide_eq_true (by rw [← (rds_len hps).1]; exact hq)
            have stop : ∀ q, innerL.find? (·.1 == k) = some q → ¬ (r.length : Int) = q.2 → ∀ δ, E1.rt .none δ := fun q hf hq δ => by
              refine fn ?_ δ
              rw [rf, hf]
              show (decide ((r.length : Int) = q.2) && _) = false
              rw [decide_eq_false hq]
              rfl
            by_cases ha : Str.ofString "again" = k
            · subst ha
              rw [if_neg (fun h => h.1 rfl)]
              have hf : innerL.find? (·.1 == Str.ofString "again") = some (Str.ofString "again", 1) := by decide +kernel
              rw [if_pos (show Str.ofString "again" = Str.ofString "again" from rfl)]
              by_cases hq : (r.length : Int) = 1
              · rw [if_pos (by omega)]
                exact run _ hf hq
              · rw [if_neg (by omega)]
                exact stop _ hf hq _
            · by_cases hth : Str.ofString "then" = k
              · subst hth
                rw [if_neg (fun h => h.2.1 rfl)]
                have hf : innerL.find? (·.1 == Str.ofString "then") = some (Str.ofString "then", 2) := by decide +kernel
                rw [if_neg (show ¬ (Str.ofString "then" = Str.ofString "again") from fun e => ha e.symm)]
                by_cases hq : (r.length : Int) = 2
                · rw [if_pos (by omega)]
                  exact run _ hf hq
                · rw [if_neg (by omega)]
                  exact stop _ hf hq _
              · by_cases ho : Str.ofString "or" = k
                · subst ho
                  rw [if_neg (fun h => h.2.2 rfl)]
                  have hf : innerL.find? (·.1 == Str.ofString "or") = some (Str.ofString "or", 2) := by decide +kernel
                  rw [if_neg (show ¬ (Str.ofString "or" = Str.ofString "again") from fun e => ha e.symm)]
                  by_cases hq : (r.length : Int) = 2
                  · rw [if_pos (by omega)]
                    exact run _ hf hq
                  · rw [if_neg (by omega)]
                    exact stop _ hf hq _
                · rw [if_pos ⟨ha, hth, ho⟩]
                  refine fn ?_ _
                  rw [rf, find_other hk1 ha hth ho]
theorem ok_law_is {f : Addr} {fd : FuncData} (F : Fun K "_law_is" "_law_is" s_law_is f fd) (k_law_sizes : Kn P w K mg base 34 "_law_sizes" (S_sizes 33)) : FnOkG P w K mg base CX0 35 f fd ["_law_thing"] (spD K S_is) := by
  refine fnD F sc_law_is (fun as R h => by obtain ⟨_, rfl, _⟩ := h; rfl) fun cdv A outer s H E hr => ?_
  have nd := sc_law_is.nd
  have hu := hr.units
  refine ⟨_, _, (dss_cons (ds_set 1 nd (de_call k_law_sizes hr (by omega) (dca_d (de_var 0) dca_nil)))
    (dss_one (ds_ret (de_and (de_cmp op_notN ro_notN (nomark _) (de_var 1) de_non) (de_and (de_cmp op_le ro_B (nomark _) (de_ixV 1 de_int) de_int) (de_and (de_cmp op_le ro_B (nomark _) (de_ixV 1 de_int) de_int) (de_one (de_cmp op_le ro_B (nomark _) (de_ixV 1 de_int) de_int)))))))), ?_⟩
  rintro as R ⟨d, rfl, hg, hd, hR⟩
  dsimp only [dSeq, dAsg, dgName]
  refine call_pure [d] (fun Q q => q) ⟨d, rfl, hg, by omega, by decide, rfl, ?_⟩ (mono_sizes 33 _)
  have hP : isP d = (match rd 33 d with
    | some p => inB p
    | none => false) := by
    unfold isP
    cases e : rd 12 d with
    | some p =>
      obtain ⟨h1, rfl, h3⟩ := rd_sound 12 _ _ e
      rw [rd_complete 33 p h1 (by omega)]
    | none =>
      cases e2 : rd 33 d with
      | none => rfl
      | some p =>
        obtain ⟨h1, rfl, h3⟩ := rd_sound 33 _ _ e2
        show false = inB p
        by_cases h : p.deep ≤ 12
        · rw [rd_complete 12 p h1 h] at e
          cases e
        · unfold inB
          rw [decide_eq_false h, Bool.and_false, Bool.and_false]
  rw [hP] at hR
  cases e : rd 33 d with
  | none =>
    rw [e] at hR
    exact ⟨[], hR, outs0⟩
  | some p =>
    rw [e] at hR
    have fin : ∀ b δ, b = inB p → (endsOf R).rt (.bool b) δ := fun b δ e => ⟨[], by rw [e]; exact hR, outs0⟩
    generalize endsOf R = E1 at fin ⊢
    unfold inB at fin
    show dRet _ E1 [.dat d, .dat p.tri]
    dsimp only [dRet, dAndV, dOp]
    refine var_at (d := p.tri) rfl ?_
    have n0 : (!TL.isNon p.tri) = true := rfl
    show (match PyData.bool (!TL.isNon p.tri) with
      | .bool b => _
      | _ => False)
    rw [n0]
    simp only [↓reduceIte]
    refine ⟨rfl, ?_⟩
    show (match atI (p.nums.map PyData.int) 0 with
      | some x => _
      | none => False)
    rw [nums0]
    show if decide (((p.leaves : Nat) : Int) ≤ 11) = true then _ else _
    by_cases h1 : p.leaves ≤ 11
    · rw [if_pos (decide_eq_true (by omega))]
      refine ⟨rfl, ?_⟩
      show (match atI (p.nums.map PyData.int) 1 with
        | some x => _
        | none => False)
      rw [nums1]
      show if decide (((p.parts : Nat) : Int) ≤ 40) = true then _ else _
      by_cases h2 : p.parts ≤ 40
      · rw [if_pos (decide_eq_true (by omega))]
        refine ⟨rfl, ?_⟩
        show (match atI (p.nums.map PyData.int) 2 with
          | some x => _
          | none => False)
        rw [nums2]
        show E1.rt (.bool (decide (((p.deep : Nat) : Int) ≤ 12))) _
        refine fin _ _ ?_
        rw [decide_eq_true h1, decide_eq_true h2, Bool.true_and, Bool.true_and]
        exact decide_eq_decide.mpr (by omega)
      · rw [if_neg (by rw [decide_eq_false (by omega)]; decide)]
        exact fin _ _ (by rw [decide_eq_false h2, Bool.false_and, Bool.and_false])
    · rw [if_neg (by rw [decide_eq_false (by omega)]; decide)]
      exact fin _ _ (by rw [decide_eq_false h1, Bool.false_and])
end
end K63

set_option Elab.async false
set_option linter.all false
set_option maxRecDepth 100000
set_option maxHeartbeats 4000000
namespace K63
open PySem PySem.Spec L2 TL
/-! ### the rules, on patterns -/
namespace Pt
def beq : Pt → Pt → Bool
  | .non, .non => true
  | .sgn x, .sgn y => x == y
  | .again p, .again q => p.beq q
  | .two o p q, .two o' p' q' => (o == o') && (p.beq p' && q.beq q')
  | _, _ => false
theorem beq_iff : ∀ p q : Pt, p.beq q = true ↔ p = q
  | .non, q => by cases q <;> simp [beq]
  | .sgn x, q => by cases q <;> simp [beq]
  | .again p, q => by
    cases q with
    | again q => simp [beq, beq_iff p q]
    | _ => simp [beq]
  | .two o a b, q => by
    cases q with
    | two o' c d => simp [beq, beq_iff a c, beq_iff b d]
    | _ => simp [beq]
theorem beq_self (p : Pt) : p.beq p = true := (beq_iff p p).mpr rfl
def isA : Pt → Bool
  | .again _ => true
  | _ => false
end Pt
section
variable (a b c d e f : PyData)
theorem ev_t11 : PyData.eqv (.tuple [a]) (.tuple [b]) = PyData.eqv a b := by simp [PyData.eqv, PyData.eqvAll]
theorem ev_t12 : PyData.eqv (.tuple [a]) (.tuple [b, c]) = false := by simp [PyData.eqv, PyData.eqvAll]
theorem ev_t13 : PyData.eqv (.tuple [a]) (.tuple [b, c, d]) = false := by simp [PyData.eqv, PyData.eqvAll]
theorem ev_t21 : PyData.eqv (.tuple [a, b]) (.tuple [c]) = false := by simp [PyData.eqv, PyData.eqvAll]
theorem ev_t22 : PyData.eqv (.tuple [a, b]) (.tuple [c, d]) = (PyData.eqv a c && PyData.eqv b d) := by simp [PyData.eqv, PyData.eqvAll]
theorem ev_t23 : PyData.eqv (.tuple [a, b]) (.tuple [c, d, e]) = false := by simp [PyData.eqv, PyData.eqvAll]
theorem ev_t31 : PyData.eqv (.tuple [a, b, c]) (.tuple [d]) = false := by simp [PyData.eqv, PyData.eqvAll]
theorem ev_t32 : PyData.eqv (.tuple [a, b, c]) (.tuple [d, e]) = false := by simp [PyData.eqv, PyData.eqvAll]
theorem ev_t33 : PyData.eqv (.tuple [a, b, c]) (.tuple [d, e, f]) = (PyData.eqv a d && (PyData.eqv b e && PyData.eqv c f)) := by simp [PyData.eqv, PyData.eqvAll]
end
theorem t_sa : (Str.ofString "sign" == Str.ofString "again") = false := by decide +kernel
theorem eqv_pt (p q : Pt) : PyData.eqv p.d q.d = p.beq q := by
  induction p generalizing q with
  | non =>
    cases q with
    | non => exact (ev_t11 _ _).trans (by rw [ev_ss]; exact t_nn)
    | sgn y => exact ev_t12 _ _ _
    | again q => exact ev_t12 _ _ _
    | two o a b => cases o <;> exact ev_t13 _ _ _ _
  | sgn x =>
    cases q with
    | non => exact ev_t21 _ _ _
    | sgn y => exact (ev_t22 _ _ _ _).trans (by rw [ev_ss, ev_ss, t_ss]; rfl)
    | again q => exact (ev_t22 _ _ _ _).trans (by rw [ev_ss, t_sa]; rfl)
    | two o a b => cases o <;> exact ev_t23 _ _ _ _ _
  | again p ih =>
    cases q with
    | non => exact ev_t21 _ _ _
    | sgn y => exact (ev_t22 _ _ _ _).trans (by rw [ev_ss, t_as]; rfl)
    | again q => exact (ev_t22 _ _ _ _).trans (by rw [ev_ss, t_aa, ih q]; rfl)
    | two o a b => cases o <;> exact ev_t23 _ _ _ _ _
  | two o a b ih1 ih2 =>
    cases q with
    | non => cases o <;> exact ev_t31 _ _ _ _
    | sgn y => cases o <;> exact ev_t32 _ _ _ _ _
    | again q => cases o <;> exact ev_t32 _ _ _ _ _
    | two o' c d =>
      cases o <;> cases o'
      · exact (ev_t33 _ _ _ _ _ _).trans (by rw [ev_ss, t_tt, ih1, ih2]; rfl)
      · exact (ev_t33 _ _ _ _ _ _).trans (by rw [ev_ss, t_to]; rfl)
      · exact (ev_t33 _ _ _ _ _ _).trans (by rw [ev_ss, t_ot]; rfl)
      · exact (ev_t33 _ _ _ _ _ _).trans (by rw [ev_ss, t_oo, ih1, ih2]; rfl)
/-- the letters of both, rising -/
def both (a b : Str) : Str := ⟨((List.range 128).filter fun c => a.cps.toList.contains c || b.cps.toList.contains c).toArray⟩
def signB (a b : Str) : Option Pt := if (both a b).length ≤ 8 then some (.sgn (both a b)) else none
def thenB (a b c d : Pt) : Option Pt := if a.beq c = true then some (.two false a (.two true b d)) else if b.beq d = true then some (.two false (.two true a c) b) else none
def againR : Pt → Option Pt
  | .non => some .non
  | .again q => some (.again q)
  | .two true p q => if p.beq .non = true then some (.again q) else if q.beq .non = true then some (.again p) else none
  | _ => none
def thenR (p q : Pt) : Option Pt := if p.beq .non = true then some q else if (q.beq .non || (p.beq q && p.isA)) = true then some p else none
def orS : Pt → Pt → Option Pt
  | .sgn a, .sgn b => signB a b
  | .two false a b, .two false c d => thenB a b c d
  | _, _ => none
def orR (p q : Pt) : Option Pt := if (p.beq q || (p.isA && q.beq .non)) = true then some p else if (p.beq .non && q.isA) = true then some q else orS p q
namespace Pt
def rule : Pt → Option Pt
  | .again p => againR p
  | .two false p q => thenR p q
  | .two true p q => orR p q
  | _ => none
def settle (f : Pt → Pt) : Pt → Pt
  | .again p => .again (f p)
  | .two o p q => .two o (f p) (f q)
  | p => p
def put : Nat → Pt → Pt
  | 0, p => p
  | n + 1, p => match (p.settle (put n)).rule with
    | none => p.settle (put n)
    | some r => put n r
def done : Pt → Bool
  | .again p => (Pt.again p).rule.isNone && p.done
  | .two o p q => (Pt.two o p q).rule.isNone && (p.done && q.done)
  | _ => true
theorem parts_pos : ∀ p : Pt, 0 < p.parts
  | .non => Nat.one_pos
  | .sgn _ => Nat.one_pos
  | .again p => Nat.succ_pos _
  | .two _ p q => Nat.succ_pos _
end Pt
structure Less (r p : Pt) : Prop where
  parts : r.parts < p.parts
  leaves : r.leaves ≤ p.leaves
  deep : r.deep ≤ p.deep
theorem small_lt {c : Nat} (h : small c = true) : c < 128 := by
  unfold small at h
  rw [Bool.and_eq_true, decide_eq_true_iff, decide_eq_true_iff] at h
  omega
theorem both_mem {a b : Str} (ha : goodL a = true) (hb : goodL b = true) (c : Nat) : c ∈ (both a b).cps.toList ↔ c ∈ a.cps.toList ∨ c ∈ b.cps.toList := by
  unfold both
  rw [List.toList_toArray, List.mem_filter, List.mem_range, Bool.or_eq_true, List.contains_iff_mem, List.contains_iff_mem]
  constructor
  · exact fun h => h.2
  · intro h
    refine ⟨?_, h⟩
    have sm : ∀ {z : Str}, goodL z = true → c ∈ z.cps.toList → c < 128 := fun {z} g hc => by
      unfold goodL at g
      simp only [Bool.and_eq_true, List.all_eq_true] at g
      exact small_lt (g.1.2 c hc)
    exact h.elim (sm ha) (sm hb)
theorem both_rise (a b : Str) : (both a b).cps.toList.Pairwise (· < ·) := by
  unfold both
  rw [List.toList_toArray]
  exact List.Pairwise.filter _ List.pairwise_lt_range
theorem both_good {a b : Str} (ha : goodL a = true) (hb : goodL b = true) (h8 : (both a b).length ≤ 8) : goodL (both a b) = true := by
  have g := ha
  unfold goodL at g ⊢
  simp only [Bool.and_eq_true, List.all_eq_true, decide_eq_true_iff] at g ⊢
  have gb := hb
  unfold goodL at gb
  simp only [Bool.and_eq_true, List.all_eq_true, decide_eq_true_iff] at gb
  refine ⟨⟨⟨?_, h8⟩, fun c hc => ?_⟩, pw_rising (both_rise a b)⟩
  · have l1 : 0 < a.cps.toList.length := by
      rw [Array.length_toList]
      exact g.1.1.1
    have hm := (both_mem ha hb a.cps.toList[0]).mpr (.inl (List.getElem_mem l1))
    have := List.length_pos_of_mem hm
    rw [Array.length_toList] at this
    exact this
  · exact ((both_mem ha hb c).mp hc).elim (g.1.2 c) (gb.1.2 c)
theorem thenB_less {a b c d r : Pt} (h : thenB a b c d = some r) : Less r (.two true (.two false a b) (.two false c d)) := by
  unfold thenB at h
  split at h
  · rename_i e
    have e := (Pt.beq_iff _ _).mp e
    subst e
    cases h
    constructor <;> simp only [Pt.parts, Pt.leaves, Pt.deep] <;> omega
  · split at h
    · rename_i _ e
      have e := (Pt.beq_iff _ _).mp e
      subst e
      cases h
      constructor <;> simp only [Pt.parts, Pt.leaves, Pt.deep] <;> omega
    · cases h
theorem rule_less : ∀ {p r : Pt}, p.rule = some r → Less r p
  | .non, r, h => by cases h
  | .sgn x, r, h => by cases h
  | .again p, r, h => by
    have h : againR p = some r := h
    unfold againR at h
    split at h
    · cases h
      constructor <;> simp only [Pt.parts, Pt.leaves, Pt.deep] <;> omega
    · cases h
      constructor <;> simp only [Pt.parts, Pt.leaves, Pt.deep] <;> omega
    · split at h
      · cases h
        constructor <;> simp only [Pt.parts, Pt.leaves, Pt.deep] <;> omega
      · split at h
        · cases h
          constructor <;> simp only [Pt.parts, Pt.leaves, Pt.deep] <;> omega
        · cases h
    · cases h
  | .two false p q, r, h => by
    have h : thenR p q = some r := h
    unfold thenR at h
    split at h
    · cases h
      constructor <;> simp only [Pt.parts, Pt.leaves, Pt.deep] <;> omega
    · split at h
      · cases h
        constructor <;> simp only [Pt.parts, Pt.leaves, Pt.deep] <;> omega
      · cases h
  | .two true p q, r, h => by
    have h : orR p q = some r := h
    unfold orR at h
    split at h
    · cases h
      constructor <;> simp only [Pt.parts, Pt.leaves, Pt.deep] <;> omega
    · split at h
      · cases h
        constructor <;> simp only [Pt.parts, Pt.leaves, Pt.deep] <;> omega
      · unfold orS at h
        split at h
        · unfold signB at h
          split at h
          · cases h
            constructor <;> simp only [Pt.parts, Pt.leaves, Pt.deep] <;> omega
          · cases h
        · exact thenB_less h
        · cases h
theorem rule_good {p r : Pt} (g : p.good = true) (h : p.rule = some r) : r.good = true := by
  cases p with
  | non => cases h
  | sgn x => cases h
  | again p =>
    have h : againR p = some r := h
    have g : p.good = true := g
    unfold againR at h
    split at h
    · cases h
      rfl
    · cases h
      exact g
    · simp only [Pt.good, Bool.and_eq_true] at g
      split at h
      · cases h
        exact g.2
      · split at h
        · cases h
          exact g.1
        · cases h
    · cases h
  | two o p q =>
    simp only [Pt.good, Bool.and_eq_true] at g
    cases o with
    | false =>
      have h : thenR p q = some r := h
      unfold thenR at h
      split at h
      · cases h
        exact g.2
      · split at h
        · cases h
          exact g.1
        · cases h
    | true =>
      have h : orR p q = some r := h
      unfold orR at h
      split at h
      · cases h
        exact g.1
      · split at h
        · cases h
          exact g.2
        · unfold orS at h
          split at h
          · unfold signB at h
            split at h
            · cases h
              rename_i h8
              exact both_good g.1 g.2 h8
            · cases h
          · simp only [Pt.good, Bool.and_eq_true] at g
            unfold thenB at h
            split at h
            · cases h
              simp [Pt.good, g]
            · split at h
              · cases h
                simp [Pt.good, g]
              · cases h
          · cases h
structure Le (r p : Pt) : Prop where
  parts : r.parts ≤ p.parts
  leaves : r.leaves ≤ p.leaves
  deep : r.deep ≤ p.deep
theorem Le.refl (p : Pt) : Le p p := ⟨Nat.le_refl _, Nat.le_refl _, Nat.le_refl _⟩
theorem Le.trans {a b c : Pt} (h : Le a b) (k : Le b c) : Le a c := ⟨Nat.le_trans h.parts k.parts, Nat.le_trans h.leaves k.leaves, Nat.le_trans h.deep k.deep⟩
theorem Less.le {a b : Pt} (h : Less a b) : Le a b := ⟨Nat.le_of_lt h.parts, h.leaves, h.deep⟩
theorem settle_le {f : Pt → Pt} {p : Pt} (h : ∀ k ∈ p.kids, Le (f k) k) : Le (p.settle f) p := by
  cases p with
  | non => exact Le.refl _
  | sgn x => exact Le.refl _
  | again p =>
    have z := h p List.mem_cons_self
    obtain ⟨z1, z2, z3⟩ := z
    constructor <;> simp only [Pt.settle, Pt.parts, Pt.leaves, Pt.deep] <;> omega
  | two o p q =>
    obtain ⟨z1, z2, z3⟩ := h p List.mem_cons_self
    obtain ⟨y1, y2, y3⟩ := h q (List.mem_cons_of_mem _ List.mem_cons_self)
    constructor <;> simp only [Pt.settle, Pt.parts, Pt.leaves, Pt.deep] <;> omega
theorem kid_parts : ∀ {p k : Pt} {n : Nat}, k ∈ p.kids → p.parts ≤ n + 1 → k.parts ≤ n
  | .non, _, _, h, _ => by cases h
  | .sgn _, _, _, h, _ => by cases h
  | .again p, k, n, h, hn => by
    have e := List.mem_singleton.mp h
    subst e
    exact Nat.le_of_succ_le_succ hn
  | .two o p q, k, n, h, hn => by
    have hn : p.parts + q.parts + 1 ≤ n + 1 := hn
    rcases List.mem_cons.mp h with e | h
    · subst e
      omega
    · have e := List.mem_singleton.mp h
      subst e
      omega
theorem put_le : ∀ (n : Nat) (p : Pt), p.parts ≤ n → Le (p.put n) p
  | 0, p, _ => Le.refl p
  | n + 1, p, h => by
    have sl : Le (p.settle (Pt.put n)) p := settle_le fun k hk => put_le n k (kid_parts hk h)
    show Le (match (p.settle (Pt.put n)).rule with | none => p.settle (Pt.put n) | some r => r.put n) p
    cases e : (p.settle (Pt.put n)).rule with
    | none => exact sl
    | some r =>
      have q := rule_less e
      have := sl.parts
      have := q.parts
      exact (put_le n r (by omega)).trans (q.le.trans sl)
theorem kid_good : ∀ {p k : Pt}, k ∈ p.kids → p.good = true → k.good = true
  | .non, _, h, _ => by cases h
  | .sgn _, _, h, _ => by cases h
  | .again p, k, h, g => by
    have e := List.mem_singleton.mp h
    subst e
    exact g
  | .two o p q, k, h, g => by
    have g : (p.good && q.good) = true := g
    rw [Bool.and_eq_true] at g
    rcases List.mem_cons.mp h with e | h
    · subst e
      exact g.1
    · have e := List.mem_singleton.mp h
      subst e
      exact g.2
theorem settle_good {f : Pt → Pt} {p : Pt} (g : p.good = true) (h : ∀ k ∈ p.kids, (f k).good = true) : (p.settle f).good = true := by
  cases p with
  | non => exact g
  | sgn x => exact g
  | again p => exact h p List.mem_cons_self
  | two o p q =>
    show ((f p).good && (f q).good) = true
    rw [h p List.mem_cons_self, h q (List.mem_cons_of_mem _ List.mem_cons_self)]
    rfl
theorem put_good : ∀ (n : Nat) (p : Pt), p.good = true → (p.put n).good = true
  | 0, p, g => g
  | n + 1, p, g => by
    have sg := settle_good (f := Pt.put n) g fun k hk => put_good n k (kid_good hk g)
    show (match (p.settle (Pt.put n)).rule with | none => p.settle (Pt.put n) | some r => r.put n).good = true
    cases e : (p.settle (Pt.put n)).rule with
    | none => exact sg
    | some r => exact put_good n r (rule_good sg e)
theorem put_done : ∀ (n : Nat) (p : Pt), p.parts ≤ n → (p.put n).done = true
  | 0, p, h => by
    have := p.parts_pos
    omega
  | n + 1, p, h => by
    have sl : Le (p.settle (Pt.put n)) p := settle_le fun k hk => put_le n k (kid_parts hk h)
    show (match (p.settle (Pt.put n)).rule with | none => p.settle (Pt.put n) | some r => r.put n).done = true
    cases e : (p.settle (Pt.put n)).rule with
    | some r =>
      have := (rule_less e).parts
      have := sl.parts
      exact put_done n r (by omega)
    | none =>
      have kd : ∀ k ∈ p.kids, (k.put n).done = true := fun k hk => put_done n k (kid_parts hk h)
      cases p with
      | non => rfl
      | sgn x => rfl
      | again p =>
        show ((Pt.again (p.put n)).rule.isNone && (p.put n).done) = true
        rw [kd p List.mem_cons_self, show (Pt.again (p.put n)).rule = none from e]
        rfl
      | two o p q =>
        show ((Pt.two o (p.put n) (q.put n)).rule.isNone && ((p.put n).done && (q.put n).done)) = true
        rw [kd p List.mem_cons_self, kd q (List.mem_cons_of_mem _ List.mem_cons_self), show (Pt.two o (p.put n) (q.put n)).rule = none from e]
        rfl
theorem kid_done : ∀ {p k : Pt}, k ∈ p.kids → p.done = true → k.done = true
  | .non, _, h, _ => by cases h
  | .sgn _, _, h, _ => by cases h
  | .again p, k, h, g => by
    have g : ((Pt.again p).rule.isNone && p.done) = true := g
    rw [Bool.and_eq_true] at g
    have e := List.mem_singleton.mp h
    subst e
    exact g.2
  | .two o p q, k, h, g => by
    have g : ((Pt.two o p q).rule.isNone && (p.done && q.done)) = true := g
    rw [Bool.and_eq_true, Bool.and_eq_true] at g
    rcases List.mem_cons.mp h with e | h
    · subst e
      exact g.2.1
    · have e := List.mem_singleton.mp h
      subst e
      exact g.2.2
theorem rule_done : ∀ {p : Pt}, p.done = true → p.rule = none
  | .non, _ => rfl
  | .sgn _, _ => rfl
  | .again p, g => by
    have g : ((Pt.again p).rule.isNone && p.done) = true := g
    rw [Bool.and_eq_true, Option.isNone_iff_eq_none] at g
    exact g.1
  | .two o p q, g => by
    have g : ((Pt.two o p q).rule.isNone && (p.done && q.done)) = true := g
    rw [Bool.and_eq_true, Option.isNone_iff_eq_none] at g
    exact g.1
theorem settle_id {f : Pt → Pt} {p : Pt} (h : ∀ k ∈ p.kids, f k = k) : p.settle f = p := by
  cases p with
  | non => rfl
  | sgn x => rfl
  | again p =>
    show Pt.again (f p) = _
    rw [h p List.mem_cons_self]
  | two o p q =>
    show Pt.two o (f p) (f q) = _
    rw [h p List.mem_cons_self, h q (List.mem_cons_of_mem _ List.mem_cons_self)]
theorem put_same : ∀ (n : Nat) (p : Pt), p.done = true → p.put n = p
  | 0, p, _ => rfl
  | n + 1, p, g => by
    show (match (p.settle (Pt.put n)).rule with | none => p.settle (Pt.put n) | some r => r.put n) = p
    rw [settle_id fun k hk => put_same n k (kid_done hk g), rule_done g]
end K63

set_option Elab.async false
set_option linter.all false
set_option maxRecDepth 100000
set_option maxHeartbeats 4000000
namespace K63
open PySem PySem.Spec L2 TL
abbrev s_put_otherwise : Stmt := top 18
theorem sc_put_otherwise : FnScope ["pattern", "settled", "after", "inner"] ["pattern"] (defScope s_put_otherwise) := ⟨rfl, rfl, rfl, by decide +kernel, rfl, by decide +kernel, by decide +kernel⟩
abbrev s_by_rule : Stmt := top 19
theorem sc_by_rule : FnScope ["pattern", "kind"] ["pattern"] (defScope s_by_rule) := ⟨rfl, rfl, rfl, by decide +kernel, rfl, by decide +kernel, by decide +kernel⟩
abbrev s_again_by_rule : Stmt := top 20
theorem sc_again_by_rule : FnScope ["one"] ["one"] (defScope s_again_by_rule) := ⟨rfl, rfl, rfl, by decide +kernel, rfl, by decide +kernel, by decide +kernel⟩
abbrev s_then_by_rule : Stmt := top 21
theorem sc_then_by_rule : FnScope ["one", "other"] ["one", "other"] (defScope s_then_by_rule) := ⟨rfl, rfl, rfl, by decide +kernel, rfl, by decide +kernel, by decide +kernel⟩
abbrev s_or_by_rule : Stmt := top 22
theorem sc_or_by_rule : FnScope ["one", "other", "kinds"] ["one", "other"] (defScope s_or_by_rule) := ⟨rfl, rfl, rfl, by decide +kernel, rfl, by decide +kernel, by decide +kernel⟩
abbrev s_sign_of_both : Stmt := top 23
theorem sc_sign_of_both : FnScope ["letters", "others", "both", "letter"] ["letters", "others"] (defScope s_sign_of_both) := ⟨rfl, rfl, rfl, by decide +kernel, rfl, by decide +kernel, by decide +kernel⟩
abbrev s_then_of_both : Stmt := top 24
theorem sc_then_of_both : FnScope ["one", "other"] ["one", "other"] (defScope s_then_of_both) := ⟨rfl, rfl, rfl, by decide +kernel, rfl, by decide +kernel, by decide +kernel⟩
/-! ### promises -/
def optD : Option Pt → PyData
  | none => .none
  | some p => p.d
def ok50 (p : Pt) : Prop := p.good = true ∧ p.deep ≤ 50
theorem ok50.sh {p : Pt} (h : ok50 p) : SeqAt.shaped p.d = true := Pt.shp h.1 (by have := h.2; omega)
theorem ok50.k1 {o : Bool} {p q : Pt} (h : ok50 (.two o p q)) : ok50 p := ⟨kid_good (p := .two o p q) List.mem_cons_self h.1, by have := h.2; simp only [Pt.deep] at this; omega⟩
theorem ok50.k2 {o : Bool} {p q : Pt} (h : ok50 (.two o p q)) : ok50 q := ⟨kid_good (p := .two o p q) (List.mem_cons_of_mem _ List.mem_cons_self) h.1, by have := h.2; simp only [Pt.deep] at this; omega⟩
theorem ok50.k {p : Pt} (h : ok50 (.again p)) : ok50 p := ⟨h.1, by have := h.2; simp only [Pt.deep] at this; omega⟩
def S_thenB : DSp := fun as R => ∃ a b c d : Pt, as = [.dat (Pt.two false a b).d, .dat (Pt.two false c d).d] ∧ ok50 (.two false a b) ∧ ok50 (.two false c d) ∧ R (optD (thenB a b c d)) []
def S_signB : DSp := fun as R => ∃ a b : Str, as = [.dat (.str a), .dat (.str b)] ∧ goodL a = true ∧ goodL b = true ∧ R (optD (signB a b)) []
def S_orR : DSp := fun as R => ∃ p q : Pt, as = [.dat p.d, .dat q.d] ∧ ok50 p ∧ ok50 q ∧ R (optD (orR p q)) []
def S_thenR : DSp := fun as R => ∃ p q : Pt, as = [.dat p.d, .dat q.d] ∧ ok50 p ∧ ok50 q ∧ R (optD (thenR p q)) []
def S_againR : DSp := fun as R => ∃ p : Pt, as = [.dat p.d] ∧ ok50 p ∧ R (optD (againR p)) []
def S_by : DSp := fun as R => ∃ p : Pt, as = [.dat p.d] ∧ ok50 p ∧ R (optD p.rule) []
def S_put (n : Nat) : DSp := fun as R => ∃ p : Pt, as = [.dat p.d] ∧ ok50 p ∧ p.parts ≤ n ∧ n ≤ 100 ∧ R (p.put n).d []
theorem mono_thenB : MonoS S_thenB := fun as R R' h ⟨a, b, c, d, e, f, g, k⟩ => ⟨a, b, c, d, e, f, g, h _ _ k⟩
theorem mono_signB : MonoS S_signB := fun as R R' h ⟨a, b, c, d, e, k⟩ => ⟨a, b, c, d, e, h _ _ k⟩
theorem mono_orR : MonoS S_orR := fun as R R' h ⟨a, b, c, d, e, k⟩ => ⟨a, b, c, d, e, h _ _ k⟩
theorem mono_thenR : MonoS S_thenR := fun as R R' h ⟨a, b, c, d, e, k⟩ => ⟨a, b, c, d, e, h _ _ k⟩
theorem mono_againR : MonoS S_againR := fun as R R' h ⟨a, b, c, k⟩ => ⟨a, b, c, h _ _ k⟩
theorem mono_by : MonoS S_by := fun as R R' h ⟨a, b, c, k⟩ => ⟨a, b, c, h _ _ k⟩
theorem mono_put (n : Nat) : MonoS (S_put n) := fun as R R' h ⟨a, b, c, d, e, k⟩ => ⟨a, b, c, d, e, h _ _ k⟩
theorem sh_non : SeqAt.shaped Pt.non.d = true := by decide +kernel
theorem size3 : 3 ≤ sizeLine := by decide
theorem size2 : 2 ≤ sizeLine := by decide
theorem at2 {α : Type} (a b c : α) (l : List α) : atI (a :: b :: c :: l) 2 = some c := by
  unfold atI ixN
  rw [if_pos (by decide), if_pos (by simp only [List.length_cons]; omega)]
  rfl
theorem t_so : (Str.ofString "sign" == Str.ofString "or") = false := by decide +kernel
theorem t_st : (Str.ofString "sign" == Str.ofString "then") = false := by decide +kernel
theorem t_na : (Str.ofString "none" == Str.ofString "again") = false := by decide +kernel
theorem t_nt : (Str.ofString "none" == Str.ofString "then") = false := by decide +kernel
theorem t_no : (Str.ofString "none" == Str.ofString "or") = false := by decide +kernel
theorem beq_non (p : Pt) : PyData.eqv p.d Pt.non.d = p.beq .non := eqv_pt p .non
theorem tag_isA : ∀ p : Pt, (p.tag == Str.ofString "again") = p.isA
  | .non => t_na
  | .sgn _ => t_sa
  | .again _ => t_aa
  | .two false _ _ => t_ta
  | .two true _ _ => t_oa
section
variable {P : Program} {w : World} {K : PySem.W.Frag} {mg : Str → Option Value} {base : Heap}
variable (m_len : mg "len" = none) (m_isinstance : mg "isinstance" = none) (m_str : mg "str" = none) (m_bool : mg "bool" = none) (m_range : mg "range" = none) (m_int : mg "int" = none) (m_max : mg "max" = none) (m_min : mg "min" = none)
  (m_sum : mg "sum" = none) (m_sorted : mg "sorted" = none) (m_set : mg "set" = none) (m_tuple : mg "tuple" = none) (m_all : mg "all" = none) (m_zip : mg "zip" = none) (m_repr : mg "repr" = none)
include m_len m_isinstance m_str m_bool m_range m_int m_max m_min m_sum m_sorted m_set m_tuple m_all m_zip m_repr

theorem ok_then_of_both {f : Addr} {fd : FuncData} (F : Fun K "then_of_both" "then_of_both" s_then_of_both f fd)  : FnOkG P w K mg base CX0 1 f fd ["one", "other"] (spD K S_thenB) := by
  refine fnD F sc_then_of_both (fun as R h => by obtain ⟨_, _, _, _, rfl, _⟩ := h; rfl) fun cdv A outer s H E hr => ?_
  have nd := sc_then_of_both.nd
  have hu := hr.units
  have hu1 := hr.units1
  refine ⟨_, _, (dss_cons (ds_if (dt_cmp (op_eqD hu) ro_eq (nomark _) (de_ix ix_tup ro_ixT (de_var 0) de_int) (de_ix ix_tup ro_ixT (de_var 1) de_int)) (dss_one (ds_ret (de_tup (da_cons de_str (da_cons (de_ix ix_tup ro_ixT (de_var 0) de_int) (da_cons (de_tup (da_cons de_str (da_cons (de_ix ix_tup ro_ixT (de_var 0) de_int) (da_cons (de_ix ix_tup ro_ixT (de_var 1) de_int) da_nil)))) da_nil)))))) dss_nil)
    (dss_cons (ds_if (dt_cmp (op_eqD hu) ro_eq (nomark _) (de_ix ix_tup ro_ixT (de_var 0) de_int) (de_ix ix_tup ro_ixT (de_var 1) de_int)) (dss_one (ds_ret (de_tup (da_cons de_str (da_cons (de_tup (da_cons de_str (da_cons (de_ix ix_tup ro_ixT (de_var 0) de_int) (da_cons (de_ix ix_tup ro_ixT (de_var 1) de_int) da_nil)))) (da_cons (de_ix ix_tup ro_ixT (de_var 0) de_int) da_nil)))))) dss_nil)
    (dss_one (ds_ret de_non)))), ?_⟩
  rintro as R ⟨a, b, c, d, rfl, h1, h2, hR⟩
  have e1 : (Pt.two false a b).d = .tuple [.str (Str.ofString "then"), a.d, b.d] := rfl
  have e2 : (Pt.two false c d).d = .tuple [.str (Str.ofString "then"), c.d, d.d] := rfl
  unfold thenB at hR
  rw [e1, e2]
  simp [dRet, dSeq, dNext, dIfS, dIf, dAsg, dgName, dTest, dOr, dAnd, dNot, dOp, dIxT, dVar, dC, dEq, dEqC, at0, at1, at2, dTup, dCons, dNil, endsOf, eqv_pt, beq_non, h1.k1.sh, h1.k2.sh, h2.k1.sh, h2.k2.sh]
  by_cases c1 : a.beq c = true
  · rw [if_pos c1] at hR ⊢
    exact ⟨size3, [], hR, outs0⟩
  · rw [if_neg c1] at hR ⊢
    by_cases c2 : b.beq d = true
    · rw [if_pos c2] at hR ⊢
      exact ⟨size3, [], hR, outs0⟩
    · rw [if_neg c2] at hR ⊢
      exact ⟨[], hR, outs0⟩
theorem ok_then_by_rule {f : Addr} {fd : FuncData} (F : Fun K "then_by_rule" "then_by_rule" s_then_by_rule f fd) {aN : Addr} (gt_NONE : GDat K mg "NONE" aN Pt.non.d) : FnOkG P w K mg base CX0 1 f fd ["one", "other"] (spD K S_thenR) := by
  refine fnD F sc_then_by_rule (fun as R h => by obtain ⟨_, _, rfl, _⟩ := h; rfl) fun cdv A outer s H E hr => ?_
  have nd := sc_then_by_rule.nd
  have hu := hr.units
  have hu1 := hr.units1
  refine ⟨_, _, (dss_cons (ds_if (dt_eqG hu gt_NONE (de_var 0)) (dss_one (ds_ret (de_var 1))) dss_nil)
    (dss_cons (ds_if (dt_w (dw_or (dt_eqG hu gt_NONE (de_var 1)) (dw_or1 (dt_w (dw_and (dt_cmp (op_eqD hu) ro_eq (nomark _) (de_var 0) (de_var 1)) (dw_and1 (dt_cmp (op_eqD hu) ro_eq (nomark _) (de_ix ix_tup ro_ixT (de_var 0) de_int) de_str))))))) (dss_one (ds_ret (de_var 0))) dss_nil)
    (dss_one (ds_ret de_non)))), ?_⟩
  rintro as R ⟨p, q, rfl, h1, h2, hR⟩
  unfold thenR at hR
  have ht : ∀ k : PyData → Prop, k (.str p.tag) → (match p.d with | .tuple ds => (match atI ds 0 with | some d => k d | none => False) | _ => False) := fun k h => by
    rw [p.d_eq]
    show (match atI (PyData.str p.tag :: p.rest) 0 with | some d => k d | none => False)
    rw [at0]
    exact h
  simp [dRet, dSeq, dNext, dIfS, dIf, dAsg, dgName, dTest, dOr, dAnd, dNot, dOp, dIxT, dVar, dC, dEq, dEqC, at0, at1, at2, dTup, dCons, dNil, endsOf, eqv_pt, beq_non, h1.sh, h2.sh]
  by_cases c1 : p.beq .non = true
  · rw [if_pos c1] at hR ⊢
    exact ⟨[], hR, outs0⟩
  · rw [if_neg c1] at hR ⊢
    by_cases c2 : q.beq .non = true
    · rw [if_pos c2]
      rw [c2] at hR
      exact ⟨[], hR, outs0⟩
    · rw [if_neg c2]
      rw [Bool.eq_false_iff.mpr c2, Bool.false_or] at hR
      by_cases c3 : p.beq q = true
      · rw [if_pos c3]
        rw [c3, Bool.true_and] at hR
        generalize hb : [Sl.dat p.d, Sl.dat q.d] = δ0
        rw [p.d_eq]
        simp only [at0, p.tag_ok, sh_again, true_and, ev_ss, tag_isA]
        rw [← p.d_eq]
        by_cases c4 : p.isA = true
        · rw [if_pos c4] at hR ⊢
          exact ⟨[], hR, outs0⟩
        · rw [if_neg c4] at hR ⊢
          exact ⟨[], hR, outs0⟩
      · rw [if_neg c3]
        rw [Bool.eq_false_iff.mpr c3, Bool.false_and] at hR
        exact ⟨[], hR, outs0⟩
theorem ok_again_by_rule {f : Addr} {fd : FuncData} (F : Fun K "again_by_rule" "again_by_rule" s_again_by_rule f fd) {aN : Addr} (gt_NONE : GDat K mg "NONE" aN Pt.non.d) : FnOkG P w K mg base CX0 1 f fd ["one"] (spD K S_againR) := by
  refine fnD F sc_again_by_rule (fun as R h => by obtain ⟨_, rfl, _⟩ := h; rfl) fun cdv A outer s H E hr => ?_
  have nd := sc_again_by_rule.nd
  have hu := hr.units
  have hu1 := hr.units1
  refine ⟨_, _, (dss_cons (ds_if (dt_w (dw_or (dt_eqG hu gt_NONE (de_var 0)) (dw_or1 (dt_cmp (op_eqD hu) ro_eq (nomark _) (de_ix ix_tup ro_ixT (de_var 0) de_int) de_str)))) (dss_one (ds_ret (de_var 0))) dss_nil)
    (dss_cons (ds_if (dt_w (dw_and (dt_cmp (op_eqD hu) ro_eq (nomark _) (de_ix ix_tup ro_ixT (de_var 0) de_int) de_str) (dw_and1 (dt_eqG hu gt_NONE (de_ix ix_tup ro_ixT (de_var 0) de_int))))) (dss_one (ds_ret (de_tup (da_cons de_str (da_cons (de_ix ix_tup ro_ixT (de_var 0) de_int) da_nil))))) dss_nil)
    (dss_cons (ds_if (dt_w (dw_and (dt_cmp (op_eqD hu) ro_eq (nomark _) (de_ix ix_tup ro_ixT (de_var 0) de_int) de_str) (dw_and1 (dt_eqG hu gt_NONE (de_ix ix_tup ro_ixT (de_var 0) de_int))))) (dss_one (ds_ret (de_tup (da_cons de_str (da_cons (de_ix ix_tup ro_ixT (de_var 0) de_int) da_nil))))) dss_nil)
    (dss_one (ds_ret de_non))))), ?_⟩
  rintro as R ⟨p, rfl, h1, hR⟩
  have s0 := h1.sh
  cases p with
  | non =>
    simp [dRet, dSeq, dNext, dIfS, dIf, dAsg, dgName, dTest, dOr, dAnd, dNot, dOp, dIxT, dVar, dC, dEq, dEqC, at0, at1, at2, dTup, dCons, dNil, endsOf, eqv_pt, beq_non, s0, Pt.beq]
    exact ⟨[], hR, outs0⟩
  | sgn x =>
    have e1 : (Pt.sgn x).d = .tuple [.str (Str.ofString "sign"), .str x] := rfl
    simp [dRet, dSeq, dNext, dIfS, dIf, dAsg, dgName, dTest, dOr, dAnd, dNot, dOp, dIxT, dVar, dC, dEq, dEqC, at0, at1, at2, dTup, dCons, dNil, endsOf, eqv_pt, beq_non, s0, Pt.beq]
    simp [e1, at0, at1, sh_sign, sh_again, sh_or, ev_ss, t_sa, t_so]
    exact ⟨[], hR, outs0⟩
  | again q =>
    have e1 : (Pt.again q).d = .tuple [.str (Str.ofString "again"), q.d] := rfl
    simp [dRet, dSeq, dNext, dIfS, dIf, dAsg, dgName, dTest, dOr, dAnd, dNot, dOp, dIxT, dVar, dC, dEq, dEqC, at0, at1, at2, dTup, dCons, dNil, endsOf, eqv_pt, beq_non, s0, Pt.beq]
    simp [e1, at0, at1, sh_again, sh_or, ev_ss, t_aa, t_ao]
    exact ⟨[], hR, outs0⟩
  | two b x y =>
    cases b with
    | false =>
      have e1 : (Pt.two false x y).d = .tuple [.str (Str.ofString "then"), x.d, y.d] := rfl
      simp [dRet, dSeq, dNext, dIfS, dIf, dAsg, dgName, dTest, dOr, dAnd, dNot, dOp, dIxT, dVar, dC, dEq, dEqC, at0, at1, at2, dTup, dCons, dNil, endsOf, eqv_pt, beq_non, s0, Pt.beq]
      simp [e1, at0, at1, at2, sh_then, sh_again, sh_or, ev_ss, t_ta, t_to]
      exact ⟨[], hR, outs0⟩
    | true =>
      have e1 : (Pt.two true x y).d = .tuple [.str (Str.ofString "or"), x.d, y.d] := rfl
      simp [dRet, dSeq, dNext, dIfS, dIf, dAsg, dgName, dTest, dOr, dAnd, dNot, dOp, dIxT, dVar, dC, dEq, dEqC, at0, at1, at2, dTup, dCons, dNil, endsOf, eqv_pt, beq_non, s0, Pt.beq]
      simp [e1, at0, at1, at2, sh_or, sh_again, ev_ss, t_oa, t_oo, h1.k1.sh, h1.k2.sh, eqv_pt, beq_non]
      unfold againR at hR
      by_cases c1 : x.beq .non = true
      · simp only [if_pos c1] at hR ⊢
        exact ⟨size2, [], hR, outs0⟩
      · simp only [if_neg c1] at hR ⊢
        by_cases c2 : y.beq .non = true
        · simp only [if_pos c2] at hR ⊢
          exact ⟨size2, [], hR, outs0⟩
        · simp only [if_neg c2] at hR ⊢
          exact ⟨[], hR, outs0⟩
end
end K63

set_option Elab.async false
set_option linter.all false
set_option maxRecDepth 100000
set_option maxHeartbeats 4000000
namespace K63
open PySem PySem.Spec L2 TL
/-- the turns over single signs, each as it is -/
theorem sc_plain {j : Nat} {R : List Str → List Sl → Prop} {δ0 : List Sl} (hj : j < δ0.length) : ∀ (cs : List Nat) (acc : List Str) (δ : List Sl), wipeS δ [j] = wipeS δ0 [j] → acc.length + cs.length ≤ 4000 →
    (∀ δ', wipeS δ' [j] = wipeS δ0 [j] → R (acc ++ cs.map fun c => (⟨#[c]⟩ : Str)) δ') → scW [j] (dgName j) dYes (dVar j) R (cs.map fun c => PyData.str ⟨#[c]⟩) acc δ
  | [], acc, δ, hw, _, h => by
    have z := h δ hw
    rw [List.map_nil, List.append_nil] at z
    exact z
  | c :: cs, acc, δ, hw, hl, h => by
    have w1 : wipeS δ [j] = δ.set j .no := rfl
    have len : δ.length = δ0.length := by
      have z := congrArg List.length hw
      rw [w1, show wipeS δ0 [j] = δ0.set j .no from rfl, List.length_set, List.length_set] at z
      exact z
    simp only [List.map_cons, scW, dgName, dYes, ↓reduceIte]
    rw [w1]
    unfold dVar
    rw [List.getElem?_set_self (by rw [List.length_set, len]; exact hj)]
    show acc.length < 4000 ∧ scW [j] (dgName j) dYes (dVar j) R (cs.map fun c => PyData.str ⟨#[c]⟩) (acc ++ [⟨#[c]⟩]) (wipeS ((δ.set j .no).set j (.dat (.str ⟨#[c]⟩))) [j])
    rw [List.length_cons] at hl
    have w2 : wipeS (wipeS ((δ.set j .no).set j (.dat (.str ⟨#[c]⟩))) [j]) [j] = wipeS δ0 [j] := by
      rw [← hw]
      show ((((δ.set j Sl.no).set j _).set j Sl.no).set j Sl.no) = δ.set j Sl.no
      simp
    refine ⟨by omega, sc_plain hj cs _ _ w2 (by rw [List.length_append, List.length_singleton]; omega) fun δ' hd => ?_⟩
    have z := h δ' hd
    rw [List.map_cons] at z
    rw [List.append_assoc]
    exact z
/-- rising texts of one sign -/
theorem risingS_pw : ∀ (cs : List Nat) (c : Nat), PyProof.Rows.risingS ⟨#[c]⟩ (cs.map fun c => (⟨#[c]⟩ : Str)) = true → (c :: cs).Nodup → (c :: cs).Pairwise (· < ·)
  | [], c, _, _ => List.pairwise_singleton _ _
  | d :: cs, c, h, nd => by
    have h : (!ltCps [d] [c] && PyProof.Rows.risingS ⟨#[d]⟩ (cs.map fun c => (⟨#[c]⟩ : Str))) = true := h
    rw [Bool.and_eq_true] at h
    have hcd : c < d := by
      have z := h.1
      have ne : c ≠ d := fun z => by
        subst z
        simp at nd
      by_cases q : d < c
      · exfalso
        simp [ltCps, q] at z
      · omega
    have ih := risingS_pw cs d h.2 (List.nodup_cons.mp nd).2
    refine List.pairwise_cons.mpr ⟨fun x hx => ?_, ih⟩
    rcases List.mem_cons.mp hx with e | hx
    · rw [e]
      exact hcd
    · exact Nat.lt_trans hcd ((List.pairwise_cons.mp ih).1 x hx)
theorem rise_nat : ∀ {a b : List Nat}, a.Pairwise (· < ·) → b.Pairwise (· < ·) → (∀ k, k ∈ a ↔ k ∈ b) → a = b
  | [], [], _, _, _ => rfl
  | [], y :: b, _, _, h => absurd ((h y).mpr List.mem_cons_self) (by simp)
  | x :: a, [], _, _, h => absurd ((h x).mp List.mem_cons_self) (by simp)
  | x :: a, y :: b, ha, hb, h => by
    have ha' := List.pairwise_cons.mp ha
    have hb' := List.pairwise_cons.mp hb
    have e : x = y := by
      rcases List.mem_cons.mp ((h x).mp List.mem_cons_self) with e | h1
      · exact e
      · rcases List.mem_cons.mp ((h y).mpr List.mem_cons_self) with e | h2
        · exact e.symm
        · have := hb'.1 x h1
          have := ha'.1 y h2
          omega
    subst e
    refine congrArg (x :: ·) (rise_nat ha'.2 hb'.2 fun k => ⟨fun hk => ?_, fun hk => ?_⟩)
    · rcases List.mem_cons.mp ((h k).mp (List.mem_cons_of_mem _ hk)) with e | h1
      · have := ha'.1 k hk
        omega
      · exact h1
    · rcases List.mem_cons.mp ((h k).mpr (List.mem_cons_of_mem _ hk)) with e | h1
      · have := hb'.1 k hk
        omega
      · exact h1
/-- sorted texts of single signs are those of the rising list -/
theorem sorted_ones {ms : List Str} {l cs : List Nat} (hs : PyProof.Rows.sortedS ms = true) (nd : ms.Nodup) (hm : ∀ z, z ∈ ms ↔ z ∈ l.map fun c => (⟨#[c]⟩ : Str)) (hc : cs.Pairwise (· < ·)) (hcl : ∀ c, c ∈ cs ↔ c ∈ l) : ms = cs.map fun c => (⟨#[c]⟩ : Str) := by
  have inj : ∀ {a b : Nat}, (⟨#[a]⟩ : Str) = ⟨#[b]⟩ → a = b := fun h => by simpa using h
  have ex : ∃ ds : List Nat, ms = ds.map fun c => (⟨#[c]⟩ : Str) := by
    have all : ∀ z ∈ ms, ∃ c, z = (⟨#[c]⟩ : Str) := fun z hz => by
      obtain ⟨c, _, e⟩ := List.mem_map.mp ((hm z).mp hz)
      exact ⟨c, e.symm⟩
    clear hs nd hm
    induction ms with
    | nil => exact ⟨[], rfl⟩
    | cons z r ih =>
      obtain ⟨ds, e⟩ := ih fun y hy => all y (List.mem_cons_of_mem _ hy)
      obtain ⟨c, e2⟩ := all z List.mem_cons_self
      exact ⟨c :: ds, by rw [e, e2]; rfl⟩
  obtain ⟨ds, rfl⟩ := ex
  have ndd : ds.Nodup := (List.Pairwise.of_map _ (fun a b h e => h (by rw [e])) nd)
  have pw : ds.Pairwise (· < ·) := by
    cases ds with
    | nil => exact .nil
    | cons c r => exact risingS_pw r c hs ndd
  rw [rise_nat pw hc fun k => ?_]
  rw [hcl k]
  constructor
  · intro hk
    obtain ⟨c, hc, e⟩ := List.mem_map.mp ((hm ⟨#[k]⟩).mp (List.mem_map.mpr ⟨k, hk, rfl⟩))
    exact inj e ▸ hc
  · intro hk
    obtain ⟨c, hc, e⟩ := List.mem_map.mp ((hm ⟨#[k]⟩).mpr (List.mem_map.mpr ⟨k, hk, rfl⟩))
    exact inj e ▸ hc
theorem nd_len {l m : List Str} (nd : l.Nodup) (h : ∀ z ∈ l, z ∈ m) : l.length ≤ m.length := by
  induction l generalizing m with
  | nil => exact Nat.zero_le _
  | cons x r ih =>
    have hx := h x List.mem_cons_self
    obtain ⟨a, b, rfl⟩ := List.append_of_mem hx
    have nd' := List.nodup_cons.mp nd
    have q := ih (m := a ++ b) nd'.2 fun z hz => by
      have hne : z ≠ x := fun e => nd'.1 (e ▸ hz)
      rcases List.mem_append.mp (h z (List.mem_cons_of_mem _ hz)) with q | q
      · exact List.mem_append_left _ q
      · rcases List.mem_cons.mp q with e | q
        · exact absurd e hne
        · exact List.mem_append_right _ q
    rw [List.length_append] at q
    rw [List.length_cons, List.length_append, List.length_cons]
    omega
theorem good_le {z : Str} (h : goodL z = true) : z.cps.toList.length ≤ 8 := by
  unfold goodL at h
  simp only [Bool.and_eq_true, decide_eq_true_iff] at h
  rw [Array.length_toList]
  exact h.1.1.2
theorem dIxT_tag (p : Pt) (R : PyData → Prop) : dIxT p.d (.int 0) R = R (.str p.tag) := by
  rw [p.d_eq]
  show (match atI (PyData.str p.tag :: p.rest) 0 with | some d => R d | none => False) = _
  rw [at0]
theorem dIxT_1 (a b : PyData) (l : List PyData) (R : PyData → Prop) : dIxT (.tuple (a :: b :: l)) (.int 1) R = R b := by
  show (match atI (a :: b :: l) 1 with | some d => R d | none => False) = _
  rw [at1]
theorem dIxT_2 (a b c : PyData) (l : List PyData) (R : PyData → Prop) : dIxT (.tuple (a :: b :: c :: l)) (.int 2) R = R c := by
  show (match atI (a :: b :: c :: l) 2 with | some d => R d | none => False) = _
  rw [at2]
def Pt.isT : Pt → Bool
  | .two false _ _ => true
  | _ => false
theorem tag_isN : ∀ p : Pt, (p.tag == Str.ofString "none") = p.beq .non
  | .non => t_nn
  | .sgn _ => t_sn
  | .again _ => t_an
  | .two false _ _ => t_tn
  | .two true _ _ => t_on
theorem tag_isT : ∀ p : Pt, (p.tag == Str.ofString "then") = p.isT
  | .non => t_nt
  | .sgn _ => t_st
  | .again _ => t_at
  | .two false _ _ => t_tt
  | .two true _ _ => t_ot
theorem sh_tags {a b : Str} (h1 : SeqAt.shaped (.str a) = true) (h2 : SeqAt.shaped (.str b) = true) : SeqAt.shaped (.tuple [.str a, .str b]) = true := by
  unfold SeqAt.shaped at *
  simp [PyData.canLay0, PyData.canLayAll0, PyData.depth, PyData.depthAll] at h1 h2 ⊢
  exact ⟨h1, h2⟩
theorem kinds_eq (p q : Pt) (a b : Str) : PyData.eqv (.tuple [.str p.tag, .str q.tag]) (.tuple [.str a, .str b]) = ((p.tag == a) && (q.tag == b)) := (ev_t22 _ _ _ _).trans (by rw [ev_ss, ev_ss])
theorem orS_none : ∀ {p q : Pt}, (p.isS && q.isS) = false → (p.isT && q.isT) = false → orS p q = none := fun {p q} h1 h2 => by
  unfold orS
  split
  · simp [Pt.isS] at h1
  · simp [Pt.isT] at h2
  · rfl
theorem isS_of : ∀ {p : Pt}, p.isS = true → ∃ a, p = .sgn a
  | .sgn a, _ => ⟨a, rfl⟩
theorem isT_of : ∀ {p : Pt}, p.isT = true → ∃ a b, p = .two false a b
  | .two false a b, _ => ⟨a, b, rfl⟩
section
variable {P : Program} {w : World} {K : PySem.W.Frag} {mg : Str → Option Value} {base : Heap}
variable (m_len : mg "len" = none) (m_isinstance : mg "isinstance" = none) (m_str : mg "str" = none) (m_bool : mg "bool" = none) (m_range : mg "range" = none) (m_int : mg "int" = none) (m_max : mg "max" = none) (m_min : mg "min" = none)
  (m_sum : mg "sum" = none) (m_sorted : mg "sorted" = none) (m_set : mg "set" = none) (m_tuple : mg "tuple" = none) (m_all : mg "all" = none) (m_zip : mg "zip" = none) (m_repr : mg "repr" = none)
include m_len m_isinstance m_str m_bool m_range m_int m_max m_min m_sum m_sorted m_set m_tuple m_all m_zip m_repr

theorem ok_sign_of_both {f : Addr} {fd : FuncData} (F : Fun K "sign_of_both" "sign_of_both" s_sign_of_both f fd) (g_LETTERS_MOST : ∃ tk, mg "LETTERS_MOST" = some (.int 8 tk)) : FnOkG P w K mg base CX0 1 f fd ["letters", "others"] (spD K S_signB) := by
  refine fnD F sc_sign_of_both (fun as R h => by obtain ⟨_, _, rfl, _⟩ := h; rfl) fun cdv A outer s H E hr => ?_
  have nd := sc_sign_of_both.nd
  have hu := hr.units
  have hu1 := hr.units1
  refine ⟨_, _, (dss_cons (ds_set 2 nd (de_join de_str (de_sortSc [("letter", 3)] m_sorted rfl nd (di_str (de_op op_add_str ro_addS (de_var 0) (de_var 1))) (blkOk_by (N := ["letters", "others", "both", "letter"]) (sc := defScope s_sign_of_both) (by decide +kernel)) (fun _ _ _ _ _ => (dg_name 3 nd)) (fun _ _ _ _ _ => dts_nil) (fun _ _ _ _ _ => (de_var 3)) (by decide))))
    (dss_one (ds_ret (de_if (dt_cmp op_le ro_B (nomark _) (de_len (ps := default) m_len (de_var 2)) (de_gint rfl g_LETTERS_MOST)) (de_tup (da_cons de_str (da_cons (de_var 2) da_nil))) de_non)))), ?_⟩
  rintro as R ⟨a, b, rfl, h1, h2, hR⟩
  have l1 := good_le h1
  have l2 := good_le h2
  have tl : (a ++ b).cps.toList = a.cps.toList ++ b.cps.toList := by
    show (a.cps ++ b.cps).toList = _
    rw [Array.toList_append]
  dsimp only [dSeq, dAsg, dJoin, dC, dSortSc, diS, dOp, dVar, dgName]
  show (dAddS (.str a) (.str b) fun d => _)
  refine ⟨by rw [show a.length = a.cps.toList.length from (Array.length_toList).symm, show b.length = b.cps.toList.length from (Array.length_toList).symm]; exact Nat.le_trans (Nat.add_le_add l1 l2) (by decide), ?_⟩
  show scW _ _ _ _ _ ((a ++ b).cps.toList.map fun c => PyData.str ⟨#[c]⟩) [] _
  rw [tl]
  refine sc_plain (δ0 := [.dat (.str a), .dat (.str b), .no, .no]) (by show 3 < 4; decide) _ [] _ rfl (by rw [List.length_append]; simp only [List.length_nil]; omega) fun δ' hd => ?_
  rw [List.nil_append]
  refine ⟨fun l nd hm => ?_, fun ms hs nd hm => ?_⟩
  · refine Nat.lt_of_le_of_lt (nd_len nd fun z hz => (hm z).mp hz) ?_
    rw [List.length_map, List.length_append]
    omega
  · have e : ms = (both a b).cps.toList.map fun c => (⟨#[c]⟩ : Str) := sorted_ones hs nd hm (both_rise a b) fun c => by rw [both_mem h1 h2, List.mem_append]
    subst e
    rw [List.map_map]
    have hδ : ∃ x, δ' = [.dat (.str a), .dat (.str b), .no, x] := by
      rcases δ' with _ | ⟨x0, _ | ⟨x1, _ | ⟨x2, _ | ⟨x3, r⟩⟩⟩⟩ <;> simp [wipeS] at hd
      obtain ⟨rfl, rfl, rfl, rfl⟩ := hd
      exact ⟨x3, rfl⟩
    obtain ⟨x, rfl⟩ := hδ
    show (match strsOf ((both a b).cps.toList.map fun c => PyData.str ⟨#[c]⟩) with | some ys => _ | none => False)
    rw [strsOf_ones]
    have bl : (both a b).cps.toList.length ≤ 128 := by
      unfold both
      rw [List.toList_toArray]
      exact Nat.le_trans (List.length_filter_le _ _) (by rw [List.length_range]; exact Nat.le_refl _)
    refine ⟨?_, ?_⟩
    · have q : ∀ L : List Nat, ((L.map fun c => (⟨#[c]⟩ : Str)).map (·.length)).sum = L.length := fun L => by
        induction L with
        | nil => rfl
        | cons c r ih =>
          rw [List.map_cons, List.map_cons, List.sum_cons, ih, List.length_cons]
          show 1 + r.length = r.length + 1
          omega
      rw [q, List.length_map]
      show (both a b).cps.toList.length + (both a b).cps.toList.length * 0 ≤ 16777216
      omega
    · rw [join_ones]
      have eb : (⟨(both a b).cps.toList.toArray⟩ : Str) = both a b := by simp
      rw [eb]
      have bz : (both a b).length ≤ sizeLine := by
        rw [show (both a b).length = (both a b).cps.toList.length from (Array.length_toList).symm]
        exact Nat.le_trans bl (by decide)
      unfold signB at hR
      simp [dRet, dIf, dTest, dOp, dLen, dVar, dC, dB, dTup, dCons, dNil, endsOf, bz]
      by_cases h8 : (both a b).length ≤ 8
      · rw [if_pos h8] at hR
        rw [if_pos (by omega)]
        exact ⟨size2, [], hR, outs0⟩
      · rw [if_neg h8] at hR
        rw [if_neg (by omega)]
        exact ⟨[], hR, outs0⟩
theorem ok_or_by_rule {f : Addr} {fd : FuncData} (F : Fun K "or_by_rule" "or_by_rule" s_or_by_rule f fd) (k_sign_of_both : Kn P w K mg base 1 "sign_of_both" S_signB) (k_then_of_both : Kn P w K mg base 1 "then_of_both" S_thenB) : FnOkG P w K mg base CX0 2 f fd ["one", "other"] (spD K S_orR) := by
  refine fnD F sc_or_by_rule (fun as R h => by obtain ⟨_, _, rfl, _⟩ := h; rfl) fun cdv A outer s H E hr => ?_
  have nd := sc_or_by_rule.nd
  have hu := hr.units
  have hu1 := hr.units1
  refine ⟨_, _, (dss_cons (ds_set 2 nd (de_tup (da_cons (de_ix ix_tup ro_ixT (de_var 0) de_int) (da_cons (de_ix ix_tup ro_ixT (de_var 1) de_int) da_nil))))
    (dss_cons (ds_if (dt_w (dw_or (dt_cmp (op_eqD hu) ro_eq (nomark _) (de_var 0) (de_var 1)) (dw_or1 (dt_cmp (op_eqD hu) ro_eq (nomark _) (de_var 2) (de_tup (da_cons de_str (da_cons de_str da_nil))))))) (dss_one (ds_ret (de_var 0))) dss_nil)
    (dss_cons (ds_if (dt_cmp (op_eqD hu) ro_eq (nomark _) (de_var 2) (de_tup (da_cons de_str (da_cons de_str da_nil)))) (dss_one (ds_ret (de_var 1))) dss_nil)
    (dss_cons (ds_if (dt_cmp (op_eqD hu) ro_eq (nomark _) (de_var 2) (de_tup (da_cons de_str (da_cons de_str da_nil)))) (dss_one (ds_ret (de_call k_sign_of_both hr (by omega) (dca_d (de_ix ix_tup ro_ixT (de_var 0) de_int) (dca_d (de_ix ix_tup ro_ixT (de_var 1) de_int) dca_nil))))) dss_nil)
    (dss_cons (ds_if (dt_cmp (op_eqD hu) ro_eq (nomark _) (de_var 2) (de_tup (da_cons de_str (da_cons de_str da_nil)))) (dss_one (ds_ret (de_call k_then_of_both hr (by omega) (dca_d (de_var 0) (dca_d (de_var 1) dca_nil))))) dss_nil)
    (dss_one (ds_ret de_non))))))), ?_⟩
  rintro as R ⟨p, q, rfl, h1, h2, hR⟩
  have sk := sh_tags p.tag_ok q.tag_ok
  have s1 := sh_tags sh_again sh_none
  have s2 := sh_tags sh_none sh_again
  have s3 := sh_tags sh_sign sh_sign
  have s4 := sh_tags sh_then sh_then
  unfold orR at hR
  simp [dRet, dSeq, dNext, dIfS, dIf, dAsg, dgName, dTest, dOr, dAnd, dNot, dOp, dIxT_tag, dIxT_1, dIxT_2, dVar, dC, dEq, dEqC, dTup, dCons, dNil, endsOf, eqv_pt, beq_non, h1.sh, h2.sh, sk, s1, s2, s3, s4, size2, kinds_eq, tag_isA, tag_isN, tag_isT, Pt.tag_isS]
  by_cases c1 : p.beq q = true
  · rw [if_pos c1]
    rw [c1] at hR
    exact ⟨[], hR, outs0⟩
  · rw [if_neg c1]
    rw [Bool.eq_false_iff.mpr c1, Bool.false_or] at hR
    by_cases c2 : p.isA = true ∧ q.beq .non = true
    · rw [if_pos c2]
      rw [c2.1, c2.2] at hR
      exact ⟨[], hR, outs0⟩
    · rw [if_neg c2]
      have c2' : (p.isA && q.beq .non) = false := Bool.eq_false_iff.mpr fun z => c2 (by simpa using z)
      rw [c2'] at hR
      by_cases c3 : p.beq .non = true ∧ q.isA = true
      · rw [if_pos c3]
        rw [c3.1, c3.2] at hR
        exact ⟨[], hR, outs0⟩
      · rw [if_neg c3]
        have c3' : (p.beq .non && q.isA) = false := Bool.eq_false_iff.mpr fun z => c3 (by simpa using z)
        rw [c3'] at hR
        have hR : R (optD (orS p q)) [] := hR
        by_cases c4 : p.isS = true ∧ q.isS = true
        · rw [if_pos c4]
          obtain ⟨a, rfl⟩ := isS_of c4.1
          obtain ⟨b, rfl⟩ := isS_of c4.2
          refine call_pure2 (S := S_signB) (δ' := [.dat (Pt.sgn a).d, .dat (Pt.sgn b).d, .dat (.tuple [.str (Pt.sgn a).tag, .str (Pt.sgn b).tag])]) [.str a, .str b] (fun Q qq => ?_) mono_signB ⟨a, b, rfl, h1.1, h2.1, rfl, [], hR, outs0⟩
          simp only [cD, dOp, dVar, dC, Pt.d, List.getElem?_cons_zero, List.getElem?_cons_succ, dIxT_1, cNil]
          exact qq
        · rw [if_neg c4]
          have c4' : (p.isS && q.isS) = false := Bool.eq_false_iff.mpr fun z => c4 (by simpa using z)
          by_cases c5 : p.isT = true ∧ q.isT = true
          · rw [if_pos c5]
            obtain ⟨a, b, rfl⟩ := isT_of c5.1
            obtain ⟨c, d, rfl⟩ := isT_of c5.2
            exact call_pure2 (S := S_thenB) (δ' := [.dat (Pt.two false a b).d, .dat (Pt.two false c d).d, .dat (.tuple [.str (Pt.two false a b).tag, .str (Pt.two false c d).tag])]) [(Pt.two false a b).d, (Pt.two false c d).d] (fun Q qq => qq) mono_thenB ⟨a, b, c, d, rfl, h1, h2, rfl, [], hR, outs0⟩
          · rw [if_neg c5]
            have c5' : (p.isT && q.isT) = false := Bool.eq_false_iff.mpr fun z => c5 (by simpa using z)
            rw [orS_none c4' c5'] at hR
            exact ⟨[], hR, outs0⟩
end
end K63

set_option Elab.async false
set_option linter.all false
set_option maxRecDepth 100000
set_option maxHeartbeats 4000000
namespace K63
open PySem PySem.Spec L2 TL
theorem isN_opt : ∀ (o : Option Pt) (R : PyData → Prop), dIsN (optD o) .none R = R (.bool o.isNone)
  | none, R => rfl
  | some p, R => by
    show dIsN p.d .none R = _
    rw [p.d_eq]
    rfl
theorem settle_d {f : Pt → Pt} {p : Pt} (h : p.isS = false) : (p.settle f).d = .tuple (.str p.tag :: p.kids.map fun k => (f k).d) := by
  cases p with
  | non => rfl
  | sgn x => cases h
  | again p => rfl
  | two o p q => cases o <;> rfl
theorem snd_kidsD (g : Pt → PyData) (ks : List Pt) : ((ks.map fun k => (k.d, g k)).map (·.2)) = ks.map g := by
  rw [List.map_map]
  rfl
theorem fst_kidsD (g : Pt → PyData) (ks : List Pt) : ((ks.map fun k => (k.d, g k)).map (·.1)) = ks.map Pt.d := by
  rw [List.map_map]
  rfl
/-- the list of what a def tells of the parts within, of any kind -/
theorem kids_listD {g : Pt → PyData} {S : DSp} {R : DQ} {p : Pt} {b c : Sl} (mono : MonoS S) (hS : ∀ k ∈ p.kids, ∀ R' : PyData → List (List PyData) → Prop, R' (g k) [] → S [.dat k.d] R')
    (k : ∀ x, R (.list (p.kids.map g)) [.dat p.d, b, c, x]) :
    dLc (diT (dCall S_inner (cD (dVar 0) cNil))) (dgName 3) dYes (dCall S (cD (dVar 3) cNil)) [3] [.dat p.d, b, c, .no] R := by
  unfold dLc diT
  refine call_pure [p.d] ?_ ⟨p, rfl, rfl, ?_⟩ (mono_inner _)
  · exact fun Q q => q
  show lcW [3] (dgName 3) dYes (dCall S (cD (dVar 3) cNil)) (fun acc δ' => R (.list acc) δ') (p.kids.map Pt.d) [] [.dat p.d, b, c, .no]
  rw [← fst_kidsD g p.kids]
  refine lc_calls (R := fun acc δ' => R (.list acc) δ') mono (δ0 := [.dat p.d, b, c, .no]) rfl (by show 3 < 4; decide) _ [] _ rfl ?_ ?_ ?_
  · have := p.kids_len
    rw [List.length_map]
    show 0 + _ ≤ _
    omega
  · intro q hq R' h
    obtain ⟨a, ha, rfl⟩ := List.mem_map.mp hq
    exact hS a ha R' h
  · intro δ' h
    have hδ : ∃ x, δ' = [.dat p.d, b, c, x] := by
      rcases δ' with _ | ⟨a0, _ | ⟨a1, _ | ⟨a2, _ | ⟨a3, r⟩⟩⟩⟩ <;> simp [wipeS] at h
      obtain ⟨rfl, rfl, rfl, rfl⟩ := h
      exact ⟨a3, rfl⟩
    obtain ⟨x, rfl⟩ := hδ
    rw [snd_kidsD, List.nil_append]
    exact k x
section
variable {P : Program} {w : World} {K : PySem.W.Frag} {mg : Str → Option Value} {base : Heap}
variable (m_len : mg "len" = none) (m_isinstance : mg "isinstance" = none) (m_str : mg "str" = none) (m_bool : mg "bool" = none) (m_range : mg "range" = none) (m_int : mg "int" = none) (m_max : mg "max" = none) (m_min : mg "min" = none)
  (m_sum : mg "sum" = none) (m_sorted : mg "sorted" = none) (m_set : mg "set" = none) (m_tuple : mg "tuple" = none) (m_all : mg "all" = none) (m_zip : mg "zip" = none) (m_repr : mg "repr" = none)
include m_len m_isinstance m_str m_bool m_range m_int m_max m_min m_sum m_sorted m_set m_tuple m_all m_zip m_repr

theorem ok_by_rule {f : Addr} {fd : FuncData} (F : Fun K "by_rule" "by_rule" s_by_rule f fd) (k_again_by_rule : Kn P w K mg base 1 "again_by_rule" S_againR) (k_then_by_rule : Kn P w K mg base 1 "then_by_rule" S_thenR) (k_or_by_rule : Kn P w K mg base 2 "or_by_rule" S_orR) : FnOkG P w K mg base CX0 3 f fd ["pattern"] (spD K S_by) := by
  refine fnD F sc_by_rule (fun as R h => by obtain ⟨_, rfl, _⟩ := h; rfl) fun cdv A outer s H E hr => ?_
  have nd := sc_by_rule.nd
  have hu := hr.units
  have hu1 := hr.units1
  refine ⟨_, _, (dss_cons (ds_set 1 nd (de_ix ix_tup ro_ixT (de_var 0) de_int))
    (dss_cons (ds_if (dt_cmp (op_eqD hu) ro_eq (nomark _) (de_var 1) de_str) (dss_one (ds_ret (de_call k_again_by_rule hr (by omega) (dca_d (de_ix ix_tup ro_ixT (de_var 0) de_int) dca_nil)))) dss_nil)
    (dss_cons (ds_if (dt_cmp (op_eqD hu) ro_eq (nomark _) (de_var 1) de_str) (dss_one (ds_ret (de_call k_then_by_rule hr (by omega) (dca_d (de_ix ix_tup ro_ixT (de_var 0) de_int) (dca_d (de_ix ix_tup ro_ixT (de_var 0) de_int) dca_nil))))) dss_nil)
    (dss_cons (ds_if (dt_cmp (op_eqD hu) ro_eq (nomark _) (de_var 1) de_str) (dss_one (ds_ret (de_call k_or_by_rule hr (by omega) (dca_d (de_ix ix_tup ro_ixT (de_var 0) de_int) (dca_d (de_ix ix_tup ro_ixT (de_var 0) de_int) dca_nil))))) dss_nil)
    (dss_one (ds_ret de_non)))))), ?_⟩
  rintro as R ⟨p, rfl, h1, hR⟩
  simp [dRet, dSeq, dNext, dIfS, dIf, dAsg, dgName, dTest, dOr, dAnd, dNot, dOp, dIxT_tag, dIxT_1, dIxT_2, dVar, dC, dEq, dEqC, endsOf, eqv_pt, beq_non, p.tag_ok, sh_again, sh_then, sh_or, ev_ss]
  cases p with
  | non =>
    rw [if_neg (by decide +kernel), if_neg (by decide +kernel), if_neg (by decide +kernel)]
    exact ⟨[], hR, outs0⟩
  | sgn x =>
    rw [if_neg (by show ¬ Str.ofString "sign" = _; decide +kernel), if_neg (by show ¬ Str.ofString "sign" = _; decide +kernel), if_neg (by show ¬ Str.ofString "sign" = _; decide +kernel)]
    exact ⟨[], hR, outs0⟩
  | again q =>
    rw [if_pos (show (Pt.again q).tag = Str.ofString "again" from rfl)]
    refine call_pure2 (S := S_againR) (δ' := [.dat (Pt.again q).d, .dat (.str (Pt.again q).tag)]) [q.d] (fun Q qq => ?_) mono_againR ⟨q, rfl, h1.k, rfl, [], hR, outs0⟩
    simp only [cD, dOp, dVar, dC, Pt.d, List.getElem?_cons_zero, List.getElem?_cons_succ, dIxT_1, cNil]
    exact qq
  | two o x y =>
    cases o with
    | false =>
      rw [if_neg (by show ¬ Str.ofString "then" = _; decide +kernel), if_pos (show (Pt.two false x y).tag = Str.ofString "then" from rfl)]
      refine call_pure2 (S := S_thenR) (δ' := [.dat (Pt.two false x y).d, .dat (.str (Pt.two false x y).tag)]) [x.d, y.d] (fun Q qq => ?_) mono_thenR ⟨x, y, rfl, h1.k1, h1.k2, rfl, [], hR, outs0⟩
      simp only [cD, dOp, dVar, dC, Pt.d, List.getElem?_cons_zero, List.getElem?_cons_succ, dIxT_1, dIxT_2, cNil]
      exact qq
    | true =>
      rw [if_neg (by show ¬ Str.ofString "or" = _; decide +kernel), if_neg (by show ¬ Str.ofString "or" = _; decide +kernel), if_pos (show (Pt.two true x y).tag = Str.ofString "or" from rfl)]
      refine call_pure2 (S := S_orR) (δ' := [.dat (Pt.two true x y).d, .dat (.str (Pt.two true x y).tag)]) [x.d, y.d] (fun Q qq => ?_) mono_orR ⟨x, y, rfl, h1.k1, h1.k2, rfl, [], hR, outs0⟩
      simp only [cD, dOp, dVar, dC, Pt.d, List.getElem?_cons_zero, List.getElem?_cons_succ, dIxT_1, dIxT_2, cNil]
      exact qq
theorem ok_put_otherwise {f : Addr} {fd : FuncData} (F : Fun K "put_otherwise" "put_otherwise" s_put_otherwise f fd) (n : Nat) (k_inner_of : Kn P w K mg base 1 "inner_of" S_inner) (k_by_rule : Kn P w K mg base 3 "by_rule" S_by) (k_put_otherwise : Kn P w K mg base (n + 4) "put_otherwise" (S_put n)) : FnOkG P w K mg base CX0 (n + 4 + 1) f fd ["pattern"] (spD K (S_put (n + 1))) := by
  refine fnD F sc_put_otherwise (fun as R h => by obtain ⟨_, rfl, _⟩ := h; rfl) fun cdv A outer s H E hr => ?_
  have nd := sc_put_otherwise.nd
  have hu := hr.units
  have hu1 := hr.units1
  refine ⟨_, _, (dss_cons (ds_if (dt_cmp (op_eqD hu) ro_eq (nomark _) (de_ix ix_tup ro_ixT (de_var 0) de_int) de_str) (dss_one (ds_ret (de_var 0))) dss_nil)
    (dss_cons (ds_set 1 nd (de_tup (da_cons (de_ix ix_tup ro_ixT (de_var 0) de_int) (da_star (de_lc [("inner", 3)] rfl nd (di_tup (de_call k_inner_of hr (by omega) (dca_d (de_var 0) dca_nil))) (blkOk_by (N := ["pattern", "settled", "after", "inner"]) (sc := defScope s_put_otherwise) (by decide +kernel)) (fun _ _ _ _ _ => (dg_name 3 nd)) (fun _ _ _ _ _ => dts_nil) (fun _ _ _ _ _ => (de_callI k_put_otherwise hr (by omega) (dca_d (de_var 3) dca_nil))) (by decide)) da_nil))))
    (dss_cons (ds_set 2 nd (de_call k_by_rule hr (by omega) (dca_d (de_var 1) dca_nil)))
    (dss_one (ds_ret (de_if (dt_cmp op_isN ro_isN (nomark _) (de_var 2) de_non) (de_var 1) (de_call k_put_otherwise hr (by omega) (dca_d (de_var 2) dca_nil)))))))), ?_⟩
  rintro as R ⟨p, rfl, h1, hp, hn, hR⟩
  generalize hrest : dSeq (dAsg (dTup _) _) _ = REST
  simp [dRet, dSeq, dNext, dIfS, dIf, dAsg, dgName, dTest, dOr, dAnd, dNot, dOp, dIxT_tag, dIxT_1, dIxT_2, dVar, dC, dEq, dEqC, endsOf, eqv_pt, beq_non, p.tag_ok, sh_sign, ev_ss, p.tag_isS]
  by_cases hs : p.isS = true
  · rw [if_pos hs]
    obtain ⟨a, rfl⟩ := isS_of hs
    exact ⟨[], hR, outs0⟩
  · rw [if_neg hs, ← hrest]
    have hs' := Bool.eq_false_iff.mpr hs
    simp only [dSeq, dAsg, dTup, dCons, dOp, dVar, dC, List.getElem?_cons_zero, dIxT_tag, dStar]
    refine kids_listD (g := fun k => (k.put n).d) (mono_put n) (fun k hk R' h => ⟨k, rfl, ⟨kid_good hk h1.1, ?_⟩, kid_parts hk hp, by omega, h⟩) fun x => ?_
    · have := Pt.kid_deep (n := 49) hk (by have := h1.2; omega)
      omega
    have sl : Le (p.settle (Pt.put n)) p := settle_le fun k hk => put_le n k (kid_parts hk hp)
    have sg : (p.settle (Pt.put n)).good = true := settle_good h1.1 fun k hk => put_good n k (kid_good hk h1.1)
    have so : ok50 (p.settle (Pt.put n)) := ⟨sg, Nat.le_trans sl.deep h1.2⟩
    have e : PyData.tuple (.str p.tag :: ((p.kids.map fun k => (k.put n).d) ++ [])) = (p.settle (Pt.put n)).d := by rw [settle_d hs', List.append_nil]
    refine ⟨?_, ?_⟩
    · have := p.kids_len
      simp only [List.length_cons, List.length_append, List.length_map, List.length_nil]
      exact Nat.le_trans (by omega : _ ≤ 3) (by decide)
    rw [e]
    have hR : R (match (p.settle (Pt.put n)).rule with | none => p.settle (Pt.put n) | some r => r.put n).d [] := hR
    simp only [dgName, dSeq, dAsg, dRet, List.set_cons_succ, List.set_cons_zero]
    refine call_pure2 (S := S_by) (δ' := [.dat p.d, .dat (p.settle (Pt.put n)).d, .no, x]) [(p.settle (Pt.put n)).d] (fun Q qq => qq) mono_by ⟨_, rfl, so, rfl, ?_⟩
    simp only [List.set_cons_succ, List.set_cons_zero, dIf, dTest, dOp, dVar, dC, List.getElem?_cons_zero, List.getElem?_cons_succ, isN_opt]
    cases hr' : (p.settle (Pt.put n)).rule with
    | none =>
      rw [hr'] at hR
      exact ⟨[], hR, outs0⟩
    | some r =>
      rw [hr'] at hR
      have q := rule_less hr'
      have := sl.parts
      have := q.parts
      rw [if_neg (show ¬ (some r).isNone = true from Bool.false_ne_true)]
      exact call_pure2 (S := S_put n) (δ' := [.dat p.d, .dat (p.settle (Pt.put n)).d, .dat r.d, x]) [r.d] (fun Q qq => qq) (mono_put n) ⟨r, rfl, ⟨rule_good sg hr', Nat.le_trans q.deep so.2⟩, by omega, by omega, rfl, [], hR, outs0⟩
end
end K63

set_option Elab.async false
set_option linter.all false
set_option maxRecDepth 100000
set_option maxHeartbeats 8000000
namespace K63
open PySem PySem.Spec L2 TL
abbrev s_law_none_fits : Stmt := top 33
theorem sc_law_none_fits : FnScope ["_law_one", "_law_word", "_law_none", "_law_left", "_law_right_here"] ["_law_one"] (defScope s_law_none_fits) := ⟨rfl, rfl, rfl, by decide +kernel, rfl, by decide +kernel, by decide +kernel⟩
abbrev s_law_done : Stmt := top 34
theorem sc_law_done : FnScope ["_law_one", "_law_part"] ["_law_one"] (defScope s_law_done) := ⟨rfl, rfl, rfl, by decide +kernel, rfl, by decide +kernel, by decide +kernel⟩
abbrev s_law_right : Stmt := top 35
theorem sc_law_right : FnScope ["_law_tree", "_law_kept", "_law_found", "_law_here", "_law_there"] ["_law_tree"] (defScope s_law_right) := ⟨rfl, rfl, rfl, by decide +kernel, rfl, by decide +kernel, by decide +kernel⟩
abbrev s_law_few_letters : Stmt := top 36
theorem sc_law_few_letters : FnScope ["_law_hand_here", "_law_tree", "_law_part"] ["_law_hand_here", "_law_tree"] (defScope s_law_few_letters) := ⟨rfl, rfl, rfl, by decide +kernel, rfl, by decide +kernel, by decide +kernel⟩
abbrev s_law_plain : Stmt := top 37
theorem sc_law_plain : FnScope ["_law_hand_here", "_law_one", "_law_other", "_law_some"] ["_law_hand_here"] (defScope s_law_plain) := ⟨rfl, rfl, rfl, by decide +kernel, rfl, by decide +kernel, by decide +kernel⟩
abbrev s_law_by_rules : Stmt := top 38
theorem sc_law_by_rules : FnScope ["_law_hand_here", "_law_none", "_law_one", "_law_p", "_law_r", "_law_more", "_law_some"] ["_law_hand_here"] (defScope s_law_by_rules) := ⟨rfl, rfl, rfl, by decide +kernel, rfl, by decide +kernel, by decide +kernel⟩
abbrev s_law : Stmt := top 39
theorem sc_law : FnScope ["_law_script", "_law_wide", "_law_near", "_law_a", "_law_b", "_law_c", "_law_k", "_law_hand_here", "_law_tree", "_law_one", "_law_due"] ["_law_script"] (defScope s_law) := ⟨rfl, rfl, rfl, by decide +kernel, rfl, by decide +kernel, by decide +kernel⟩
def S_fits : DSp := fun as R => ∃ p : Pt, as = [.dat p.d] ∧ ok50 p ∧ R (.bool p.rule.isNone) []
theorem mono_fits : MonoS S_fits := fun as R R' h ⟨a, b, c, k⟩ => ⟨a, b, c, h _ _ k⟩
def S_done (n : Nat) : DSp := fun as R => ∃ p : Pt, as = [.dat p.d] ∧ p.good = true ∧ p.deep ≤ n ∧ n ≤ 50 ∧ R (.bool p.done) []
theorem mono_done (n : Nat) : MonoS (S_done n) := fun as R R' h ⟨a, b, c, d, e, k⟩ => ⟨a, b, c, d, e, h _ _ k⟩
theorem ev_st (s : Str) (l : List PyData) : PyData.eqv (.str s) (.tuple l) = false := by simp [PyData.eqv]
theorem ev_ts (s : Str) (l : List PyData) : PyData.eqv (.tuple l) (.str s) = false := by simp [PyData.eqv]
theorem ev_snon (s : Str) : PyData.eqv (.str s) Pt.non.d = false := ev_st _ _
theorem non_d : PyData.tuple [.str (Str.ofString "none")] = Pt.non.d := rfl
/-- how many signs two texts of letters have together -/
theorem signs_both {a b : Str} {l : List Str} (ha : goodL a = true) (hb : goodL b = true) (g : Signs (a ++ b) l) (nd : l.Nodup) : l.length = (both a b).length := by
  have tl : (a ++ b).cps.toList = a.cps.toList ++ b.cps.toList := by
    show (a.cps ++ b.cps).toList = _
    rw [Array.toList_append]
  have e1 : (both a b).length = ((both a b).cps.toList.map fun c => (⟨#[c]⟩ : Str)).length := by
    rw [List.length_map, Array.length_toList]
    rfl
  have nb : ((both a b).cps.toList.map fun c => (⟨#[c]⟩ : Str)).Nodup := by
    refine List.Pairwise.map _ (fun a b h e => h ?_) ((both_rise a b).imp fun {x y} h => Nat.ne_of_lt h)
    simpa using e
  have mem : ∀ z, z ∈ l ↔ z ∈ (both a b).cps.toList.map fun c => (⟨#[c]⟩ : Str) := fun z => by
    rw [g z, List.mem_map]
    constructor
    · rintro ⟨c, hc, rfl⟩
      rw [tl, List.mem_append] at hc
      exact ⟨c, (both_mem ha hb c).mpr hc, rfl⟩
    · rintro ⟨c, hc, rfl⟩
      refine ⟨c, ?_, rfl⟩
      rw [tl, List.mem_append]
      exact (both_mem ha hb c).mp hc
  rw [e1]
  exact Nat.le_antisymm (nd_len nd fun z hz => (mem z).mp hz) (nd_len nb fun z hz => (mem z).mpr hz)
theorem dIxT_0 (a : PyData) (l : List PyData) (R : PyData → Prop) : dIxT (.tuple (a :: l)) (.int 0) R = R a := by
  show (match atI (a :: l) 0 with | some d => R d | none => False) = _
  rw [at0]
theorem tg_non : Pt.non.tag = Str.ofString "none" := rfl
theorem tg_sgn (x : Str) : (Pt.sgn x).tag = Str.ofString "sign" := rfl
theorem tg_again (p : Pt) : (Pt.again p).tag = Str.ofString "again" := rfl
theorem tg_then (p q : Pt) : (Pt.two false p q).tag = Str.ofString "then" := rfl
theorem tg_or (p q : Pt) : (Pt.two true p q).tag = Str.ofString "or" := rfl
theorem tag_isO : ∀ p : Pt, (p.tag == Str.ofString "or") = (match p with | .two true _ _ => true | _ => false)
  | .non => t_no
  | .sgn _ => t_so
  | .again _ => t_ao
  | .two false _ _ => t_to
  | .two true _ _ => t_oo
theorem seq_if {c : DTT} {a rest : DTS} {E : DEnds} {δ : List Sl} (h : c δ fun b δ1 => if b = true then a { E with nx := rest E } δ1 else rest E δ1) : dSeq (dIfS c a dNext) rest E δ := h
theorem seq_asg {u : DTE} {g : DTG} {rest : DTS} {E : DEnds} {δ : List Sl} (h : u δ fun d δ1 => g d δ1 (rest E)) : dSeq (dAsg u g) rest E δ := h
theorem slT1 (a : PyData) (l : List PyData) (R : PyData → Prop) (h : R (.tuple l)) : dSlT (.tuple (a :: l)) (some 1) none R := ⟨cutT1_ne _ _ _, by rw [cutT1]; exact h⟩
theorem non_isA : ∀ {p : Pt}, p.beq .non = true → p.isA = true → False
  | .non, _, h => by cases h
  | .sgn _, h, _ => by cases h
  | .again _, h, _ => by cases h
  | .two _ _ _, h, _ => by cases h
theorem good_size {z : Str} (h : goodL z = true) : z.cps.size ≤ 8 := by
  have := good_le h
  rw [Array.length_toList] at this
  exact this
section
variable {P : Program} {w : World} {K : PySem.W.Frag} {mg : Str → Option Value} {base : Heap}
variable (m_len : mg "len" = none) (m_isinstance : mg "isinstance" = none) (m_str : mg "str" = none) (m_bool : mg "bool" = none) (m_range : mg "range" = none) (m_int : mg "int" = none) (m_max : mg "max" = none) (m_min : mg "min" = none)
  (m_sum : mg "sum" = none) (m_sorted : mg "sorted" = none) (m_set : mg "set" = none) (m_tuple : mg "tuple" = none) (m_all : mg "all" = none) (m_zip : mg "zip" = none) (m_repr : mg "repr" = none)
include m_len m_isinstance m_str m_bool m_range m_int m_max m_min m_sum m_sorted m_set m_tuple m_all m_zip m_repr

theorem ok_law_none_fits {f : Addr} {fd : FuncData} (F : Fun K "_law_none_fits" "_law_none_fits" s_law_none_fits f fd)  : FnOkG P w K mg base CX0 1 f fd ["_law_one"] (spD K S_fits) := by
  refine fnD F sc_law_none_fits (fun as R h => by obtain ⟨_, rfl, _⟩ := h; rfl) fun cdv A outer s H E hr => ?_
  have nd := sc_law_none_fits.nd
  have hu := hr.units
  have hu1 := hr.units1
  refine ⟨_, _, (dss_cons (ds_set 1 nd (de_ix ix_tup ro_ixT (de_var 0) de_int))
    (dss_cons (ds_set 2 nd (de_tup (da_cons de_str da_nil)))
    (dss_cons (ds_if (dt_cmp (op_eqD hu) ro_eq (nomark _) (de_var 1) de_str) (dss_one (ds_ret (de_and (de_cmp (op_neD hu) ro_ne (nomark _) (de_ix ix_tup ro_ixT (de_var 0) de_int) (de_var 2)) (de_and (de_cmp (op_neD hu) ro_ne (nomark _) (de_ix ix_tup ro_ixT (de_ix ix_tup ro_ixT (de_var 0) de_int) de_int) de_str) (de_one (de_not (de_and (de_cmp (op_eqD hu) ro_eq (nomark _) (de_ix ix_tup ro_ixT (de_ix ix_tup ro_ixT (de_var 0) de_int) de_int) de_str) (de_one (de_cmp (op_inDT false hu1) (ro_inTup false) rfl (de_var 2) (de_ix ix_tup ro_ixT (de_var 0) de_int)))))))))) dss_nil)
    (dss_cons (ds_if (dt_cmp (op_eqD hu) ro_eq (nomark _) (de_var 1) de_str) (dss_one (ds_ret (de_and (de_cmp (op_inDT true hu1) (ro_inTup true) rfl (de_var 2) (de_var 0)) (de_one (de_not (de_and (de_cmp (op_eqD hu) ro_eq (nomark _) (de_ix ix_tup ro_ixT (de_var 0) de_int) (de_ix ix_tup ro_ixT (de_var 0) de_int)) (de_one (de_cmp (op_eqD hu) ro_eq (nomark _) (de_ix ix_tup ro_ixT (de_ix ix_tup ro_ixT (de_var 0) de_int) de_int) de_str)))))))) dss_nil)
    (dss_cons (ds_if (dt_cmp (op_neD hu) ro_ne (nomark _) (de_var 1) de_str) (dss_one (ds_ret de_bl)) dss_nil)
    (dss_cons (ds_setTup (de_sl sl_tup rsl_tup (de_var 0) (do_some de_int) do_none) (dg_tup rfl (dgs_cons (dg_name 3 nd) (dgs_cons (dg_name 4 nd) dgs_nil))))
    (dss_cons (ds_if (dt_w (dw_or (dt_cmp (op_eqD hu) ro_eq (nomark _) (de_var 3) (de_var 4)) (dw_or1 (dt_w (dw_and (dt_cmp (op_inDT false hu1) (ro_inTup false) rfl (de_var 2) (de_var 0)) (dw_and1 (dt_cmp (op_inDT false hu1) (ro_inTup false) rfl de_str (de_tup (da_cons (de_ix ix_tup ro_ixT (de_var 3) de_int) (da_cons (de_ix ix_tup ro_ixT (de_var 4) de_int) da_nil)))))))))) (dss_one (ds_ret de_bl)) dss_nil)
    (dss_cons (ds_if (dt_w (dw_and (dt_cmp (op_eqD hu) ro_eq (nomark _) (de_ix ix_tup ro_ixT (de_var 3) de_int) de_str) (dw_and1 (dt_cmp (op_eqD hu) ro_eq (nomark _) (de_ix ix_tup ro_ixT (de_var 4) de_int) de_str)))) (dss_one (ds_ret (de_cmp op_gt ro_B (nomark _) (de_lenSet m_len m_set (de_op op_add_str ro_addS (de_ix ix_tup ro_ixT (de_var 3) de_int) (de_ix ix_tup ro_ixT (de_var 4) de_int))) de_int))) dss_nil)
    (dss_cons (ds_if (dt_w (dw_or (dt_cmp (op_neD hu) ro_ne (nomark _) (de_ix ix_tup ro_ixT (de_var 3) de_int) de_str) (dw_or1 (dt_cmp (op_neD hu) ro_ne (nomark _) (de_ix ix_tup ro_ixT (de_var 4) de_int) de_str)))) (dss_one (ds_ret de_bl)) dss_nil)
    (dss_one (ds_ret (de_and (de_cmp (op_neD hu) ro_ne (nomark _) (de_ix ix_tup ro_ixT (de_var 3) de_int) (de_ix ix_tup ro_ixT (de_var 4) de_int)) (de_one (de_cmp (op_neD hu) ro_ne (nomark _) (de_ix ix_tup ro_ixT (de_var 3) de_int) (de_ix ix_tup ro_ixT (de_var 4) de_int))))))))))))))), ?_⟩
  rintro as R ⟨p, rfl, h1, hR⟩
  have s0 := h1.sh
  have n1 : 1 ≤ sizeLine := by decide
  generalize hrest : dSeq (dAsg (dSl _ _ _ _) _) _ = REST
  cases p with
  | non =>
    simp [dRet, dSeq, dNext, dIfS, dIf, dAsg, dgName, dTest, dOr, dAnd, dNot, dAndV, dNotV, dOp, dIxT_tag, dIxT_0, dIxT_1, dIxT_2, dVar, dC, dEq, dNe, dTup, dCons, dNil, endsOf, eqv_pt, beq_non, dInTup, n1, tg_non, tg_sgn, tg_again, tg_then, tg_or, sh_none, sh_again, sh_then, sh_or, ev_ss, t_nn, t_sn, t_an, t_tn, t_on, t_na, t_sa, t_aa, t_ta, t_oa, t_nt, t_st, t_at, t_tt, t_ot, t_no, t_so, t_ao, t_to, t_oo]
    exact ⟨[], hR, outs0⟩
  | sgn x =>
    simp [dRet, dSeq, dNext, dIfS, dIf, dAsg, dgName, dTest, dOr, dAnd, dNot, dAndV, dNotV, dOp, dIxT_tag, dIxT_0, dIxT_1, dIxT_2, dVar, dC, dEq, dNe, dTup, dCons, dNil, endsOf, eqv_pt, beq_non, dInTup, n1, tg_non, tg_sgn, tg_again, tg_then, tg_or, sh_sign, sh_again, sh_then, sh_or, ev_ss, t_nn, t_sn, t_an, t_tn, t_on, t_na, t_sa, t_aa, t_ta, t_oa, t_nt, t_st, t_at, t_tt, t_ot, t_no, t_so, t_ao, t_to, t_oo]
    exact ⟨[], hR, outs0⟩
  | again q =>
    have e1 : (Pt.again q).d = .tuple [.str (Str.ofString "again"), q.d] := rfl
    have sq := h1.k.sh
    have st := q.tag_ok
    simp [dRet, dSeq, dNext, dIfS, dIf, dAsg, dgName, dTest, dOr, dAnd, dNot, dAndV, dNotV, dOp, dIxT_tag, dIxT_0, dIxT_1, dIxT_2, dVar, dC, dEq, dNe, dTup, dCons, dNil, endsOf, eqv_pt, beq_non, dInTup, n1, tg_non, tg_sgn, tg_again, tg_then, tg_or, sh_again, ev_ss, t_aa, e1, non_d, sh_non, sq, st, sh_or, tag_isA]
    cases q with
    | non =>
      simp [Pt.beq]
      exact ⟨[], hR, outs0⟩
    | sgn z =>
      simp [Pt.beq, Pt.isA, tg_sgn, show ¬ Str.ofString "sign" = Str.ofString "or" by decide +kernel]
      exact ⟨[], hR, outs0⟩
    | again z =>
      simp [Pt.beq, Pt.isA]
      exact ⟨[], hR, outs0⟩
    | two o x y =>
      cases o with
      | false =>
        simp [Pt.beq, Pt.isA, tg_then, show ¬ Str.ofString "then" = Str.ofString "or" by decide +kernel]
        exact ⟨[], hR, outs0⟩
      | true =>
        have e2 : (Pt.two true x y).d = .tuple [.str (Str.ofString "or"), x.d, y.d] := rfl
        rw [e2] at sq
        simp [Pt.beq, Pt.isA, tg_or, e2, sq, ev_snon, beq_non]
        have hR : R (.bool (againR (.two true x y)).isNone) [] := hR
        unfold againR at hR
        cases c1 : x.beq .non <;> cases c2 : y.beq .non <;> simp [c1, c2] at hR ⊢ <;> exact ⟨[], hR, outs0⟩
  | two o x y =>
    cases o with
    | false =>
      have e1 : (Pt.two false x y).d = .tuple [.str (Str.ofString "then"), x.d, y.d] := rfl
      have sx := h1.k1.sh
      have sy := h1.k2.sh
      have st := x.tag_ok
      rw [e1] at s0
      simp [dRet, dSeq, dNext, dIfS, dIf, dAsg, dgName, dTest, dOr, dAnd, dNot, dAndV, dNotV, dOp, dIxT_tag, dIxT_0, dIxT_1, dIxT_2, dVar, dC, dEq, dNe, dTup, dCons, dNil, endsOf, eqv_pt, beq_non, dInTup, n1, tg_non, tg_sgn, tg_again, tg_then, tg_or, sh_again, sh_then, ev_ss, t_ta, t_tt, e1, non_d, sh_non, sx, sy, s0, st, sh_or, tag_isA, ev_snon]
      have hR : R (.bool (thenR x y).isNone) [] := hR
      unfold thenR at hR
      cases c1 : x.beq .non <;> cases c2 : y.beq .non <;> cases c3 : x.beq y <;> cases c4 : x.isA <;> simp [c1, c2, c3, c4] at hR ⊢ <;> exact ⟨[], hR, outs0⟩
    | true =>
      have e1 : (Pt.two true x y).d = .tuple [.str (Str.ofString "or"), x.d, y.d] := rfl
      simp [dRet, dSeq, dNext, dIfS, dIf, dAsg, dgName, dTest, dOr, dAnd, dNot, dAndV, dNotV, dOp, dIxT_tag, dIxT_0, dIxT_1, dIxT_2, dVar, dC, dEq, dNe, dTup, dCons, dNil, endsOf, eqv_pt, beq_non, dInTup, n1, tg_non, tg_sgn, tg_again, tg_then, tg_or, sh_again, sh_then, sh_or, ev_ss, t_oa, t_ot, t_oo]
      rw [← hrest]
      clear hrest
      have sx := h1.k1.sh
      have sy := h1.k2.sh
      have hR : R (.bool (orR x y).isNone) [] := hR
      rw [e1] at s0
      have sk := sh_tags x.tag_ok y.tag_ok
      unfold orR at hR
      refine seq_asg ?_
      generalize hA : dSeq (dIfS _ _ _) _ = RA
      simp only [dSl, dPart, dNoPart, dVar, dC, List.getElem?_cons_zero, e1]
      refine slT1 _ _ _ ⟨rfl, ?_⟩
      show RA _ [.dat (Pt.two true x y).d, .dat (.str (Str.ofString "or")), .dat Pt.non.d, .dat x.d, .dat y.d]
      rw [← hA]
      refine seq_if ?_
      generalize hB : dSeq (dIfS _ _ _) _ = RB
      have next : R (.bool (orS x y).isNone) [] → RB (endsOf R) [.dat (.tuple [.str (Str.ofString "or"), x.d, y.d]), .dat (.str (Str.ofString "or")), .dat Pt.non.d, .dat x.d, .dat y.d] := fun hR => by
        rw [← hB]
        refine seq_if ?_
        generalize hC : dSeq (dIfS _ _ _) _ = RC
        simp [dRet, dSeq, dNext, dIfS, dIf, dAsg, dgName, dTest, dOr, dAnd, dNot, dAndV, dNotV, dOp, dIxT_tag, dIxT_0, dIxT_1, dIxT_2, dVar, dC, dEq, dNe, dTup, dCons, dNil, endsOf, eqv_pt, beq_non, dInTup, e1, sx, sy, s0, sh_non, sk, size2, sh_sign, ev_ss, Pt.tag_isS, x.tag_ok, y.tag_ok]
        have next2 : (x.isS && y.isS) = false → RC (endsOf R) [.dat (.tuple [.str (Str.ofString "or"), x.d, y.d]), .dat (.str (Str.ofString "or")), .dat Pt.non.d, .dat x.d, .dat y.d] := fun hS => by
          rw [← hC]
          refine seq_if ?_
          generalize hD : dRet (dAndV _ _) = RD
          simp [dRet, dSeq, dNext, dIfS, dIf, dAsg, dgName, dTest, dOr, dAnd, dNot, dAndV, dNotV, dOp, dIxT_tag, dIxT_0, dIxT_1, dIxT_2, dVar, dC, dEq, dNe, dTup, dCons, dNil, endsOf, eqv_pt, beq_non, dInTup, e1, sx, sy, s0, sh_non, sk, size2, sh_then, ev_ss, tag_isT, x.tag_ok, y.tag_ok]
          by_cases c1 : x.isT = true
          · by_cases c2 : y.isT = true
            · obtain ⟨a, b, rfl⟩ := isT_of c1
              obtain ⟨c, d, rfl⟩ := isT_of c2
              have hR : R (.bool (thenB a b c d).isNone) [] := hR
              unfold thenB at hR
              have q1 := h1.k1.k1.sh
              have q2 := h1.k1.k2.sh
              have q3 := h1.k2.k1.sh
              have q4 := h1.k2.k2.sh
              simp [c1, c2]
              rw [← hD]
              have e3 : (Pt.two false a b).d = .tuple [.str (Str.ofString "then"), a.d, b.d] := rfl
              have e4 : (Pt.two false c d).d = .tuple [.str (Str.ofString "then"), c.d, d.d] := rfl
              simp [dRet, dSeq, dNext, dIfS, dIf, dAsg, dgName, dTest, dOr, dAnd, dNot, dAndV, dNotV, dOp, dIxT_tag, dIxT_0, dIxT_1, dIxT_2, dVar, dC, dEq, dNe, dTup, dCons, dNil, endsOf, eqv_pt, beq_non, dInTup, e3, e4, q1, q2, q3, q4]
              cases d1 : a.beq c
              · cases d2 : b.beq d
                · simp [d1, d2] at hR ⊢
                  exact ⟨[], hR, outs0⟩
                · simp [d1, d2] at hR ⊢
                  exact ⟨[], hR, outs0⟩
              · simp [d1] at hR ⊢
                exact ⟨[], hR, outs0⟩
            · rw [orS_none hS (by rw [Bool.eq_false_iff.mpr c2, Bool.and_false])] at hR
              simp [c1, c2]
              exact ⟨[], hR, outs0⟩
          · rw [orS_none hS (by rw [Bool.eq_false_iff.mpr c1, Bool.false_and])] at hR
            simp [c1]
            exact ⟨[], hR, outs0⟩
        by_cases c1 : x.isS = true
        · by_cases c2 : y.isS = true
          · obtain ⟨a, rfl⟩ := isS_of c1
            obtain ⟨b, rfl⟩ := isS_of c2
            have ga : goodL a = true := h1.k1.1
            have gb : goodL b = true := h1.k2.1
            have za := good_size ga
            have zb := good_size gb
            have hR : R (.bool (signB a b).isNone) [] := hR
            simp [c1, c2, dLenSet, dAddS, dB, Pt.d, dIxT_1]
            refine ⟨Nat.le_trans (Nat.add_le_add za zb) (by decide), ?_, fun l g nd => ?_⟩
            · rw [show (a ++ b).cps = a.cps ++ b.cps from rfl, Array.size_append]
              omega
            · rw [signs_both ga gb g nd]
              unfold signB at hR
              by_cases h8 : (both a b).length ≤ 8
              · rw [if_pos h8] at hR
                rw [decide_eq_false (by omega)]
                exact ⟨[], hR, outs0⟩
              · rw [if_neg h8] at hR
                rw [decide_eq_true (by omega)]
                exact ⟨[], hR, outs0⟩
          · simp [c1, c2]
            exact next2 (by rw [Bool.eq_false_iff.mpr c2, Bool.and_false])
        · simp [c1]
          exact next2 (by rw [Bool.eq_false_iff.mpr c1, Bool.false_and])
      cases c1 : x.beq y
      · cases c2 : x.beq .non
        · cases c3 : y.beq .non
          · simp only [c1, c2, c3, Bool.and_false, Bool.false_and, Bool.or_self, Bool.false_eq_true, if_false] at hR
            simp [dRet, dSeq, dNext, dIfS, dIf, dAsg, dgName, dTest, dOr, dAnd, dNot, dAndV, dNotV, dOp, dIxT_tag, dIxT_0, dIxT_1, dIxT_2, dVar, dC, dEq, dNe, dTup, dCons, dNil, endsOf, eqv_pt, beq_non, dInTup, e1, sx, sy, s0, sh_non, sk, size2, sh_again, ev_snon, ev_ss, tag_isA, c1, c2, c3]
            exact next hR
          · have nA : y.isA = false := Bool.eq_false_iff.mpr fun z => non_isA c3 z
            cases c4 : x.isA
            · simp only [c1, c2, c3, c4, nA, Bool.and_false, Bool.false_and, Bool.or_self, Bool.false_eq_true, if_false] at hR
              simp [dRet, dSeq, dNext, dIfS, dIf, dAsg, dgName, dTest, dOr, dAnd, dNot, dAndV, dNotV, dOp, dIxT_tag, dIxT_0, dIxT_1, dIxT_2, dVar, dC, dEq, dNe, dTup, dCons, dNil, endsOf, eqv_pt, beq_non, dInTup, e1, sx, sy, s0, sh_non, sk, size2, sh_again, ev_snon, ev_ss, tag_isA, c1, c2, c3, c4, nA]
              exact next hR
            · simp [c1, c2, c3, c4] at hR
              simp [dRet, dSeq, dNext, dIfS, dIf, dAsg, dgName, dTest, dOr, dAnd, dNot, dAndV, dNotV, dOp, dIxT_tag, dIxT_0, dIxT_1, dIxT_2, dVar, dC, dEq, dNe, dTup, dCons, dNil, endsOf, eqv_pt, beq_non, dInTup, e1, sx, sy, s0, sh_non, sk, size2, sh_again, ev_snon, ev_ss, tag_isA, c1, c2, c3, c4]
              exact ⟨[], hR, outs0⟩
        · have nA : x.isA = false := Bool.eq_false_iff.mpr fun z => non_isA c2 z
          cases c4 : y.isA
          · simp only [c1, c2, c4, nA, Bool.and_false, Bool.false_and, Bool.or_self, Bool.false_eq_true, if_false] at hR
            simp [dRet, dSeq, dNext, dIfS, dIf, dAsg, dgName, dTest, dOr, dAnd, dNot, dAndV, dNotV, dOp, dIxT_tag, dIxT_0, dIxT_1, dIxT_2, dVar, dC, dEq, dNe, dTup, dCons, dNil, endsOf, eqv_pt, beq_non, dInTup, e1, sx, sy, s0, sh_non, sk, size2, sh_again, ev_snon, ev_ss, tag_isA, c1, c2, c4, nA]
            exact next hR
          · simp [c1, c2, c4, nA] at hR
            simp [dRet, dSeq, dNext, dIfS, dIf, dAsg, dgName, dTest, dOr, dAnd, dNot, dAndV, dNotV, dOp, dIxT_tag, dIxT_0, dIxT_1, dIxT_2, dVar, dC, dEq, dNe, dTup, dCons, dNil, endsOf, eqv_pt, beq_non, dInTup, e1, sx, sy, s0, sh_non, sk, size2, sh_again, ev_snon, ev_ss, tag_isA, c1, c2, c4]
            exact ⟨[], hR, outs0⟩
      · simp [c1] at hR
        simp [dRet, dSeq, dNext, dIfS, dIf, dAsg, dgName, dTest, dOr, dAnd, dNot, dAndV, dNotV, dOp, dIxT_tag, dIxT_0, dIxT_1, dIxT_2, dVar, dC, dEq, dNe, dTup, dCons, dNil, endsOf, eqv_pt, beq_non, dInTup, e1, sx, sy, c1]
        exact ⟨[], hR, outs0⟩
end
end K63

set_option Elab.async false
set_option linter.all false
set_option maxRecDepth 100000
set_option maxHeartbeats 8000000
namespace K63
open PySem PySem.Spec L2 TL
theorem isT_d (k : Pt) : kitB (tyD k.d) "tuple" = some true := by
  rw [k.d_eq]
  exact kb_tt
/-- the parts within that are not done -/
theorem done_turns {n : Nat} {R : List PyData → List Sl → Prop} {a : Sl} (hn : n ≤ 50) : ∀ (ks : List Pt) (acc : List PyData) (s : Sl), acc.length + ks.length ≤ 100 → (∀ k ∈ ks, k.good = true ∧ k.deep ≤ n) →
    (∀ s', R (acc ++ (ks.filter fun k => !k.done).map Pt.d) [a, s']) →
    lcW [1] (dgName 1) (dAnd (dTest (dIsi "tuple" (dVar 1))) (dNot (dTest (dCall (S_done n) (cD (dVar 1) cNil))))) (dVar 1) R (ks.map Pt.d) acc [a, s]
  | [], acc, s, _, _, h => by
    have z := h s
    rw [List.filter_nil, List.map_nil, List.append_nil] at z
    exact z
  | k :: ks, acc, s, hl, hg, h => by
    have hk := hg k List.mem_cons_self
    have rest := fun acc' s' hl' h' => done_turns (R := R) (a := a) hn ks acc' s' hl' (fun k hk => hg k (List.mem_cons_of_mem _ hk)) h'
    rw [List.length_cons] at hl
    simp only [List.map_cons, lcW, dgName, dAnd, dTest, dIsi, dNot, dVar, wipeS, List.set_cons_succ, List.set_cons_zero, List.getElem?_cons_zero, List.getElem?_cons_succ, isT_d, ↓reduceIte]
    refine call_pure2 (S := S_done n) (δ' := [a, .dat k.d]) [k.d] (fun Q qq => qq) (mono_done n) ⟨k, rfl, hk.1, hk.2, hn, rfl, ?_⟩
    cases q : k.done
    · show acc.length < sizeLine ∧ lcW _ _ _ _ _ _ (acc ++ [k.d]) _
      refine ⟨Nat.lt_of_lt_of_le (by omega : acc.length < 100) (by decide), rest _ _ (by rw [List.length_append, List.length_singleton]; omega) fun s' => ?_⟩
      have z := h s'
      rw [List.filter_cons_of_pos (by rw [q]; rfl), List.map_cons] at z
      rw [List.append_assoc]
      exact z
    · refine rest _ _ (by omega) fun s' => ?_
      have z := h s'
      rw [List.filter_cons_of_neg (by rw [q]; decide)] at z
      exact z
theorem sh_kids : ∀ ks : List Pt, (∀ k ∈ ks, k.good = true ∧ k.deep ≤ 50) → PyData.canLayAll0 (ks.map Pt.d) = true ∧ PyData.depthAll (ks.map Pt.d) ≤ 50
  | [], _ => ⟨rfl, Nat.zero_le _⟩
  | k :: ks, h => by
    have ih := sh_kids ks fun k hk => h k (List.mem_cons_of_mem _ hk)
    have hk := h k List.mem_cons_self
    refine ⟨?_, ?_⟩
    · show (PyData.canLay0 k.d && PyData.canLayAll0 (ks.map Pt.d)) = true
      rw [Pt.lay k hk.1, ih.1]
      rfl
    · show max (PyData.depth k.d) (PyData.depthAll (ks.map Pt.d)) ≤ 50
      have := Pt.dep k
      have := hk.2
      have := ih.2
      omega
theorem sh_list {ks : List Pt} (h : ∀ k ∈ ks, k.good = true ∧ k.deep ≤ 50) : SeqAt.shaped (.list (ks.map Pt.d)) = true := by
  have z := sh_kids ks h
  unfold SeqAt.shaped
  rw [Bool.and_eq_true]
  refine ⟨z.1, decide_eq_true ?_⟩
  show PyData.depthAll _ + 1 ≤ 64
  have := z.2
  omega
theorem ev_lnil : ∀ ks : List Pt, PyData.eqv (.list (ks.map Pt.d)) (.list []) = ks.isEmpty
  | [] => by simp [PyData.eqv, PyData.eqvAll]
  | k :: ks => by simp [PyData.eqv, PyData.eqvAll]
theorem done_eq : ∀ p : Pt, p.done = (p.rule.isNone && (p.kids.filter fun k => !k.done).isEmpty)
  | .non => rfl
  | .sgn _ => rfl
  | .again p => by
    show ((Pt.again p).rule.isNone && p.done) = _
    cases h : p.done <;> simp [Pt.kids, h]
  | .two o p q => by
    show ((Pt.two o p q).rule.isNone && (p.done && q.done)) = _
    cases h : p.done <;> cases h2 : q.done <;> simp [Pt.kids, h, h2]
section
variable {P : Program} {w : World} {K : PySem.W.Frag} {mg : Str → Option Value} {base : Heap}
variable (m_len : mg "len" = none) (m_isinstance : mg "isinstance" = none) (m_str : mg "str" = none) (m_bool : mg "bool" = none) (m_range : mg "range" = none) (m_int : mg "int" = none) (m_max : mg "max" = none) (m_min : mg "min" = none)
  (m_sum : mg "sum" = none) (m_sorted : mg "sorted" = none) (m_set : mg "set" = none) (m_tuple : mg "tuple" = none) (m_all : mg "all" = none) (m_zip : mg "zip" = none) (m_repr : mg "repr" = none)
include m_len m_isinstance m_str m_bool m_range m_int m_max m_min m_sum m_sorted m_set m_tuple m_all m_zip m_repr

theorem ok_law_done {f : Addr} {fd : FuncData} (F : Fun K "_law_done" "_law_done" s_law_done f fd) (n : Nat) (k_law_none_fits : Kn P w K mg base 1 "_law_none_fits" S_fits) (k_law_done : Kn P w K mg base (n + 1) "_law_done" (S_done n)) : FnOkG P w K mg base CX0 (n + 1 + 1) f fd ["_law_one"] (spD K (S_done (n + 1))) := by
  refine fnD F sc_law_done (fun as R h => by obtain ⟨_, rfl, _⟩ := h; rfl) fun cdv A outer s H E hr => ?_
  have nd := sc_law_done.nd
  have hu := hr.units
  have hu1 := hr.units1
  refine ⟨_, _, (dss_cons (ds_if (dt_not (dt_val (de_call k_law_none_fits hr (by omega) (dca_d (de_var 0) dca_nil)))) (dss_one (ds_ret de_bl)) dss_nil)
    (dss_one (ds_ret (de_cmp (op_eqD hu) ro_eq (nomark _) (de_lc [("_law_part", 1)] rfl nd (di_tup (de_sl sl_tup rsl_tup (de_var 0) (do_some de_int) do_none)) (blkOk_by (N := ["_law_one", "_law_part"]) (sc := defScope s_law_done) (by decide +kernel)) (fun _ _ _ _ _ => (dg_name 1 nd)) (fun _ _ _ _ _ => (dts_one (dt_w (dw_and (dt_val (de_isiI (T := "tuple") m_isinstance m_tuple (by decide +kernel) (de_var 1))) (dw_and1 (dt_not (dt_val (de_callI k_law_done hr (by omega) (dca_d (de_var 1) dca_nil))))))))) (fun _ _ _ _ _ => (de_var 1)) (by decide)) (de_lst da_nil))))), ?_⟩
  rintro as R ⟨p, rfl, hg, hd, hn, hR⟩
  refine seq_if ?_
  generalize hB : dRet (dOp _ _ _) = RB
  simp only [dNot, dTest]
  refine call_pure2 (S := S_fits) (δ' := [.dat p.d, .no]) [p.d] (fun Q qq => qq) mono_fits ⟨p, rfl, ⟨hg, by omega⟩, rfl, ?_⟩
  rw [done_eq] at hR
  cases q : p.rule.isNone
  · rw [q] at hR
    show dRet (dC (.bool false)) _ _
    exact ⟨[], hR, outs0⟩
  · rw [q, Bool.true_and] at hR
    show RB (endsOf R) [.dat p.d, .no]
    rw [← hB]
    simp only [dRet, dOp, dLc, diT, dSl, dPart, dNoPart, dVar, dC, List.getElem?_cons_zero]
    rw [p.d_eq]
    refine slT1 _ _ _ ?_
    rw [← p.d_eq]
    have kg : ∀ k ∈ p.kids, k.good = true ∧ k.deep ≤ n := fun k hk => ⟨kid_good hk hg, Pt.kid_deep hk hd⟩
    have fin : ∀ (ks : List Pt) (s : Sl), (∀ k ∈ ks, k.good = true ∧ k.deep ≤ n) → ks.isEmpty = (p.kids.filter fun k => !k.done).isEmpty → dEq (.list (ks.map Pt.d)) (.list []) fun d => (endsOf R).rt d [.dat p.d, s] := fun ks s hk he => by
      refine ⟨sh_list fun k h => ⟨(hk k h).1, by have := (hk k h).2; omega⟩, by decide +kernel, ?_⟩
      rw [ev_lnil, he]
      exact ⟨[], hR, outs0⟩
    cases hS : p.isS
    · rw [Pt.rest_of hS]
      refine done_turns (by omega) p.kids [] .no ?_ kg fun s' => ?_
      · have := p.kids_len
        simp only [List.length_nil]
        omega
      · rw [List.nil_append]
        exact ⟨Nat.zero_le _, fin _ s' (fun k hk => kg k (List.mem_filter.mp hk).1) rfl⟩
    · obtain ⟨x, rfl⟩ := isS_of hS
      show lcW [1] (dgName 1) _ (dVar 1) _ [.str x] [] [.dat (Pt.sgn x).d, .no]
      simp only [lcW, dgName, dAnd, dTest, dIsi, dNot, dVar, wipeS, List.set_cons_succ, List.set_cons_zero, List.getElem?_cons_zero, List.getElem?_cons_succ, show kitB (tyD (.str x)) "tuple" = some false from by show kitB "str" "tuple" = _; decide +kernel, Bool.false_eq_true, if_false]
      exact ⟨Nat.zero_le _, fin [] _ (fun k hk => by cases hk) rfl⟩
end
end K63

set_option Elab.async false
set_option linter.all false
set_option maxRecDepth 100000
set_option maxHeartbeats 8000000
namespace K63
open PySem PySem.Spec L2 TL
/-- of the same shape -/
structure Sm (p q : Pt) : Prop where
  good : q.good = true
  leaves : q.leaves = p.leaves
  parts : q.parts = p.parts
  deep : q.deep = p.deep
def S_few (n : Nat) : DSp := fun as R => ∃ (x y : Int) (p : Pt), as = [.own (some 0) [.int x, .int y], .dat p.d] ∧ okH x y ∧ p.good = true ∧ p.deep ≤ n ∧ n ≤ 50 ∧
  ∀ (q : Pt) (x' y' : Int), Sm p q → okH x' y' → R q.d [[.int x', .int y']]
theorem mono_few (n : Nat) : MonoS (S_few n) := fun as R R' h ⟨x, y, p, a, b, c, d, e, k⟩ => ⟨x, y, p, a, b, c, d, e, fun q x' y' f g => h _ _ (k q x' y' f g)⟩
theorem call_few {n : Nat} {i : Nat} {x y : Int} {t : Option Nat} {δ : List Sl} {R : DQ} {u : DTE} {p : Pt} (hs : δ[i]? = some (.own t [.int x, .int y])) (hv : okH x y) (hg : p.good = true) (hd : p.deep ≤ n) (hn : n ≤ 50)
    (hu : ∀ Q : DQ, Q p.d δ → u δ Q) (k : ∀ (q : Pt) (x' y' : Int), Sm p q → okH x' y' → R q.d (δ.set i (.own t [.int x', .int y']))) : dCall (S_few n) (cS i (cD u cNil)) δ R :=
  call_own1 hs [p.d] (fun Q q => hu _ q) ⟨x, y, p, rfl, hv, hg, hd, hn, fun q x' y' h hv' => ⟨_, rfl, k q x' y' h hv'⟩⟩ (mono_few n _)
/-- lists of the same shapes -/
inductive Sms : List Pt → List Pt → Prop
  | nil : Sms [] []
  | cons {p q : Pt} {ps qs : List Pt} : Sm p q → Sms ps qs → Sms (p :: ps) (q :: qs)
theorem sms_len : ∀ {ps qs : List Pt}, Sms ps qs → qs.length = ps.length
  | _, _, .nil => rfl
  | _, _, .cons _ t => by rw [List.length_cons, List.length_cons, sms_len t]
theorem few_turns {n : Nat} {R : List PyData → List Sl → Prop} {t : Option Nat} {a : Sl} (hn : n ≤ 50) : ∀ (ks : List Pt) (acc : List PyData) (x y : Int) (s : Sl), acc.length + ks.length ≤ 100 → okH x y → (∀ k ∈ ks, k.good = true ∧ k.deep ≤ n) →
    (∀ (qs : List Pt) (x' y' : Int) (s' : Sl), Sms ks qs → okH x' y' → R (acc ++ qs.map Pt.d) [.own t [.int x', .int y'], a, s']) →
    lcW [2] (dgName 2) dYes (dCall (S_few n) (cS 0 (cD (dVar 2) cNil))) R (ks.map Pt.d) acc [.own t [.int x, .int y], a, s]
  | [], acc, x, y, s, _, hv, _, h => by
    have z := h [] x y s .nil hv
    rw [List.map_nil, List.append_nil] at z
    exact z
  | k :: ks, acc, x, y, s, hl, hv, hg, h => by
    have hk := hg k List.mem_cons_self
    rw [List.length_cons] at hl
    simp only [List.map_cons, lcW, dgName, dYes, wipeS, List.set_cons_succ, List.set_cons_zero, ↓reduceIte]
    refine call_few (i := 0) (t := t) (p := k) rfl hv hk.1 hk.2 hn (fun Q qq => qq) fun q x' y' hs hv' => ?_
    simp only [List.set_cons_succ, List.set_cons_zero]
    refine ⟨Nat.lt_of_lt_of_le (by omega : acc.length < 100) (by decide), few_turns hn ks _ x' y' _ (by rw [List.length_append, List.length_singleton]; omega) hv' (fun k hk => hg k (List.mem_cons_of_mem _ hk)) fun qs x2 y2 s2 h2 hv2 => ?_⟩
    have z := h (q :: qs) x2 y2 s2 (.cons hs h2) hv2
    rw [List.map_cons] at z
    rw [List.append_assoc]
    exact z
theorem good_few : ∀ r : Int, 0 ≤ r ∧ r < 5 → ∃ z : Str, atI [PyData.str (Str.ofString "a"), .str (Str.ofString "a"), .str (Str.ofString "b"), .str (Str.ofString "ab"), .str (Str.ofString "c")] r = some (.str z) ∧ goodL z = true := fun r hr => by
  have e : r = 0 ∨ r = 1 ∨ r = 2 ∨ r = 3 ∨ r = 4 := by omega
  rcases e with rfl | rfl | rfl | rfl | rfl
  · exact ⟨_, rfl, by decide +kernel⟩
  · exact ⟨_, rfl, by decide +kernel⟩
  · exact ⟨_, rfl, by decide +kernel⟩
  · exact ⟨_, rfl, by decide +kernel⟩
  · exact ⟨_, rfl, by decide +kernel⟩
theorem cutH (a : PyData) (l : List PyData) : cutP (a :: l) none (some 1) = [a] := by
  have q := HT.sIx_nat (a :: l).length (a :: l).length 1
  unfold cutP
  rw [show ((1 : Nat) : Int) = 1 from rfl] at q
  rw [q, show HT.sIx (a :: l).length 0 none = 0 from rfl, show min 1 (a :: l).length = 1 by rw [List.length_cons]; omega]
  rfl
/-- what the parts become is put together again -/
theorem sms_put {p : Pt} (hS : p.isS = false) (hg : p.good = true) : ∀ {qs : List Pt}, Sms p.kids qs → ∃ q, q.d = .tuple (.str p.tag :: qs.map Pt.d) ∧ Sm p q := by
  intro qs h
  cases p with
  | non =>
    cases h
    exact ⟨.non, rfl, rfl, rfl, rfl, rfl⟩
  | sgn x => cases hS
  | again a =>
    cases h with
    | cons h1 h2 =>
      cases h2
      rename_i q
      refine ⟨.again q, rfl, h1.good, h1.leaves, ?_, ?_⟩
      · show q.parts + 1 = a.parts + 1
        rw [h1.parts]
      · show q.deep + 1 = a.deep + 1
        rw [h1.deep]
  | two o a b =>
    cases h with
    | cons h1 h2 =>
      cases h2 with
      | cons h3 h4 =>
        cases h4
        rename_i q r
        refine ⟨.two o q r, by cases o <;> rfl, ?_, ?_, ?_, ?_⟩
        · show (q.good && r.good) = true
          rw [h1.good, h3.good]
          rfl
        · show q.leaves + r.leaves = a.leaves + b.leaves
          rw [h1.leaves, h3.leaves]
        · show q.parts + r.parts + 1 = a.parts + b.parts + 1
          rw [h1.parts, h3.parts]
        · show max q.deep r.deep + 1 = max a.deep b.deep + 1
          rw [h1.deep, h3.deep]
section
variable {P : Program} {w : World} {K : PySem.W.Frag} {mg : Str → Option Value} {base : Heap}
variable (m_len : mg "len" = none) (m_isinstance : mg "isinstance" = none) (m_str : mg "str" = none) (m_bool : mg "bool" = none) (m_range : mg "range" = none) (m_int : mg "int" = none) (m_max : mg "max" = none) (m_min : mg "min" = none)
  (m_sum : mg "sum" = none) (m_sorted : mg "sorted" = none) (m_set : mg "set" = none) (m_tuple : mg "tuple" = none) (m_all : mg "all" = none) (m_zip : mg "zip" = none) (m_repr : mg "repr" = none)
include m_len m_isinstance m_str m_bool m_range m_int m_max m_min m_sum m_sorted m_set m_tuple m_all m_zip m_repr

theorem ok_law_few_letters {f : Addr} {fd : FuncData} (F : Fun K "_law_few_letters" "_law_few_letters" s_law_few_letters f fd) (n : Nat) (k_law_draw : Kn P w K mg base 1 "_law_draw" S_draw) (k_law_few_letters : Kn P w K mg base (n + 1) "_law_few_letters" (S_few n)) : FnOkG P w K mg base CX0 (n + 1 + 1) f fd ["_law_hand_here", "_law_tree"] (spD K (S_few (n + 1))) := by
  refine fnD F sc_law_few_letters (fun as R h => by obtain ⟨_, _, _, rfl, _⟩ := h; rfl) fun cdv A outer s H E hr => ?_
  have nd := sc_law_few_letters.nd
  have hu := hr.units
  have hu1 := hr.units1
  refine ⟨_, _, (dss_cons (ds_if (dt_cmp (op_eqD hu) ro_eq (nomark _) (de_ix ix_tup ro_ixT (de_var 1) de_int) de_str) (dss_one (ds_ret (de_tup (da_cons de_str (da_cons (de_ix ix_list ro_ixL (de_lst (da_cons de_str (da_cons de_str (da_cons de_str (da_cons de_str (da_cons de_str da_nil)))))) (de_call k_law_draw hr (by omega) (dca_s 0 (dca_d de_int dca_nil)))) da_nil))))) dss_nil)
    (dss_one (ds_ret (de_op op_catT ro_catT (de_sl sl_tupA rsl_tupA (de_var 1) do_none (do_some de_int)) (de_tuple1 m_tuple (de_lc [("_law_part", 2)] rfl nd (di_tup (de_sl sl_tup rsl_tup (de_var 1) (do_some de_int) do_none)) (blkOk_by (N := ["_law_hand_here", "_law_tree", "_law_part"]) (sc := defScope s_law_few_letters) (by decide +kernel)) (fun _ _ _ _ _ => (dg_name 2 nd)) (fun _ _ _ _ _ => dts_nil) (fun _ _ _ _ _ => (de_callI k_law_few_letters hr (by omega) (dca_s 0 (dca_d (de_var 2) dca_nil)))) (by decide))))))), ?_⟩
  rintro as R ⟨x, y, p, rfl, hv, hg, hd, hn, hR⟩
  refine seq_if ?_
  generalize hB : dRet (dOp rdCatT _ _) = RB
  show dTest (dOp dEq (dOp dIxT (dVar 1) (dC (.int 0))) (dC (.str (Str.ofString "sign")))) [.own (some 0) [.int x, .int y], .dat p.d, .no] _
  simp only [dTest, dOp, dVar, dC, List.getElem?_cons_zero, List.getElem?_cons_succ, dIxT_tag, dEq]
  refine ⟨p.tag_ok, sh_sign, ?_⟩
  rw [ev_ss, p.tag_isS]
  cases hS : p.isS
  · show RB (endsOf R) [.own (some 0) [.int x, .int y], .dat p.d, .no]
    rw [← hB]
    simp only [dRet, dOp, dSl, dPart, dNoPart, dVar, dC, List.getElem?_cons_zero, List.getElem?_cons_succ]
    rw [p.d_eq]
    simp only [dSlA, cutH, dTupOf, dLc, diT, dSl, dPart, dNoPart, dVar, dC, List.getElem?_cons_zero, List.getElem?_cons_succ]
    refine slT1 _ _ _ ?_
    rw [← p.d_eq, Pt.rest_of hS]
    refine few_turns (by omega) p.kids [] x y .no ?_ hv (fun k hk => ⟨kid_good hk hg, Pt.kid_deep hk hd⟩) fun qs x' y' s' h hv' => ?_
    · have := p.kids_len
      simp only [List.length_nil]
      omega
    · obtain ⟨q, e, sm⟩ := sms_put hS hg h
      have l2 : qs.length ≤ 2 := by
        have z := p.kids_len
        have e := sms_len h
        omega
      rw [List.nil_append]
      refine ⟨by show 0 < 1; decide, ?_, ?_⟩
      · rw [List.length_map]
        exact Nat.le_trans (by show 1 + qs.length ≤ 3; omega) (by decide)
      · show (endsOf R).rt (.tuple (.str p.tag :: qs.map Pt.d)) _
        rw [← e]
        exact ⟨_, hR q x' y' sm hv', outs1 0 rfl⟩
  · obtain ⟨z, rfl⟩ := isS_of hS
    show dRet (dTup (dCons (dC (.str (Str.ofString "sign"))) (dCons (dOp dIxL (dLst _) (dCall S_draw (cS 0 (cD (dC (.int 5)) cNil)))) dNil))) _ _
    simp only [dRet, dTup, dCons, dOp, dLst, dNil, dC]
    refine ⟨by show 5 ≤ sizeLine; decide, ?_⟩
    refine call_draw (i := 0) (t := some 0) (n := 5) rfl hv ⟨by decide, by decide⟩ (fun Q qq => qq) fun r x' y' hr hv' => ?_
    obtain ⟨z', hz, gz⟩ := good_few r hr
    simp only [dIxL, hz]
    exact ⟨size2, _, hR (.sgn z') x' y' ⟨gz, rfl, rfl, rfl⟩ hv', outs1 0 rfl⟩
end
end K63

set_option Elab.async false
set_option linter.all false
set_option maxRecDepth 100000
set_option maxHeartbeats 8000000
namespace K63
open PySem PySem.Spec L2 TL
def sgA (a : Nat) : Pt := .sgn ⟨#[97 + a]⟩
def sgX (b : Nat) : Pt := .sgn ⟨#[120 + b]⟩
def plains (a b : Nat) : List Pt := [sgA a, .two false (sgA a) (sgX b), .again (.two false (sgX b) (sgA a)), .again (sgA a), .two false (.again (sgA a)) (sgX b)]
def more (p : Pt) : Pt := match p with
  | .again q => .again q
  | q => .again q
def ptP : Pt := .sgn (Str.ofString "p")
def ptR : Pt := .again (.sgn (Str.ofString "r"))
def rules0 (p : Pt) : List (Pt × Pt) := [(.two false .non p, p), (.two false p .non, p), (.two true p p, p), (.again .non, .non)] ++
    [(.two true .non (more p), more p), (.two true (more p) .non, more p), (.again (more p), more p)] ++
    [(.again (.two true .non p), more p), (.again (.two true p .non), more p)] ++
    [(.two false (more p) (more p), more p), (.two true (.sgn (Str.ofString "ad")) (.sgn (Str.ofString "bd")), .sgn (Str.ofString "abd"))]
def rules1 (p : Pt) : List (Pt × Pt) := rules0 p ++ [(.two true (.two false p ptP) (.two false p ptR), .two false p (.two true ptP ptR))] ++ [(.two true (.two false ptP p) (.two false ptR p), .two false (.two true ptP ptR) p)]
def rules (p : Pt) : List (Pt × Pt) := if p.isA = true then rules0 p else rules1 p
def fine (q : Pt × Pt) : Bool := (q.1.put 45).beq q.2 && (q.1.good && (q.2.good && (inB q.1 && decide (q.2.deep ≤ 12))))
theorem rules_fine : ∀ a ∈ List.range 3, ∀ b ∈ List.range 3, (plains a b).all (fun p => (rules p).all fine && (p.good && decide (p.deep ≤ 12))) = true := by decide +kernel
theorem ix_abc (r : Int) (h : 0 ≤ r ∧ r < 3) : ∃ a ∈ List.range 3, atI (Str.ofString "abc").cps.toList r = some (97 + a) := by
  have e : r = 0 ∨ r = 1 ∨ r = 2 := by omega
  rcases e with rfl | rfl | rfl
  · exact ⟨0, by decide, by decide +kernel⟩
  · exact ⟨1, by decide, by decide +kernel⟩
  · exact ⟨2, by decide, by decide +kernel⟩
theorem ix_xyz (r : Int) (h : 0 ≤ r ∧ r < 3) : ∃ a ∈ List.range 3, atI (Str.ofString "xyz").cps.toList r = some (120 + a) := by
  have e : r = 0 ∨ r = 1 ∨ r = 2 := by omega
  rcases e with rfl | rfl | rfl
  · exact ⟨0, by decide, by decide +kernel⟩
  · exact ⟨1, by decide, by decide +kernel⟩
  · exact ⟨2, by decide, by decide +kernel⟩
theorem ix_plain (a b : Nat) (r : Int) (h : 0 ≤ r ∧ r < 5) : ∃ p ∈ plains a b, atI ((plains a b).map Pt.d) r = some p.d := by
  have e : r = 0 ∨ r = 1 ∨ r = 2 ∨ r = 3 ∨ r = 4 := by omega
  rcases e with rfl | rfl | rfl | rfl | rfl
  · exact ⟨_, List.mem_cons_self, rfl⟩
  · exact ⟨_, List.mem_cons_of_mem _ List.mem_cons_self, rfl⟩
  · exact ⟨_, List.mem_cons_of_mem _ (List.mem_cons_of_mem _ List.mem_cons_self), rfl⟩
  · exact ⟨_, List.mem_cons_of_mem _ (List.mem_cons_of_mem _ (List.mem_cons_of_mem _ List.mem_cons_self)), rfl⟩
  · exact ⟨_, List.mem_cons_of_mem _ (List.mem_cons_of_mem _ (List.mem_cons_of_mem _ (List.mem_cons_of_mem _ List.mem_cons_self))), rfl⟩
/-- one of those that are drawn for the rules -/
def Plain (p : Pt) : Prop := ∃ a ∈ List.range 3, ∃ b ∈ List.range 3, p ∈ plains a b
theorem Plain.ok {p : Pt} (h : Plain p) : (∀ q ∈ rules p, fine q = true) ∧ ok50 p := by
  obtain ⟨a, ha, b, hb, hp⟩ := h
  have z := List.all_eq_true.mp (rules_fine a ha b hb) p hp
  rw [Bool.and_eq_true, Bool.and_eq_true, decide_eq_true_iff] at z
  exact ⟨List.all_eq_true.mp z.1, z.2.1, by omega⟩
def ruleD (q : Pt × Pt) : PyData := .tuple [q.1.d, q.2.d]
def S_plain : DSp := fun as R => ∃ x y : Int, as = [.own (some 0) [.int x, .int y]] ∧ okH x y ∧ ∀ (p : Pt) (x' y' : Int), Plain p → okH x' y' → R p.d [[.int x', .int y']]
def S_rules : DSp := fun as R => ∃ x y : Int, as = [.own (some 0) [.int x, .int y]] ∧ okH x y ∧ ∀ (p : Pt) (x' y' : Int), Plain p → okH x' y' → R (.list ((rules p).map ruleD)) [[.int x', .int y']]
theorem mono_plain : MonoS S_plain := fun as R R' h ⟨x, y, a, b, k⟩ => ⟨x, y, a, b, fun q x' y' f g => h _ _ (k q x' y' f g)⟩
theorem mono_rules : MonoS S_rules := fun as R R' h ⟨x, y, a, b, k⟩ => ⟨x, y, a, b, fun q x' y' f g => h _ _ (k q x' y' f g)⟩
theorem abc3 : (Str.ofString "abc").length ≤ sizeLine := by decide +kernel
theorem xyz3 : (Str.ofString "xyz").length ≤ sizeLine := by decide +kernel
section
variable {P : Program} {w : World} {K : PySem.W.Frag} {mg : Str → Option Value} {base : Heap}
variable (m_len : mg "len" = none) (m_isinstance : mg "isinstance" = none) (m_str : mg "str" = none) (m_bool : mg "bool" = none) (m_range : mg "range" = none) (m_int : mg "int" = none) (m_max : mg "max" = none) (m_min : mg "min" = none)
  (m_sum : mg "sum" = none) (m_sorted : mg "sorted" = none) (m_set : mg "set" = none) (m_tuple : mg "tuple" = none) (m_all : mg "all" = none) (m_zip : mg "zip" = none) (m_repr : mg "repr" = none)
include m_len m_isinstance m_str m_bool m_range m_int m_max m_min m_sum m_sorted m_set m_tuple m_all m_zip m_repr

theorem ok_law_plain {f : Addr} {fd : FuncData} (F : Fun K "_law_plain" "_law_plain" s_law_plain f fd) (k_law_draw : Kn P w K mg base 1 "_law_draw" S_draw) : FnOkG P w K mg base CX0 2 f fd ["_law_hand_here"] (spD K S_plain) := by
  refine fnD F sc_law_plain (fun as R h => by obtain ⟨_, _, rfl, _⟩ := h; rfl) fun cdv A outer s H E hr => ?_
  have nd := sc_law_plain.nd
  have hu := hr.units
  have hu1 := hr.units1
  refine ⟨_, _, (dss_cons (ds_set 1 nd (de_tup (da_cons de_str (da_cons (de_ix ix_str ro_ixS de_str (de_call k_law_draw hr (by omega) (dca_s 0 (dca_d de_int dca_nil)))) da_nil))))
    (dss_cons (ds_set 2 nd (de_tup (da_cons de_str (da_cons (de_ix ix_str ro_ixS de_str (de_call k_law_draw hr (by omega) (dca_s 0 (dca_d de_int dca_nil)))) da_nil))))
    (dss_cons (ds_set 3 nd (de_lst (da_cons (de_var 1) (da_cons (de_tup (da_cons de_str (da_cons (de_var 1) (da_cons (de_var 2) da_nil)))) (da_cons (de_tup (da_cons de_str (da_cons (de_tup (da_cons de_str (da_cons (de_var 2) (da_cons (de_var 1) da_nil)))) da_nil))) (da_cons (de_tup (da_cons de_str (da_cons (de_var 1) da_nil))) (da_cons (de_tup (da_cons de_str (da_cons (de_tup (da_cons de_str (da_cons (de_var 1) da_nil))) (da_cons (de_var 2) da_nil)))) da_nil)))))))
    (dss_one (ds_ret (de_ixV 3 (de_call k_law_draw hr (by omega) (dca_s 0 (dca_d de_int dca_nil))))))))), ?_⟩
  rintro as R ⟨x, y, rfl, hv, hR⟩
  refine seq_asg ?_
  generalize hA : dSeq (dAsg _ _) _ = RA
  show dTup (dCons (dC (.str (Str.ofString "sign"))) (dCons (dOp dIxS (dC (.str (Str.ofString "abc"))) (dCall S_draw (cS 0 (cD (dC (.int 3)) cNil)))) dNil)) [.own (some 0) [.int x, .int y], .no, .no, .no] _
  simp only [dTup, dCons, dOp, dNil, dC]
  refine call_draw (i := 0) (t := some 0) (n := 3) rfl hv ⟨by decide, by decide⟩ (fun Q qq => qq) fun r1 x1 y1 hr1 hv1 => ?_
  obtain ⟨a, ha, ea⟩ := ix_abc r1 hr1
  simp only [dIxS, ea]
  refine ⟨abc3, size2, ?_⟩
  rw [← hA]
  refine seq_asg ?_
  generalize hB : dSeq (dAsg _ _) _ = RB
  show dTup (dCons (dC (.str (Str.ofString "sign"))) (dCons (dOp dIxS (dC (.str (Str.ofString "xyz"))) (dCall S_draw (cS 0 (cD (dC (.int 3)) cNil)))) dNil)) [.own (some 0) [.int x1, .int y1], .dat (sgA a).d, .no, .no] _
  simp only [dTup, dCons, dOp, dNil, dC]
  refine call_draw (i := 0) (t := some 0) (n := 3) rfl hv1 ⟨by decide, by decide⟩ (fun Q qq => qq) fun r2 x2 y2 hr2 hv2 => ?_
  obtain ⟨b, hb, eb⟩ := ix_xyz r2 hr2
  simp only [dIxS, eb]
  refine ⟨xyz3, size2, ?_⟩
  rw [← hB]
  refine seq_asg ?_
  generalize hC : dRet (dIxV _ _) = RC
  show dLst _ [.own (some 0) [.int x2, .int y2], .dat (sgA a).d, .dat (sgX b).d, .no] _
  simp only [dLst, dTup, dCons, dOp, dNil, dC, dVar, List.getElem?_cons_zero, List.getElem?_cons_succ]
  refine ⟨size3, size3, size2, size2, size2, size3, by show 5 ≤ sizeLine; decide, ?_⟩
  show RC (endsOf R) [.own (some 0) [.int x2, .int y2], .dat (sgA a).d, .dat (sgX b).d, .dat (.list ((plains a b).map Pt.d))]
  rw [← hC]
  simp only [dRet, dIxV]
  refine ⟨rfl, ?_⟩
  refine call_draw (i := 0) (t := some 0) (n := 5) rfl hv2 ⟨by decide, by decide⟩ (fun Q qq => qq) fun r3 x3 y3 hr3 hv3 => ?_
  obtain ⟨p, hp, ep⟩ := ix_plain a b r3 hr3
  show (match atI ((plains a b).map Pt.d) r3 with | some x => _ | none => False)
  rw [ep]
  exact ⟨_, hR p x3 y3 ⟨a, ha, b, hb, hp⟩ hv3, outs1 0 rfl⟩
theorem ok_law_by_rules {f : Addr} {fd : FuncData} (F : Fun K "_law_by_rules" "_law_by_rules" s_law_by_rules f fd) (k_law_plain : Kn P w K mg base 2 "_law_plain" S_plain) : FnOkG P w K mg base CX0 3 f fd ["_law_hand_here"] (spD K S_rules) := by
  refine fnD F sc_law_by_rules (fun as R h => by obtain ⟨_, _, rfl, _⟩ := h; rfl) fun cdv A outer s H E hr => ?_
  have nd := sc_law_by_rules.nd
  have hu := hr.units
  have hu1 := hr.units1
  refine ⟨_, _, (dss_cons (ds_set 1 nd (de_tup (da_cons de_str da_nil)))
    (dss_cons (ds_set 2 nd (de_call k_law_plain hr (by omega) (dca_s 0 dca_nil)))
    (dss_cons (ds_setTup (de_tup (da_cons (de_tup (da_cons de_str (da_cons de_str da_nil))) (da_cons (de_tup (da_cons de_str (da_cons (de_tup (da_cons de_str (da_cons de_str da_nil))) da_nil))) da_nil))) (dg_tup rfl (dgs_cons (dg_name 3 nd) (dgs_cons (dg_name 4 nd) dgs_nil))))
    (dss_cons (ds_set 5 nd (de_tup (da_cons de_str (da_cons (de_var 2) da_nil))))
    (dss_cons (ds_if (dt_cmp (op_eqD hu) ro_eq (nomark _) (de_ix ix_tup ro_ixT (de_var 2) de_int) de_str) (dss_one (ds_set 5 nd (de_var 2))) dss_nil)
    (dss_cons (ds_set 6 nd (de_lst (da_cons (de_tup (da_cons (de_tup (da_cons de_str (da_cons (de_var 1) (da_cons (de_var 2) da_nil)))) (da_cons (de_var 2) da_nil))) (da_cons (de_tup (da_cons (de_tup (da_cons de_str (da_cons (de_var 2) (da_cons (de_var 1) da_nil)))) (da_cons (de_var 2) da_nil))) (da_cons (de_tup (da_cons (de_tup (da_cons de_str (da_cons (de_var 2) (da_cons (de_var 2) da_nil)))) (da_cons (de_var 2) da_nil))) (da_cons (de_tup (da_cons (de_tup (da_cons de_str (da_cons (de_var 1) da_nil))) (da_cons (de_var 1) da_nil))) da_nil))))))
    (dss_cons (ds_set 6 nd (de_op op_cat ro_cat (de_var 6) (de_lst (da_cons (de_tup (da_cons (de_tup (da_cons de_str (da_cons (de_var 1) (da_cons (de_var 5) da_nil)))) (da_cons (de_var 5) da_nil))) (da_cons (de_tup (da_cons (de_tup (da_cons de_str (da_cons (de_var 5) (da_cons (de_var 1) da_nil)))) (da_cons (de_var 5) da_nil))) (da_cons (de_tup (da_cons (de_tup (da_cons de_str (da_cons (de_var 5) da_nil))) (da_cons (de_var 5) da_nil))) da_nil))))))
    (dss_cons (ds_set 6 nd (de_op op_cat ro_cat (de_var 6) (de_lst (da_cons (de_tup (da_cons (de_tup (da_cons de_str (da_cons (de_tup (da_cons de_str (da_cons (de_var 1) (da_cons (de_var 2) da_nil)))) da_nil))) (da_cons (de_var 5) da_nil))) (da_cons (de_tup (da_cons (de_tup (da_cons de_str (da_cons (de_tup (da_cons de_str (da_cons (de_var 2) (da_cons (de_var 1) da_nil)))) da_nil))) (da_cons (de_var 5) da_nil))) da_nil)))))
    (dss_cons (ds_set 6 nd (de_op op_cat ro_cat (de_var 6) (de_lst (da_cons (de_tup (da_cons (de_tup (da_cons de_str (da_cons (de_var 5) (da_cons (de_var 5) da_nil)))) (da_cons (de_var 5) da_nil))) (da_cons (de_tup (da_cons (de_tup (da_cons de_str (da_cons (de_tup (da_cons de_str (da_cons de_str da_nil))) (da_cons (de_tup (da_cons de_str (da_cons de_str da_nil))) da_nil)))) (da_cons (de_tup (da_cons de_str (da_cons de_str da_nil))) da_nil))) da_nil)))))
    (dss_cons (ds_if (dt_cmp (op_eqD hu) ro_eq (nomark _) (de_ix ix_tup ro_ixT (de_var 2) de_int) de_str) (dss_one (ds_ret (de_var 6))) dss_nil)
    (dss_cons (ds_set 6 nd (de_op op_cat ro_cat (de_var 6) (de_lst (da_cons (de_tup (da_cons (de_tup (da_cons de_str (da_cons (de_tup (da_cons de_str (da_cons (de_var 2) (da_cons (de_var 3) da_nil)))) (da_cons (de_tup (da_cons de_str (da_cons (de_var 2) (da_cons (de_var 4) da_nil)))) da_nil)))) (da_cons (de_tup (da_cons de_str (da_cons (de_var 2) (da_cons (de_tup (da_cons de_str (da_cons (de_var 3) (da_cons (de_var 4) da_nil)))) da_nil)))) da_nil))) da_nil))))
    (dss_one (ds_ret (de_op op_cat ro_cat (de_var 6) (de_lst (da_cons (de_tup (da_cons (de_tup (da_cons de_str (da_cons (de_tup (da_cons de_str (da_cons (de_var 3) (da_cons (de_var 2) da_nil)))) (da_cons (de_tup (da_cons de_str (da_cons (de_var 4) (da_cons (de_var 2) da_nil)))) da_nil)))) (da_cons (de_tup (da_cons de_str (da_cons (de_tup (da_cons de_str (da_cons (de_var 3) (da_cons (de_var 4) da_nil)))) (da_cons (de_var 2) da_nil)))) da_nil))) da_nil)))))))))))))))), ?_⟩
  rintro as R ⟨x, y, rfl, hv, hR⟩
  refine seq_asg ?_
  generalize hA : dSeq (dAsg _ _) _ = RA
  show dTup (dCons (dC (.str (Str.ofString "none"))) dNil) [.own (some 0) [.int x, .int y], .no, .no, .no, .no, .no, .no] _
  simp only [dTup, dCons, dNil, dC]
  refine ⟨by show 1 ≤ sizeLine; decide, ?_⟩
  rw [← hA]
  refine seq_asg ?_
  generalize hB : dSeq (dAsg _ _) _ = RB
  show dCall S_plain (cS 0 cNil) [.own (some 0) [.int x, .int y], .dat Pt.non.d, .no, .no, .no, .no, .no] _
  refine call_own1 (i := 0) (t := some 0) (cs := [.int x, .int y]) rfl [] (fun Q q => q) ⟨x, y, rfl, hv, fun p x1 y1 hp hv1 => ⟨_, rfl, ?_⟩⟩ (mono_plain _)
  rw [← hB]
  refine seq_asg ?_
  generalize hC : dSeq (dAsg _ _) _ = RC
  show dTup _ [.own (some 0) [.int x1, .int y1], .dat Pt.non.d, .dat p.d, .no, .no, .no, .no] _
  simp only [dTup, dCons, dNil, dC]
  refine ⟨size2, size2, size2, size2, ?_⟩
  refine ⟨rfl, ?_⟩
  simp only [dgCons, dgNil, dgName, List.set_cons_succ, List.set_cons_zero]
  rw [← hC]
  refine seq_asg ?_
  generalize hD : dSeq (dIfS _ _ _) _ = RD
  show dTup _ [.own (some 0) [.int x1, .int y1], .dat Pt.non.d, .dat p.d, .dat ptP.d, .dat ptR.d, .no, .no] _
  simp only [dTup, dCons, dNil, dC, dVar, List.getElem?_cons_zero, List.getElem?_cons_succ]
  refine ⟨size2, ?_⟩
  rw [← hD]
  refine seq_if ?_
  generalize hE : dSeq (dAsg _ _) _ = RE
  have okp := hp.ok
  have tail : RE (endsOf R) [.own (some 0) [.int x1, .int y1], .dat Pt.non.d, .dat p.d, .dat ptP.d, .dat ptR.d, .dat (more p).d, .no] := by
    rw [← hE]
    refine seq_asg ?_
    generalize hF : dSeq (dAsg _ _) _ = RF
    simp only [dLst, dTup, dCons, dNil, dC, dVar, List.getElem?_cons_zero, List.getElem?_cons_succ]
    refine ⟨size3, size2, size3, size2, size3, size2, size2, size2, by show 4 ≤ sizeLine; decide, ?_⟩
    rw [← hF]
    refine seq_asg ?_
    generalize hG : dSeq (dAsg _ _) _ = RG
    simp only [dgName, List.set_cons_succ, List.set_cons_zero, dOp, dLst, dTup, dCons, dNil, dC, dVar, List.getElem?_cons_zero, List.getElem?_cons_succ]
    refine ⟨size3, size2, size3, size2, size2, size2, size3, ?_⟩
    refine ⟨by show 7 ≤ sizeLine; decide, ?_⟩
    rw [← hG]
    refine seq_asg ?_
    generalize hH : dSeq (dAsg _ _) _ = RH
    simp only [dgName, List.set_cons_succ, List.set_cons_zero, dOp, dLst, dTup, dCons, dNil, dC, dVar, List.getElem?_cons_zero, List.getElem?_cons_succ]
    refine ⟨size3, size2, size2, size3, size2, size2, size2, ?_⟩
    refine ⟨by show 9 ≤ sizeLine; decide, ?_⟩
    rw [← hH]
    refine seq_asg ?_
    generalize hI : dSeq (dIfS _ _ _) _ = RI
    simp only [dgName, List.set_cons_succ, List.set_cons_zero, dOp, dLst, dTup, dCons, dNil, dC, dVar, List.getElem?_cons_zero, List.getElem?_cons_succ]
    refine ⟨size3, size2, size2, size2, size3, size2, size2, size2, ?_⟩
    refine ⟨by show 11 ≤ sizeLine; decide, ?_⟩
    rw [← hI]
    refine seq_if ?_
    generalize hJ : dSeq (dAsg _ _) _ = RJ
    simp only [dgName, List.set_cons_succ, List.set_cons_zero, dTest, dOp, dVar, dC, List.getElem?_cons_zero, List.getElem?_cons_succ, dIxT_tag]
    refine ⟨p.tag_ok, sh_again, ?_⟩
    rw [ev_ss, tag_isA]
    cases hAp : p.isA
    · show RJ (endsOf R) _
      rw [← hJ]
      refine seq_asg ?_
      generalize hK : dRet _ = RK
      simp only [dOp, dLst, dTup, dCons, dNil, dC, dVar, List.getElem?_cons_zero, List.getElem?_cons_succ]
      refine ⟨size3, size3, size3, size3, size3, size2, by show 1 ≤ sizeLine; decide, ?_⟩
      refine ⟨by show 12 ≤ sizeLine; decide, ?_⟩
      rw [← hK]
      simp only [dgName, List.set_cons_succ, List.set_cons_zero, dRet, dOp, dLst, dTup, dCons, dNil, dC, dVar, List.getElem?_cons_zero, List.getElem?_cons_succ]
      refine ⟨size3, size3, size3, size3, size3, size2, by show 1 ≤ sizeLine; decide, ?_⟩
      refine ⟨by show 13 ≤ sizeLine; decide, ?_⟩
      have z := hR p x1 y1 hp hv1
      have e : rules p = rules1 p := if_neg (by rw [hAp]; decide)
      rw [e] at z
      exact ⟨_, z, outs1 0 rfl⟩
    · show dRet (dVar 6) _ _
      have z := hR p x1 y1 hp hv1
      have e : rules p = rules0 p := if_pos hAp
      rw [e] at z
      exact ⟨_, z, outs1 0 rfl⟩
  simp only [dgName, List.set_cons_succ, List.set_cons_zero, dTest, dOp, dVar, dC, List.getElem?_cons_zero, List.getElem?_cons_succ, dIxT_tag]
  refine ⟨p.tag_ok, sh_again, ?_⟩
  rw [ev_ss, tag_isA]
  cases hAp : p.isA
  · have e : more p = .again p := by
      cases p <;> first
        | rfl
        | cases hAp
    rw [e] at tail
    exact tail
  · have e : more p = p := by
      cases p <;> first
        | rfl
        | cases hAp
    rw [e] at tail
    exact tail
end
end K63

set_option Elab.async false
set_option linter.all false
set_option maxRecDepth 100000
set_option maxHeartbeats 8000000
namespace K63
open PySem PySem.Spec L2 TL
/-! ### how long a thing's text may be -/
mutual
def wt : PyData → Nat
  | .none => 4
  | .bool _ => 5
  | .int _ => 0
  | .str z => 10 * z.length + 2
  | .list ds => wts ds + 2 * ds.length + 4
  | .tuple ds => wts ds + 2 * ds.length + 4
  | .dict _ => 2
def wts : List PyData → Nat
  | [] => 0
  | d :: ds => wt d + wts ds
end
theorem shown_str {z : Str} (h : okS z = true) : (PyData.shown (.str z)).length ≤ 10 * z.length + 2 := by
  show (reprText z).length ≤ _
  unfold okS at h
  rw [Bool.and_eq_true] at h
  exact PySem.StrLaws.reprText_len z fun c hc => by
    have := of_decide_eq_true (List.all_eq_true.mp h.2 c hc)
    have e : (16 : Nat) ^ 8 = 4294967296 := by decide
    omega
mutual
theorem wt_ok : ∀ d : PyData, gd d = true → (PyData.shown d).length ≤ wt d ∧ okD d = true ∧ d.showable = true
  | .none, _ => ⟨by decide +kernel, rfl, rfl⟩
  | .bool b, _ => ⟨by cases b <;> decide +kernel, rfl, rfl⟩
  | .int _, h => by cases h
  | .str z, h => ⟨shown_str h, rfl, rfl⟩
  | .list ds, h => by
    have h : (decide (ds.length ≤ 20) && gds ds) = true := h
    rw [Bool.and_eq_true] at h
    obtain ⟨h1, h2, h3⟩ := wts_ok ds h.2
    refine ⟨?_, h2, h3⟩
    have q := listText_len_le (PyData.shownAll ds)
    show (listText (PyData.shownAll ds)).length ≤ wts ds + 2 * ds.length + 4
    rw [h1.2] at q
    have := h1.1
    omega
  | .tuple ds, h => by
    have h : (decide (ds.length ≤ 20) && gds ds) = true := h
    rw [Bool.and_eq_true] at h
    obtain ⟨h1, h2, h3⟩ := wts_ok ds h.2
    refine ⟨?_, h2, h3⟩
    have q := tupleText_len_le (PyData.shownAll ds)
    show (tupleText (PyData.shownAll ds)).length ≤ wts ds + 2 * ds.length + 4
    rw [h1.2] at q
    have := h1.1
    omega
  | .dict ds, h => by
    cases ds with
    | nil => exact ⟨by decide +kernel, rfl, rfl⟩
    | cons a b => cases h
theorem wts_ok : ∀ ds : List PyData, gds ds = true → (((PyData.shownAll ds).map (·.length)).sum ≤ wts ds ∧ (PyData.shownAll ds).length = ds.length) ∧ okDs ds = true ∧ PyData.showableAll ds = true
  | [], _ => ⟨⟨Nat.le_refl _, rfl⟩, rfl, rfl⟩
  | d :: ds, h => by
    have h : (gd d && gds ds) = true := h
    rw [Bool.and_eq_true] at h
    obtain ⟨a1, a2, a3⟩ := wt_ok d h.1
    obtain ⟨b1, b2, b3⟩ := wts_ok ds h.2
    refine ⟨⟨?_, ?_⟩, ?_, ?_⟩
    · show (PyData.shown d).length + ((PyData.shownAll ds).map (·.length)).sum ≤ wt d + wts ds
      have := b1.1
      omega
    · show (PyData.shownAll ds).length + 1 = ds.length + 1
      rw [b1.2]
    · show (okD d && okDs ds) = true
      rw [a2, b2]
      rfl
    · show (d.showable && PyData.showableAll ds) = true
      rw [a3, b3]
      rfl
end
theorem Pt.gd_d : ∀ p : Pt, p.good = true → gd p.d = true
  | .non, _ => by decide +kernel
  | .sgn x, h => by
    have h : goodL x = true := h
    show (decide (2 ≤ 20) && (okS (Str.ofString "sign") && (okS x && true))) = true
    have e : okS x = true := by
      unfold goodL at h
      rw [Bool.and_eq_true, Bool.and_eq_true, Bool.and_eq_true, decide_eq_true_iff, decide_eq_true_iff] at h
      unfold okS
      rw [Bool.and_eq_true, decide_eq_true_iff]
      refine ⟨by omega, List.all_eq_true.mpr fun c hc => ?_⟩
      have q := List.all_eq_true.mp h.1.2 c hc
      unfold small at q
      rw [Bool.and_eq_true, decide_eq_true_iff, decide_eq_true_iff] at q
      exact decide_eq_true (by omega)
    rw [e, show okS (Str.ofString "sign") = true by decide +kernel]
    rfl
  | .again p, h => by
    show (decide (2 ≤ 20) && (okS (Str.ofString "again") && (gd p.d && true))) = true
    rw [gd_d p h, show okS (Str.ofString "again") = true by decide +kernel]
    rfl
  | .two false p q, h => by
    have h : (p.good && q.good) = true := h
    rw [Bool.and_eq_true] at h
    show (decide (3 ≤ 20) && (okS (Str.ofString "then") && (gd p.d && (gd q.d && true)))) = true
    rw [gd_d p h.1, gd_d q h.2, show okS (Str.ofString "then") = true by decide +kernel]
    rfl
  | .two true p q, h => by
    have h : (p.good && q.good) = true := h
    rw [Bool.and_eq_true] at h
    show (decide (3 ≤ 20) && (okS (Str.ofString "or") && (gd p.d && (gd q.d && true)))) = true
    rw [gd_d p h.1, gd_d q h.2, show okS (Str.ofString "or") = true by decide +kernel]
    rfl
/-! ### odd things -/
theorem wt_pt : ∀ p : Pt, p.good = true → wt p.d + 100 ≤ 200 * 2 ^ p.deep
  | .non, _ => by decide +kernel
  | .sgn x, h => by
    have h : goodL x = true := h
    unfold goodL at h
    rw [Bool.and_eq_true, Bool.and_eq_true, Bool.and_eq_true, decide_eq_true_iff, decide_eq_true_iff] at h
    have l : (Str.ofString "sign").length = 4 := by decide +kernel
    show (10 * (Str.ofString "sign").length + 2) + ((10 * x.length + 2) + 0) + 2 * 2 + 4 + 100 ≤ 200 * 2
    omega
  | .again p, h => by
    have ih := wt_pt p h
    have l : (Str.ofString "again").length = 5 := by decide +kernel
    have e : 2 ^ (p.deep + 1) = 2 * 2 ^ p.deep := by rw [Nat.pow_succ, Nat.mul_comm]
    show (10 * (Str.ofString "again").length + 2) + (wt p.d + 0) + 2 * 2 + 4 + 100 ≤ 200 * 2 ^ (p.deep + 1)
    have := Nat.one_le_two_pow (n := p.deep)
    rw [e]
    omega
  | .two o p q, h => by
    have h : (p.good && q.good) = true := h
    rw [Bool.and_eq_true] at h
    have ih1 := wt_pt p h.1
    have ih2 := wt_pt q h.2
    have l1 : (Str.ofString "then").length = 4 := by decide +kernel
    have l2 : (Str.ofString "or").length = 2 := by decide +kernel
    have e : 2 ^ (max p.deep q.deep + 1) = 2 * 2 ^ max p.deep q.deep := by rw [Nat.pow_succ, Nat.mul_comm]
    have m1 : 2 ^ p.deep ≤ 2 ^ max p.deep q.deep := Nat.pow_le_pow_right (by decide) (Nat.le_max_left _ _)
    have m2 : 2 ^ q.deep ≤ 2 ^ max p.deep q.deep := Nat.pow_le_pow_right (by decide) (Nat.le_max_right _ _)
    have key : wt (Pt.two o p q).d ≤ 52 + wt p.d + wt q.d := by
      cases o with
      | false =>
        show (10 * (Str.ofString "then").length + 2) + (wt p.d + (wt q.d + 0)) + 2 * 3 + 4 ≤ _
        omega
      | true =>
        show (10 * (Str.ofString "or").length + 2) + (wt p.d + (wt q.d + 0)) + 2 * 3 + 4 ≤ _
        omega
    show wt (Pt.two o p q).d + 100 ≤ 200 * 2 ^ (max p.deep q.deep + 1)
    rw [e]
    omega

theorem inB_of {p : Pt} (h : inB p = true) : p.leaves ≤ 11 ∧ p.parts ≤ 40 ∧ p.deep ≤ 12 := by
  unfold inB at h
  simpa using h
theorem of_inB {p : Pt} (h : p.leaves ≤ 11 ∧ p.parts ≤ 40 ∧ p.deep ≤ 12) : inB p = true := by
  unfold inB
  simpa using h
theorem isP_d {p : Pt} (hg : p.good = true) (h : inB p = true) : isP p.d = true := by
  unfold isP
  rw [rd_complete 12 p hg (inB_of h).2.2]
  exact h
def S_right : DSp := fun as R => ∃ p : Pt, as = [.dat p.d] ∧ p.good = true ∧ inB p = true ∧ R (.bool true) []
theorem mono_right : MonoS S_right := fun as R R' h ⟨d, a, b, c, k⟩ => ⟨d, a, b, c, h _ _ k⟩
/-- the turns over pairs of whole numbers -/
theorem zip_turns {n : Nat} (hn : 2 = n) {R : List PyData → List Sl → Prop} {a b c : Sl} : ∀ (ps : List (Int × Int)) (acc : List PyData) (s t : Sl), acc.length + ps.length ≤ 100 →
    (∀ s' t', R (acc ++ ps.map fun p => PyData.int (p.2 - p.1)) [a, b, c, s', t']) →
    lcW [3, 4] (dgTup n (dgCons (dgName 3) (dgCons (dgName 4) dgNil))) dYes (dOp (dI fun i j => i - j) (dVar 4) (dVar 3)) R (ps.map fun p => PyData.tuple [.int p.1, .int p.2]) acc [a, b, c, s, t]
  | [], acc, s, t, _, h => by
    have z := h s t
    rw [List.map_nil, List.append_nil] at z
    exact z
  | p :: ps, acc, s, t, hl, h => by
    subst hn
    rw [List.length_cons] at hl
    simp only [List.map_cons, lcW, dgTup, dgCons, dgNil, dgName, dYes, wipeS, dOp, dI, dVar, List.set_cons_succ, List.set_cons_zero, List.getElem?_cons_zero, List.getElem?_cons_succ, ↓reduceIte]
    refine ⟨rfl, Nat.lt_of_lt_of_le (by omega : acc.length < 100) (by decide), zip_turns rfl ps _ _ _ (by rw [List.length_append, List.length_singleton]; omega) fun s' t' => ?_⟩
    have z := h s' t'
    rw [List.map_cons] at z
    rw [List.append_assoc]
    exact z
theorem sizes_of {n : Nat} {p : Pt} (hg : p.good = true) (hd : p.deep ≤ n) : szD (rd n p.d) = p.tri := by
  rw [rd_complete n p hg hd]
  rfl
section
variable {P : Program} {w : World} {K : PySem.W.Frag} {mg : Str → Option Value} {base : Heap}
variable (m_len : mg "len" = none) (m_isinstance : mg "isinstance" = none) (m_str : mg "str" = none) (m_bool : mg "bool" = none) (m_range : mg "range" = none) (m_int : mg "int" = none) (m_max : mg "max" = none) (m_min : mg "min" = none)
  (m_sum : mg "sum" = none) (m_sorted : mg "sorted" = none) (m_set : mg "set" = none) (m_tuple : mg "tuple" = none) (m_all : mg "all" = none) (m_zip : mg "zip" = none) (m_repr : mg "repr" = none)
include m_len m_isinstance m_str m_bool m_range m_int m_max m_min m_sum m_sorted m_set m_tuple m_all m_zip m_repr

theorem ok_law_right {f : Addr} {fd : FuncData} (F : Fun K "_law_right" "_law_right" s_law_right f fd) (k_put_otherwise : Kn P w K mg base 49 "put_otherwise" (S_put 45)) (k_is_pattern : Kn P w K mg base 16 "is_pattern" S_pat) (k_law_done : Kn P w K mg base 21 "_law_done" (S_done 20)) (k_law_sizes : Kn P w K mg base 34 "_law_sizes" (S_sizes 33)) : FnOkG P w K mg base CX0 50 f fd ["_law_tree"] (spD K S_right) := by
  refine fnD F sc_law_right (fun as R h => by obtain ⟨_, rfl, _⟩ := h; rfl) fun cdv A outer s H E hr => ?_
  have nd := sc_law_right.nd
  have hu := hr.units
  have hu1 := hr.units1
  refine ⟨_, _, (dss_cons (ds_set 1 nd (de_reprX m_repr hr.gd hu1 (de_var 0)))
    (dss_cons (ds_set 2 nd (de_call k_put_otherwise hr (by omega) (dca_d (de_var 0) dca_nil)))
    (dss_cons (ds_if (dt_w (dw_or (dt_not (dt_val (de_call k_is_pattern hr (by omega) (dca_d (de_var 2) dca_nil)))) (dw_or (dt_not (dt_val (de_call k_law_done hr (by omega) (dca_d (de_var 2) dca_nil)))) (dw_or1 (dt_cmp op_ne ro_neT (nomark _) (de_reprX m_repr hr.gd hu1 (de_var 0)) (de_var 1)))))) (dss_one (ds_ret de_bl)) dss_nil)
    (dss_cons (ds_if (dt_cmp op_gt ro_B (nomark _) (de_max1 m_max (de_lc [("_law_here", 3), ("_law_there", 4)] rfl nd (di_zipL m_zip (de_call k_law_sizes hr (by omega) (dca_d (de_var 0) dca_nil)) (de_call k_law_sizes hr (by omega) (dca_d (de_var 2) dca_nil))) (blkOk_by (N := ["_law_tree", "_law_kept", "_law_found", "_law_here", "_law_there"]) (sc := defScope s_law_right) (by decide +kernel)) (fun _ _ _ _ _ => (dg_tupI (n := 2) rfl (dgs_cons (dg_name 3 nd) (dgs_cons (dg_name 4 nd) dgs_nil)))) (fun _ _ _ _ _ => dts_nil) (fun _ _ _ _ _ => (de_op op_sub ro_I (de_var 4) (de_var 3))) (by decide))) de_int) (dss_one (ds_ret de_bl)) dss_nil)
    (dss_one (ds_ret (de_and (de_cmp (op_eqD hu) ro_eq (nomark _) (de_call k_put_otherwise hr (by omega) (dca_d (de_var 2) dca_nil)) (de_var 2)) (de_one (de_or (de_cmp (op_eqD hu) ro_eq (nomark _) (de_var 2) (de_var 0)) (de_one (de_not (de_call k_law_done hr (by omega) (dca_d (de_var 0) dca_nil))))))))))))), ?_⟩
  rintro as R ⟨p, rfl, hg, hb, hR⟩
  obtain ⟨b1, b2, b3⟩ := inB_of hb
  have w0 := wt_ok p.d (Pt.gd_d p hg)
  obtain ⟨w1, w2, w3⟩ := w0
  have szl : (PyData.shown p.d).length ≤ sizeLine := by
    refine nat_le_size ?_
    have z := wt_pt p hg
    have m : 2 ^ p.deep ≤ 2 ^ 12 := Nat.pow_le_pow_right (by decide) b3
    omega
  have dp : PyData.depth p.d ≤ 64 := by
    have := Pt.dep p
    omega
  have ok0 : ok50 p := ⟨hg, by omega⟩
  have le := put_le 45 p (by omega)
  have qg := put_good 45 p hg
  have qd := put_done 45 p (by omega)
  generalize hq : p.put 45 = q at le qg qd
  have qb : inB q = true := of_inB ⟨by have := le.leaves; omega, by have := le.parts; omega, by have := le.deep; omega⟩
  have okq : ok50 q := ⟨qg, by have := le.deep; omega⟩
  have qq : q.put 45 = q := put_same 45 q qd
  refine seq_asg ?_
  generalize hA : dSeq (dAsg _ _) _ = RA
  refine var_at (d := p.d) rfl ⟨w2, w3, szl, dp, ?_⟩
  rw [← hA]
  refine seq_asg ?_
  generalize hB : dSeq (dIfS _ _ _) _ = RB
  show dCall (S_put 45) (cD (dVar 0) cNil) [.dat p.d, .dat (.str p.d.shown), .no, .no, .no] _
  refine call_pure2 (S := S_put 45) (δ' := [.dat p.d, .dat (.str p.d.shown), .no, .no, .no]) [p.d] (fun Q z => z) (mono_put 45) ⟨p, rfl, ok0, by omega, by omega, rfl, ?_⟩
  rw [hq, ← hB]
  refine seq_if ?_
  generalize hC : dSeq (dIfS _ _ _) _ = RC
  simp only [dgName, List.set_cons_succ, List.set_cons_zero, dOr, dNot, dTest]
  refine call_pure2 (S := S_pat) (δ' := [.dat p.d, .dat (.str p.d.shown), .dat q.d, .no, .no]) [q.d] (fun Q z => z) mono_pat ⟨q.d, rfl, Pt.gd_d q qg, rfl, ?_⟩
  rw [isP_d qg qb]
  simp only [Bool.not_true, Bool.false_eq_true, if_false]
  refine call_pure2 (S := S_done 20) (δ' := [.dat p.d, .dat (.str p.d.shown), .dat q.d, .no, .no]) [q.d] (fun Q z => z) (mono_done 20) ⟨q, rfl, qg, by have := le.deep; omega, by decide, rfl, ?_⟩
  rw [qd]
  simp only [Bool.not_true, Bool.false_eq_true, if_false, dOp, dReprX]
  refine var_at (d := p.d) rfl ⟨w2, w3, szl, dp, ?_⟩
  refine var_at (d := .str p.d.shown) rfl ?_
  simp only [dNeT, beq_self_eq_true, Bool.not_true, Bool.false_eq_true, if_false]
  rw [← hC]
  refine seq_if ?_
  generalize hD : dRet (dAndV _ _) = RD
  simp only [dTest, dOp, dMaxL, dLc, diZL]
  refine call_pure2 (S := S_sizes 33) (δ' := [.dat p.d, .dat (.str p.d.shown), .dat q.d, .no, .no]) [p.d] (fun Q z => z) (mono_sizes 33) ⟨p.d, rfl, Pt.gd_d p hg, by have := Pt.dep p; omega, by decide, rfl, ?_⟩
  rw [sizes_of hg (by omega)]
  refine call_pure2 (S := S_sizes 33) (δ' := [.dat p.d, .dat (.str p.d.shown), .dat q.d, .no, .no]) [q.d] (fun Q z => z) (mono_sizes 33) ⟨q.d, rfl, Pt.gd_d q qg, by have := Pt.dep q; have := le.deep; omega, by decide, rfl, ?_⟩
  rw [sizes_of qg (by have := le.deep; omega)]
  refine zip_turns rfl [((p.leaves : Nat), (q.leaves : Nat)), ((p.parts : Nat), (q.parts : Nat)), ((p.deep : Nat), (q.deep : Nat))] [] .no .no (by show 3 ≤ 100; decide) fun s' t' => ?_
  have l1 := le.leaves
  have l2 := le.parts
  have l3 := le.deep
  have e : ([] ++ [(((p.leaves : Nat) : Int), ((q.leaves : Nat) : Int)), ((p.parts : Nat), (q.parts : Nat)), ((p.deep : Nat), (q.deep : Nat))].map fun p => PyData.int (p.2 - p.1)) = [((q.leaves : Nat) : Int) - (p.leaves : Nat), (q.parts : Nat) - (p.parts : Nat), (q.deep : Nat) - (p.deep : Nat)].map PyData.int := rfl
  rw [e]
  simp only [intsOf_map]
  refine ⟨by show 0 < 3; decide, fun m hm _ => ?_⟩
  have m0 : m ≤ 0 := by
    simp only [List.mem_cons, List.not_mem_nil, or_false] at hm
    omega
  simp only [dC, dB]
  rw [if_neg (by rw [decide_eq_true_iff]; omega), ← hD]
  simp only [dRet, dAndV, dOp]
  refine call_pure2 (S := S_put 45) (δ' := [.dat p.d, .dat (.str p.d.shown), .dat q.d, s', t']) [q.d] (fun Q z => z) (mono_put 45) ⟨q, rfl, okq, by have := le.parts; omega, by omega, rfl, ?_⟩
  rw [qq]
  refine var_at (d := q.d) rfl ⟨okq.sh, okq.sh, ?_⟩
  rw [eqv_pt, Pt.beq_self]
  simp only [↓reduceIte, dOrV, dOp]
  refine var_at (d := q.d) rfl ?_
  refine var_at (d := p.d) rfl ⟨okq.sh, ok0.sh, ?_⟩
  rw [eqv_pt]
  cases c1 : q.beq p
  · show dNotV (dCall (S_done 20) (cD (dVar 0) cNil)) [.dat p.d, .dat (.str p.d.shown), .dat q.d, s', t'] _
    unfold dNotV
    refine call_pure2 (S := S_done 20) (δ' := [.dat p.d, .dat (.str p.d.shown), .dat q.d, s', t']) [p.d] (fun Q z => z) (mono_done 20) ⟨p, rfl, hg, by omega, by decide, rfl, ?_⟩
    cases c2 : p.done
    · exact ⟨[], hR, outs0⟩
    · have z := put_same 45 p c2
      rw [hq] at z
      rw [z, Pt.beq_self] at c1
      cases c1
  · exact ⟨[], hR, outs0⟩
end
end K63

set_option Elab.async false
set_option linter.all false
set_option maxRecDepth 100000
set_option maxHeartbeats 8000000
namespace K63
open PySem PySem.Spec L2 TL
def S_any : DSp := fun as R => ∃ n : Nat, S_pattern n as R
theorem mono_any : MonoS S_any := fun as R R' h ⟨n, k⟩ => ⟨n, mono_pattern n as R R' h k⟩
/-- what is a pattern keeps the bounds -/
theorem isP_inB {p : Pt} (h : isP p.d = true) : inB p = true := by
  unfold isP at h
  cases e : rd 12 p.d with
  | none =>
    rw [e] at h
    cases h
  | some q =>
    rw [e] at h
    obtain ⟨_, e2, _⟩ := rd_sound 12 _ _ e
    have z : p.beq q = true := by
      rw [← eqv_pt, ← e2, eqv_pt, Pt.beq_self]
    rw [(Pt.beq_iff _ _).mp z]
    exact h
def ptWide : Pt := .two true (.sgn (Str.ofString "abcdefgh")) (.sgn (Str.ofString "i"))
def ptNear : Pt := .two true (.sgn (Str.ofString "abcde")) (.sgn (Str.ofString "cfgh"))
def ptA : Pt := .sgn (Str.ofString "a")
def ptB : Pt := .sgn (Str.ofString "b")
def ptC : Pt := .sgn (Str.ofString "c")
def ptOut : Pt := .two true (.two false ptA ptB) (.two false ptA ptC)
def ptIn : Pt := .two false ptA (.sgn (Str.ofString "bc"))
def ptAll : Pt := .sgn (Str.ofString "abcdefgh")
theorem wide_put : (ptWide.put 45).beq ptWide = true := by decide +kernel
theorem near_put : (ptNear.put 45).beq ptAll = true := by decide +kernel
theorem out_put : (ptOut.put 45).beq ptIn = true := by decide +kernel
theorem wide_ok : ok50 ptWide := ⟨by decide +kernel, by decide⟩
theorem near_ok : ok50 ptNear := ⟨by decide +kernel, by decide⟩
theorem out_ok : ok50 ptOut := ⟨by decide +kernel, by decide⟩
theorem in_ok : ok50 ptIn := ⟨by decide +kernel, by decide⟩
theorem all_ok : ok50 ptAll := ⟨by decide +kernel, by decide⟩
theorem put_ok50 {p : Pt} (h : ok50 p) (hp : p.parts ≤ 45) : ok50 (p.put 45) := ⟨put_good 45 p h.1, Nat.le_trans (put_le 45 p hp).deep h.2⟩
/-- the four that are made of a drawn one -/
def fourOf (p : Pt) : List Pt := [p, .two true p p, .two false p (.again p), .again (.two true .non p)]
theorem four_ok {p q : Pt} (hg : p.good = true) (hd : p.deep ≤ 14) (h : q ∈ fourOf p) : q.good = true ∧ q.deep ≤ 16 := by
  unfold fourOf at h
  simp only [List.mem_cons, List.not_mem_nil, or_false] at h
  rcases h with rfl | rfl | rfl | rfl
  · exact ⟨hg, by omega⟩
  · exact ⟨by show (p.good && p.good) = true; rw [hg]; rfl, by show max p.deep p.deep + 1 ≤ 16; omega⟩
  · exact ⟨by show (p.good && p.good) = true; rw [hg]; rfl, by show max p.deep (p.deep + 1) + 1 ≤ 16; omega⟩
  · exact ⟨by show (true && p.good) = true; rw [hg]; rfl, by show max 1 p.deep + 1 + 1 ≤ 16; omega⟩
section
variable {P : Program} {w : World} {K : PySem.W.Frag} {mg : Str → Option Value} {base : Heap}
variable (m_len : mg "len" = none) (m_isinstance : mg "isinstance" = none) (m_str : mg "str" = none) (m_bool : mg "bool" = none) (m_range : mg "range" = none) (m_int : mg "int" = none) (m_max : mg "max" = none) (m_min : mg "min" = none)
  (m_sum : mg "sum" = none) (m_sorted : mg "sorted" = none) (m_set : mg "set" = none) (m_tuple : mg "tuple" = none) (m_all : mg "all" = none) (m_zip : mg "zip" = none) (m_repr : mg "repr" = none)
include m_len m_isinstance m_str m_bool m_range m_int m_max m_min m_sum m_sorted m_set m_tuple m_all m_zip m_repr

theorem ok_law {f : Addr} {fd : FuncData} (F : Fun K "law" "law" s_law f fd) (k_put_otherwise : Kn P w K mg base 49 "put_otherwise" (S_put 45)) (kk_put_otherwise : KnK P w K mg base 49 "put_otherwise" ["pattern"] (S_put 45)) (k_law_hand : KnN P w K mg base 1 "_law_hand" S_hand) (k_law_draw : Kn P w K mg base 1 "_law_draw" S_draw) (k_law_pattern : Kn P w K mg base 17 "_law_pattern" S_any) (k_law_few_letters : Kn P w K mg base 31 "_law_few_letters" (S_few 30)) (k_law_is : Kn P w K mg base 35 "_law_is" S_is) (k_law_right : Kn P w K mg base 50 "_law_right" S_right) (k_law_by_rules : Kn P w K mg base 3 "_law_by_rules" S_rules) : FnOkG P w K mg base CX0 51 f fd ["_law_script"] (spD K S_law) := by
  refine fnD F sc_law (fun as R h => by obtain ⟨_, _, rfl, _⟩ := h; rfl) fun cdv A outer s H E hr => ?_
  have nd := sc_law.nd
  have hu := hr.units
  have hu1 := hr.units1
  refine ⟨_, _, (dss_cons (ds_set 1 nd (de_tup (da_cons de_str (da_cons (de_tup (da_cons de_str (da_cons de_str da_nil))) (da_cons (de_tup (da_cons de_str (da_cons de_str da_nil))) da_nil)))))
    (dss_cons (ds_set 2 nd (de_tup (da_cons de_str (da_cons (de_tup (da_cons de_str (da_cons de_str da_nil))) (da_cons (de_tup (da_cons de_str (da_cons de_str da_nil))) da_nil)))))
    (dss_cons (ds_if (dt_w (dw_or (dt_cmp (op_neD hu) ro_ne (nomark _) (de_call k_put_otherwise hr (by omega) (dca_d (de_var 1) dca_nil)) (de_var 1)) (dw_or1 (dt_cmp (op_neD hu) ro_ne (nomark _) (de_callKw kk_put_otherwise hr (by omega) (de_var 2)) (de_tup (da_cons de_str (da_cons de_str da_nil))))))) (dss_one (ds_ret de_bl)) dss_nil)
    (dss_cons (ds_setTup (de_tup (da_cons (de_tup (da_cons de_str (da_cons de_str da_nil))) (da_cons (de_tup (da_cons de_str (da_cons de_str da_nil))) (da_cons (de_tup (da_cons de_str (da_cons de_str da_nil))) da_nil)))) (dg_tup rfl (dgs_cons (dg_name 3 nd) (dgs_cons (dg_name 4 nd) (dgs_cons (dg_name 5 nd) dgs_nil)))))
    (dss_cons (ds_if (dt_cmp (op_neD hu) ro_ne (nomark _) (de_call k_put_otherwise hr (by omega) (dca_d (de_tup (da_cons de_str (da_cons (de_tup (da_cons de_str (da_cons (de_var 3) (da_cons (de_var 4) da_nil)))) (da_cons (de_tup (da_cons de_str (da_cons (de_var 3) (da_cons (de_var 5) da_nil)))) da_nil)))) dca_nil)) (de_tup (da_cons de_str (da_cons (de_var 3) (da_cons (de_tup (da_cons de_str (da_cons de_str da_nil))) da_nil))))) (dss_one (ds_ret de_bl)) dss_nil)
    (dss_cons (ds_for PassesOwn.never rfl (di_r1 m_range (de_max2 m_max de_int (de_min2 m_min (de_lenV 0 m_len) de_int))) (dg_name 6 nd)
    (dss_cons (ds_callOwn 7 nd k_law_hand hr (by omega) (dca_s 0 (dca_d (de_var 6) dca_nil)))
    (dss_cons (ds_set 8 nd (de_call k_law_pattern hr (by omega) (dca_s 7 (dca_d (de_call k_law_draw hr (by omega) (dca_s 7 (dca_d de_int dca_nil))) (dca_d (de_op op_add ro_I de_int (de_call k_law_draw hr (by omega) (dca_s 7 (dca_d de_int dca_nil)))) dca_nil)))))
    (dss_cons (ds_if (dt_cmp (op_eqD hu) ro_eq (nomark _) (de_call k_law_draw hr (by omega) (dca_s 7 (dca_d de_int dca_nil))) de_int) (dss_one (ds_set 8 nd (de_call k_law_few_letters hr (by omega) (dca_s 7 (dca_d (de_var 8) dca_nil))))) dss_nil)
    (dss_cons (ds_for PassesOwn.never rfl (di_list (de_lst (da_cons (de_var 8) (da_cons (de_tup (da_cons de_str (da_cons (de_var 8) (da_cons (de_var 8) da_nil)))) (da_cons (de_tup (da_cons de_str (da_cons (de_var 8) (da_cons (de_tup (da_cons de_str (da_cons (de_var 8) da_nil))) da_nil)))) (da_cons (de_tup (da_cons de_str (da_cons (de_tup (da_cons de_str (da_cons (de_tup (da_cons de_str da_nil)) (da_cons (de_var 8) da_nil)))) da_nil))) da_nil)))))) (dg_name 9 nd)
    (dss_one (ds_if (dt_w (dw_and (dt_val (de_call k_law_is hr (by omega) (dca_d (de_var 9) dca_nil))) (dw_and1 (dt_not (dt_val (de_call k_law_right hr (by omega) (dca_d (de_var 9) dca_nil))))))) (dss_one (ds_ret de_bl)) dss_nil)))
    (dss_one (ds_for PassesOwn.never rfl (di_list (de_call k_law_by_rules hr (by omega) (dca_s 7 dca_nil))) (dg_tup rfl (dgs_cons (dg_name 9 nd) (dgs_cons (dg_name 10 nd) dgs_nil)))
    (dss_one (ds_if (dt_w (dw_or (dt_cmp (op_neD hu) ro_ne (nomark _) (de_call k_put_otherwise hr (by omega) (dca_d (de_var 9) dca_nil)) (de_var 10)) (dw_or1 (dt_not (dt_val (de_call k_law_right hr (by omega) (dca_d (de_var 9) dca_nil))))))) (dss_one (ds_ret de_bl)) dss_nil)))))))))
    (dss_one (ds_ret de_bl)))))))), ?_⟩
  rintro as R ⟨ns, hl, rfl, hR⟩
  have cput : ∀ {p : Pt} {R' : DQ} {u : DCA} {δ δ' : List Sl}, ok50 p → p.parts ≤ 45 → (∀ Q : List CA → List Sl → Prop, Q [.d p.d] δ' → u δ Q) → R' (p.put 45).d δ' → dCall (S_put 45) u δ R' := fun {p R' u δ δ'} h1 h2 h3 h4 => call_pure2 (S := S_put 45) (δ' := δ') [p.d] h3 (mono_put 45) ⟨p, rfl, h1, h2, by omega, rfl, h4⟩
  refine seq_asg ?_
  generalize hA : dSeq (dAsg _ _) _ = RA
  simp only [dTup, dCons, dNil, dC]
  refine ⟨size2, size2, size3, ?_⟩
  rw [← hA]
  refine seq_asg ?_
  generalize hB : dSeq (dIfS _ _ _) _ = RB
  simp only [dTup, dCons, dNil, dC]
  refine ⟨size2, size2, size3, ?_⟩
  rw [← hB]
  refine seq_if ?_
  generalize hC : dSeq _ _ = RC
  show dOr _ _ [.scr (ns.map PyData.int), .dat ptWide.d, .dat ptNear.d, .no, .no, .no, .no, .no, .no, .no, .no] _
  simp only [dOr, dTest, dOp]
  refine cput (δ' := [.scr (ns.map PyData.int), .dat ptWide.d, .dat ptNear.d, .no, .no, .no, .no, .no, .no, .no, .no]) wide_ok (by decide) (fun Q z => z) ?_
  refine var_at (d := ptWide.d) rfl ⟨(put_ok50 wide_ok (by decide)).sh, wide_ok.sh, ?_⟩
  rw [eqv_pt, wide_put]
  simp only [Bool.not_true, Bool.false_eq_true, if_false]
  refine cput (δ' := [.scr (ns.map PyData.int), .dat ptWide.d, .dat ptNear.d, .no, .no, .no, .no, .no, .no, .no, .no]) near_ok (by decide) (fun Q z => z) ?_
  simp only [dTup, dCons, dNil, dC]
  refine ⟨size2, (put_ok50 near_ok (by decide)).sh, all_ok.sh, ?_⟩
  show (if (!PyData.eqv (ptNear.put 45).d ptAll.d) = true then _ else _)
  rw [eqv_pt, near_put]
  simp only [Bool.not_true, Bool.false_eq_true, if_false]
  rw [← hC]
  refine seq_asg ?_
  generalize hD : dSeq _ _ = RD
  simp only [dTup, dCons, dNil, dC]
  refine ⟨size2, size2, size2, size3, ?_⟩
  refine ⟨rfl, ?_⟩
  simp only [dgCons, dgNil, dgName, List.set_cons_succ, List.set_cons_zero]
  rw [← hD]
  refine seq_if ?_
  generalize hE : dSeq _ _ = RE
  show dTest _ [.scr (ns.map PyData.int), .dat ptWide.d, .dat ptNear.d, .dat ptA.d, .dat ptB.d, .dat ptC.d, .no, .no, .no, .no, .no] _
  simp only [dTest, dOp]
  refine cput (p := ptOut) (δ' := [.scr (ns.map PyData.int), .dat ptWide.d, .dat ptNear.d, .dat ptA.d, .dat ptB.d, .dat ptC.d, .no, .no, .no, .no, .no]) out_ok (by decide) (fun Q z => ?_) ?_
  · show dTup _ _ _
    simp only [dTup, dCons, dNil, dC, dVar, List.getElem?_cons_zero, List.getElem?_cons_succ]
    exact ⟨size3, size3, size3, z⟩
  simp only [dTup, dCons, dNil, dC, dVar, List.getElem?_cons_zero, List.getElem?_cons_succ]
  refine ⟨size2, size3, (put_ok50 out_ok (by decide)).sh, in_ok.sh, ?_⟩
  show (if (!PyData.eqv (ptOut.put 45).d ptIn.d) = true then _ else _)
  rw [eqv_pt, out_put]
  simp only [Bool.not_true, Bool.false_eq_true, if_false]
  rw [← hE]
  generalize ptWide.d = w1
  generalize ptNear.d = w2
  generalize ptA.d = w3
  generalize ptB.d = w4
  generalize ptC.d = w5
  dsimp only [dSeq, dFor, diR1, dII, dC]
  show (-(2 ^ 62 : Int) ≤ (if (if (30 : Int) < ((ns.map PyData.int).length : Int) then 30 else ((ns.map PyData.int).length : Int)) > 2 then (if (30 : Int) < ((ns.map PyData.int).length : Int) then 30 else ((ns.map PyData.int).length : Int)) else 2) ∧ (if (if (30 : Int) < ((ns.map PyData.int).length : Int) then 30 else ((ns.map PyData.int).length : Int)) > 2 then (if (30 : Int) < ((ns.map PyData.int).length : Int) then 30 else ((ns.map PyData.int).length : Int)) else 2) < 2 ^ 62) ∧ forW _ _ _ (iotaD 0 (if (if (30 : Int) < ((ns.map PyData.int).length : Int) then 30 else ((ns.map PyData.int).length : Int)) > 2 then (if (30 : Int) < ((ns.map PyData.int).length : Int) then 30 else ((ns.map PyData.int).length : Int)) else 2).toNat) _
  have hn : (if (if (30 : Int) < ((ns.map PyData.int).length : Int) then 30 else ((ns.map PyData.int).length : Int)) > 2 then (if (30 : Int) < ((ns.map PyData.int).length : Int) then 30 else ((ns.map PyData.int).length : Int)) else 2) ≤ 30 ∧ 2 ≤ (if (if (30 : Int) < ((ns.map PyData.int).length : Int) then 30 else ((ns.map PyData.int).length : Int)) > 2 then (if (30 : Int) < ((ns.map PyData.int).length : Int) then 30 else ((ns.map PyData.int).length : Int)) else 2) := by
    split <;> split <;> omega
  generalize (if (if (30 : Int) < ((ns.map PyData.int).length : Int) then 30 else ((ns.map PyData.int).length : Int)) > 2 then (if (30 : Int) < ((ns.map PyData.int).length : Int) then 30 else ((ns.map PyData.int).length : Int)) else 2) = n at hn ⊢
  refine ⟨⟨by omega, by omega⟩, ?_⟩
  refine for_inv (fun δ => ∃ s6 s7 s8 s9 s10, δ = [.scr (ns.map PyData.int), .dat w1, .dat w2, .dat w3, .dat w4, .dat w5, s6, s7, s8, s9, s10]) ?_ _ _ ⟨_, _, _, _, _, rfl⟩ ?_
  · rintro δ ⟨s6, s7, s8, s9, s10, rfl⟩
    exact ⟨[], hR, outs0⟩
  rintro d hd δ ⟨s6, s7, s8, s9, s10, rfl⟩ N hN
  obtain ⟨k, hk, rfl⟩ := List.mem_map.mp hd
  have hk := List.mem_range.mp hk
  dsimp only [dgName]
  refine call_hand (i := 7) (j := 0) (q := 6) (ns := ns) (k := (0 : Int) + (k : Int)) rfl rfl hl ⟨by omega, by omega⟩ ?_
  intro x y hv
  have cis : ∀ {q : Pt} {R' : Bool → List Sl → Prop} {u : DCA} {δ : List Sl}, q.good = true → q.deep ≤ 16 → (∀ Q : List CA → List Sl → Prop, Q [.d q.d] δ → u δ Q) → R' (isP q.d) δ → dTest (dCall S_is u) δ R' := fun {q R' u δ} h1 h2 h3 h4 => call_pure2 (S := S_is) (δ' := δ) [q.d] h3 mono_is ⟨q.d, rfl, Pt.gd_d q h1, by have := Pt.dep q; omega, rfl, h4⟩
  have crt : ∀ {q : Pt} {R' : Bool → List Sl → Prop} {u : DCA} {δ : List Sl}, q.good = true → inB q = true → (∀ Q : List CA → List Sl → Prop, Q [.d q.d] δ → u δ Q) → R' true δ → dTest (dCall S_right u) δ R' := fun {q R' u δ} h1 h2 h3 h4 => call_pure2 (S := S_right) (δ' := δ) [q.d] h3 mono_right ⟨q, rfl, h1, h2, rfl, h4⟩
  dsimp only
  refine seq_asg ?_
  generalize hF : dSeq _ _ = RF
  refine call_own_late (t := none) (fun ds cs δ2 => ∃ lv rm x2 y2 : Int, ds = [.int lv, .int ((rm.toNat + 1 : Nat) : Int)] ∧ cs = [.int x2, .int y2] ∧ δ2 = [.scr (ns.map PyData.int), .dat w1, .dat w2, .dat w3, .dat w4, .dat w5, .dat (.int ((0 : Int) + (k : Int))), .own none [.int x2, .int y2], s8, s9, s10] ∧ (0 ≤ lv ∧ lv < 12) ∧ (0 ≤ rm ∧ rm < 12) ∧ okH x2 y2) rfl ?_ mono_any ?_
  · intro Q hQ
    dsimp only [cD, cNil, dOp, dC]
    refine call_draw (i := 7) (t := none) (n := 12) rfl hv ⟨by decide, by decide⟩ (fun Q q => q) ?_
    intro lv x1 y1 hlv hv1
    refine call_draw (i := 7) (t := none) (n := 12) rfl hv1 ⟨by decide, by decide⟩ (fun Q q => q) ?_
    intro rm x2 y2 hrm hv2
    dsimp only [dI]
    have er : ((rm.toNat + 1 : Nat) : Int) = 1 + rm := by omega
    rw [← er]
    exact hQ _ _ _ ⟨lv, rm, x2, y2, rfl, rfl, rfl, hlv, hrm, hv2⟩
  rintro _ _ _ ⟨lv, rm, x2, y2, rfl, rfl, rfl, hlv, hrm, hv2⟩
  refine ⟨rfl, rm.toNat + 1, x2, y2, lv, rfl, by omega, by omega, hv2, hlv.1, by omega, fun p x3 y3 hg hdp hv3 => ⟨_, rfl, ?_⟩⟩
  have hd14 : p.deep ≤ 14 := by omega
  simp only [dgName, List.set_cons_succ, List.set_cons_zero]
  rw [← hF]
  refine seq_if ?_
  generalize hG : dSeq _ _ = RG
  have tail : ∀ (E2 : DEnds) (p : Pt) (x y : Int), p.good = true → p.deep ≤ 14 → okH x y → E2.nx = N → RG E2 [.scr (ns.map PyData.int), .dat w1, .dat w2, .dat w3, .dat w4, .dat w5, .dat (.int ((0 : Int) + (k : Int))), .own none [.int x, .int y], .dat p.d, s9, s10] := by
    intro E2 p x y hg hdp hv hN2
    rw [← hG]
    dsimp only [dSeq, dFor, diL]
    simp only [dLst, dTup, dCons, dNil, dC, dVar, List.getElem?_cons_zero, List.getElem?_cons_succ]
    refine ⟨size3, size2, size3, by show 1 ≤ sizeLine; decide, size3, size2, by show 4 ≤ sizeLine; decide, ?_⟩
    show forW _ _ _ ((fourOf p).map Pt.d) _
    refine for_inv (fun δ => ∃ s9, δ = [.scr (ns.map PyData.int), .dat w1, .dat w2, .dat w3, .dat w4, .dat w5, .dat (.int ((0 : Int) + (k : Int))), .own none [.int x, .int y], .dat p.d, s9, s10]) ?_ _ _ ⟨_, rfl⟩ ?_
    · rintro δ ⟨s9, rfl⟩
      dsimp only
      simp only [dFor, diL]
      refine call_own1 (i := 7) (t := none) (cs := [.int x, .int y]) rfl [] (fun Q q => q) ⟨x, y, rfl, hv, fun p' x1 y1 hp hv1 => ⟨_, rfl, ?_⟩⟩ (mono_rules _)
      simp only [List.set_cons_succ, List.set_cons_zero]
      refine for_inv (fun δ => ∃ s9 s10, δ = [.scr (ns.map PyData.int), .dat w1, .dat w2, .dat w3, .dat w4, .dat w5, .dat (.int ((0 : Int) + (k : Int))), .own none [.int x1, .int y1], .dat p.d, s9, s10]) ?_ _ _ ⟨_, _, rfl⟩ ?_
      · rintro δ ⟨s9, s10, rfl⟩
        show E2.nx _
        rw [hN2]
        exact hN _ ⟨_, _, _, _, _, rfl⟩
      · rintro d hd δ ⟨s9, s10, rfl⟩ M hM
        obtain ⟨q, hq, rfl⟩ := List.mem_map.mp hd
        have fq := hp.ok.1 q hq
        unfold fine at fq
        rw [Bool.and_eq_true, Bool.and_eq_true, Bool.and_eq_true, Bool.and_eq_true, decide_eq_true_iff] at fq
        obtain ⟨f1, f2, f3, f4, f5⟩ := fq
        obtain ⟨b1, b2, b3⟩ := inB_of f4
        refine ⟨rfl, ?_⟩
        simp only [dgCons, dgNil, dgName, List.set_cons_succ, List.set_cons_zero, dIfS, dOr, dNot]
        show dTest (dOp dNe _ _) _ _
        have okq : ok50 q.1 := ⟨f2, by omega⟩
        have oke : ok50 q.2 := ⟨f3, by omega⟩
        simp only [dTest, dOp]
        refine cput (p := q.1) (δ' := [.scr (ns.map PyData.int), .dat w1, .dat w2, .dat w3, .dat w4, .dat w5, .dat (.int ((0 : Int) + (k : Int))), .own none [.int x1, .int y1], .dat p.d, .dat q.1.d, .dat q.2.d]) okq (by omega) (fun Q z => z) ?_
        refine var_at (d := q.2.d) rfl ⟨(put_ok50 okq (by omega)).sh, oke.sh, ?_⟩
        rw [eqv_pt, f1]
        simp only [Bool.not_true, Bool.false_eq_true, if_false]
        refine crt f2 f4 (fun Q z => z) ?_
        simp only [Bool.not_true, Bool.false_eq_true, if_false]
        exact hM _ ⟨_, _, rfl⟩
    · rintro d hd δ ⟨s9, rfl⟩ M hM
      obtain ⟨q, hq, rfl⟩ := List.mem_map.mp hd
      obtain ⟨qg, qd⟩ := four_ok hg hdp hq
      simp only [dgName, List.set_cons_succ, List.set_cons_zero, dIfS, dAnd, dNot]
      refine cis qg qd (fun Q z => z) ?_
      cases e : isP q.d with
      | false => exact hM _ ⟨_, rfl⟩
      | true =>
        simp only [↓reduceIte]
        refine crt qg (isP_inB e) (fun Q z => z) ?_
        exact hM _ ⟨_, rfl⟩
  show dTest _ [.scr (ns.map PyData.int), .dat w1, .dat w2, .dat w3, .dat w4, .dat w5, .dat (.int ((0 : Int) + (k : Int))), .own none [.int x3, .int y3], .dat p.d, s9, s10] _
  simp only [dTest, dOp]
  refine call_draw (i := 7) (t := none) (n := 2) rfl hv3 ⟨by decide, by decide⟩ (fun Q q => q) ?_
  intro t x4 y4 ht hv4
  refine ⟨rfl, rfl, ?_⟩
  rw [ev_ii]
  cases hb : (t == 0) with
  | true =>
    simp only [↓reduceIte]
    show dCall (S_few 30) _ _ _
    refine call_few (i := 7) (t := none) (p := p) rfl hv4 hg (by omega) (by omega) (fun Q q => q) fun q x5 y5 sm hv5 => ?_
    exact tail _ q x5 y5 sm.good (by rw [sm.deep]; exact hd14) hv5 rfl
  | false =>
    exact tail _ p x4 y4 hg hd14 hv4 rfl

end
end K63

set_option Elab.async false
set_option linter.all false
set_option maxRecDepth 100000
set_option maxHeartbeats 4000000
namespace K63
open PySem PySem.Spec L2 TL
theorem all_mk {l : PySem.W.OpenLaw} {w : World} {K : PySem.W.Frag} {h : Heap} {mg : Str → Option Value} {fa f1 f2 f3 f4 f5 f6 f7 f8 f9 f10 f11 f12 f13 f14 f15 f16 f17 f18 f19 f20 f21 f22 f23 f24 f25 f26 f27 f28 f29 f30 : Addr} (X : K.In h) (G : h.Ns mainGlobals mg) (hfa : mg "law" = some (.ref fa))
    {od1 an1 od2 an2 od3 an3 od4 an4 od5 an5 od6 an6 od7 an7 od8 an8 od9 an9 od10 an10 od11 an11 od12 an12 od13 an13 od14 an14 od15 an15 od16 an16 od17 an17 od18 an18 od19 an19 od20 an20 od21 an21 od22 an22 od23 an23 od24 an24 od25 an25 od26 an26 od27 an27 od28 an28 od29 an29 od30 an30 : Option Addr} {sl1 sl2 sl3 sl4 sl5 sl6 sl7 sl8 sl9 sl10 sl11 sl12 sl13 sl14 sl15 sl16 sl17 sl18 sl19 sl20 sl21 sl22 sl23 sl24 sl25 sl26 sl27 sl28 sl29 sl30 : Array (Option Value)} {oc1 kV1 dc1 pm1 cd1 ct1 oc2 kV2 dc2 pm2 cd2 ct2 oc3 kV3 dc3 pm3 cd3 ct3 oc4 kV4 dc4 pm4 cd4 ct4 oc5 kV5 dc5 pm5 cd5 ct5 oc6 kV6 dc6 pm6 cd6 ct6 oc7 kV7 dc7 pm7 cd7 ct7 oc8 kV8 dc8 pm8 cd8 ct8 oc9 kV9 dc9 pm9 cd9 ct9 oc10 kV10 dc10 pm10 cd10 ct10 oc11 kV11 dc11 pm11 cd11 ct11 oc12 kV12 dc12 pm12 cd12 ct12 oc13 kV13 dc13 pm13 cd13 ct13 oc14 kV14 dc14 pm14 cd14 ct14 oc15 kV15 dc15 pm15 cd15 ct15 oc16 kV16 dc16 pm16 cd16 ct16 oc17 kV17 dc17 pm17 cd17 ct17 oc18 kV18 dc18 pm18 cd18 ct18 oc19 kV19 dc19 pm19 cd19 ct19 oc20 kV20 dc20 pm20 cd20 ct20 oc21 kV21 dc21 pm21 cd21 ct21 oc22 kV22 dc22 pm22 cd22 ct22 oc23 kV23 dc23 pm23 cd23 ct23 oc24 kV24 dc24 pm24 cd24 ct24 oc25 kV25 dc25 pm25 cd25 ct25 oc26 kV26 dc26 pm26 cd26 ct26 oc27 kV27 dc27 pm27 cd27 ct27 oc28 kV28 dc28 pm28 cd28 ct28 oc29 kV29 dc29 pm29 cd29 ct29 oc30 kV30 dc30 pm30 cd30 ct30 : Value}
    {dINNER : Addr} {esINNER : Array DictEntry} {nINNER : Nat}
    (a1 : PySem.W.nsIn K mainGlobals "is_sign" = some (some (.ref f1))) (l1 : K.lookup f1 = some ⟨oc1, od1, .func (PySem.W.fnOf "is_sign" "is_sign" (defArgs s_is_sign) (defBody s_is_sign) (defScope s_is_sign) .none kV1 dc1 pm1 an1 cd1 ct1), sl1⟩) (c1 : PySem.W.codeIn K cd1 "is_sign" = true) (k1 : PySem.W.keepIn K (.ref f1) = true)
    (a2 : PySem.W.nsIn K mainGlobals "is_pattern" = some (some (.ref f2))) (l2 : K.lookup f2 = some ⟨oc2, od2, .func (PySem.W.fnOf "is_pattern" "is_pattern" (defArgs s_is_pattern) (defBody s_is_pattern) (defScope s_is_pattern) .none kV2 dc2 pm2 an2 cd2 ct2), sl2⟩) (c2 : PySem.W.codeIn K cd2 "is_pattern" = true) (k2 : PySem.W.keepIn K (.ref f2) = true)
    (a3 : PySem.W.nsIn K mainGlobals "is_within" = some (some (.ref f3))) (l3 : K.lookup f3 = some ⟨oc3, od3, .func (PySem.W.fnOf "is_within" "is_within" (defArgs s_is_within) (defBody s_is_within) (defScope s_is_within) .none kV3 dc3 pm3 an3 cd3 ct3), sl3⟩) (c3 : PySem.W.codeIn K cd3 "is_within" = true) (k3 : PySem.W.keepIn K (.ref f3) = true)
    (a4 : PySem.W.nsIn K mainGlobals "is_formed" = some (some (.ref f4))) (l4 : K.lookup f4 = some ⟨oc4, od4, .func (PySem.W.fnOf "is_formed" "is_formed" (defArgs s_is_formed) (defBody s_is_formed) (defScope s_is_formed) .none kV4 dc4 pm4 an4 cd4 ct4), sl4⟩) (c4 : PySem.W.codeIn K cd4 "is_formed" = true) (k4 : PySem.W.keepIn K (.ref f4) = true)
    (a5 : PySem.W.nsIn K mainGlobals "are_letters" = some (some (.ref f5))) (l5 : K.lookup f5 = some ⟨oc5, od5, .func (PySem.W.fnOf "are_letters" "are_letters" (defArgs s_are_letters) (defBody s_are_letters) (defScope s_are_letters) .none kV5 dc5 pm5 an5 cd5 ct5), sl5⟩) (c5 : PySem.W.codeIn K cd5 "are_letters" = true) (k5 : PySem.W.keepIn K (.ref f5) = true)
    (a6 : PySem.W.nsIn K mainGlobals "inner_of" = some (some (.ref f6))) (l6 : K.lookup f6 = some ⟨oc6, od6, .func (PySem.W.fnOf "inner_of" "inner_of" (defArgs s_inner_of) (defBody s_inner_of) (defScope s_inner_of) .none kV6 dc6 pm6 an6 cd6 ct6), sl6⟩) (c6 : PySem.W.codeIn K cd6 "inner_of" = true) (k6 : PySem.W.keepIn K (.ref f6) = true)
    (a7 : PySem.W.nsIn K mainGlobals "leaves_of" = some (some (.ref f7))) (l7 : K.lookup f7 = some ⟨oc7, od7, .func (PySem.W.fnOf "leaves_of" "leaves_of" (defArgs s_leaves_of) (defBody s_leaves_of) (defScope s_leaves_of) .none kV7 dc7 pm7 an7 cd7 ct7), sl7⟩) (c7 : PySem.W.codeIn K cd7 "leaves_of" = true) (k7 : PySem.W.keepIn K (.ref f7) = true)
    (a8 : PySem.W.nsIn K mainGlobals "parts_of" = some (some (.ref f8))) (l8 : K.lookup f8 = some ⟨oc8, od8, .func (PySem.W.fnOf "parts_of" "parts_of" (defArgs s_parts_of) (defBody s_parts_of) (defScope s_parts_of) .none kV8 dc8 pm8 an8 cd8 ct8), sl8⟩) (c8 : PySem.W.codeIn K cd8 "parts_of" = true) (k8 : PySem.W.keepIn K (.ref f8) = true)
    (a9 : PySem.W.nsIn K mainGlobals "deep_of" = some (some (.ref f9))) (l9 : K.lookup f9 = some ⟨oc9, od9, .func (PySem.W.fnOf "deep_of" "deep_of" (defArgs s_deep_of) (defBody s_deep_of) (defScope s_deep_of) .none kV9 dc9 pm9 an9 cd9 ct9), sl9⟩) (c9 : PySem.W.codeIn K cd9 "deep_of" = true) (k9 : PySem.W.keepIn K (.ref f9) = true)
    (a10 : PySem.W.nsIn K mainGlobals "put_otherwise" = some (some (.ref f10))) (l10 : K.lookup f10 = some ⟨oc10, od10, .func (PySem.W.fnOf "put_otherwise" "put_otherwise" (defArgs s_put_otherwise) (defBody s_put_otherwise) (defScope s_put_otherwise) .none kV10 dc10 pm10 an10 cd10 ct10), sl10⟩) (c10 : PySem.W.codeIn K cd10 "put_otherwise" = true) (k10 : PySem.W.keepIn K (.ref f10) = true)
    (a11 : PySem.W.nsIn K mainGlobals "by_rule" = some (some (.ref f11))) (l11 : K.lookup f11 = some ⟨oc11, od11, .func (PySem.W.fnOf "by_rule" "by_rule" (defArgs s_by_rule) (defBody s_by_rule) (defScope s_by_rule) .none kV11 dc11 pm11 an11 cd11 ct11), sl11⟩) (c11 : PySem.W.codeIn K cd11 "by_rule" = true) (k11 : PySem.W.keepIn K (.ref f11) = true)
    (a12 : PySem.W.nsIn K mainGlobals "again_by_rule" = some (some (.ref f12))) (l12 : K.lookup f12 = some ⟨oc12, od12, .func (PySem.W.fnOf "again_by_rule" "again_by_rule" (defArgs s_again_by_rule) (defBody s_again_by_rule) (defScope s_again_by_rule) .none kV12 dc12 pm12 an12 cd12 ct12), sl12⟩) (c12 : PySem.W.codeIn K cd12 "again_by_rule" = true) (k12 : PySem.W.keepIn K (.ref f12) = true)
    (a13 : PySem.W.nsIn K mainGlobals "then_by_rule" = some (some (.ref f13))) (l13 : K.lookup f13 = some ⟨oc13, od13, .func (PySem.W.fnOf "then_by_rule" "then_by_rule" (defArgs s_then_by_rule) (defBody s_then_by_rule) (defScope s_then_by_rule) .none kV13 dc13 pm13 an13 cd13 ct13), sl13⟩) (c13 : PySem.W.codeIn K cd13 "then_by_rule" = true) (k13 : PySem.W.keepIn K (.ref f13) = true)
    (a14 : PySem.W.nsIn K mainGlobals "or_by_rule" = some (some (.ref f14))) (l14 : K.lookup f14 = some ⟨oc14, od14, .func (PySem.W.fnOf "or_by_rule" "or_by_rule" (defArgs s_or_by_rule) (defBody s_or_by_rule) (defScope s_or_by_rule) .none kV14 dc14 pm14 an14 cd14 ct14), sl14⟩) (c14 : PySem.W.codeIn K cd14 "or_by_rule" = true) (k14 : PySem.W.keepIn K (.ref f14) = true)
    (a15 : PySem.W.nsIn K mainGlobals "sign_of_both" = some (some (.ref f15))) (l15 : K.lookup f15 = some ⟨oc15, od15, .func (PySem.W.fnOf "sign_of_both" "sign_of_both" (defArgs s_sign_of_both) (defBody s_sign_of_both) (defScope s_sign_of_both) .none kV15 dc15 pm15 an15 cd15 ct15), sl15⟩) (c15 : PySem.W.codeIn K cd15 "sign_of_both" = true) (k15 : PySem.W.keepIn K (.ref f15) = true)
    (a16 : PySem.W.nsIn K mainGlobals "then_of_both" = some (some (.ref f16))) (l16 : K.lookup f16 = some ⟨oc16, od16, .func (PySem.W.fnOf "then_of_both" "then_of_both" (defArgs s_then_of_both) (defBody s_then_of_both) (defScope s_then_of_both) .none kV16 dc16 pm16 an16 cd16 ct16), sl16⟩) (c16 : PySem.W.codeIn K cd16 "then_of_both" = true) (k16 : PySem.W.keepIn K (.ref f16) = true)
    (a17 : PySem.W.nsIn K mainGlobals "_law_hand" = some (some (.ref f17))) (l17 : K.lookup f17 = some ⟨oc17, od17, .func (PySem.W.fnOf "_law_hand" "_law_hand" (defArgs s_law_hand) (defBody s_law_hand) (defScope s_law_hand) .none kV17 dc17 pm17 an17 cd17 ct17), sl17⟩) (c17 : PySem.W.codeIn K cd17 "_law_hand" = true) (k17 : PySem.W.keepIn K (.ref f17) = true)
    (a18 : PySem.W.nsIn K mainGlobals "_law_draw" = some (some (.ref f18))) (l18 : K.lookup f18 = some ⟨oc18, od18, .func (PySem.W.fnOf "_law_draw" "_law_draw" (defArgs s_law_draw) (defBody s_law_draw) (defScope s_law_draw) .none kV18 dc18 pm18 an18 cd18 ct18), sl18⟩) (c18 : PySem.W.codeIn K cd18 "_law_draw" = true) (k18 : PySem.W.keepIn K (.ref f18) = true)
    (a19 : PySem.W.nsIn K mainGlobals "_law_letters" = some (some (.ref f19))) (l19 : K.lookup f19 = some ⟨oc19, od19, .func (PySem.W.fnOf "_law_letters" "_law_letters" (defArgs s_law_letters) (defBody s_law_letters) (defScope s_law_letters) .none kV19 dc19 pm19 an19 cd19 ct19), sl19⟩) (c19 : PySem.W.codeIn K cd19 "_law_letters" = true) (k19 : PySem.W.keepIn K (.ref f19) = true)
    (a20 : PySem.W.nsIn K mainGlobals "_law_pattern" = some (some (.ref f20))) (l20 : K.lookup f20 = some ⟨oc20, od20, .func (PySem.W.fnOf "_law_pattern" "_law_pattern" (defArgs s_law_pattern) (defBody s_law_pattern) (defScope s_law_pattern) .none kV20 dc20 pm20 an20 cd20 ct20), sl20⟩) (c20 : PySem.W.codeIn K cd20 "_law_pattern" = true) (k20 : PySem.W.keepIn K (.ref f20) = true)
    (a21 : PySem.W.nsIn K mainGlobals "_law_sizes" = some (some (.ref f21))) (l21 : K.lookup f21 = some ⟨oc21, od21, .func (PySem.W.fnOf "_law_sizes" "_law_sizes" (defArgs s_law_sizes) (defBody s_law_sizes) (defScope s_law_sizes) .none kV21 dc21 pm21 an21 cd21 ct21), sl21⟩) (c21 : PySem.W.codeIn K cd21 "_law_sizes" = true) (k21 : PySem.W.keepIn K (.ref f21) = true)
    (a22 : PySem.W.nsIn K mainGlobals "_law_are_letters" = some (some (.ref f22))) (l22 : K.lookup f22 = some ⟨oc22, od22, .func (PySem.W.fnOf "_law_are_letters" "_law_are_letters" (defArgs s_law_are_letters) (defBody s_law_are_letters) (defScope s_law_are_letters) .none kV22 dc22 pm22 an22 cd22 ct22), sl22⟩) (c22 : PySem.W.codeIn K cd22 "_law_are_letters" = true) (k22 : PySem.W.keepIn K (.ref f22) = true)
    (a23 : PySem.W.nsIn K mainGlobals "_law_is" = some (some (.ref f23))) (l23 : K.lookup f23 = some ⟨oc23, od23, .func (PySem.W.fnOf "_law_is" "_law_is" (defArgs s_law_is) (defBody s_law_is) (defScope s_law_is) .none kV23 dc23 pm23 an23 cd23 ct23), sl23⟩) (c23 : PySem.W.codeIn K cd23 "_law_is" = true) (k23 : PySem.W.keepIn K (.ref f23) = true)
    (a24 : PySem.W.nsIn K mainGlobals "_law_none_fits" = some (some (.ref f24))) (l24 : K.lookup f24 = some ⟨oc24, od24, .func (PySem.W.fnOf "_law_none_fits" "_law_none_fits" (defArgs s_law_none_fits) (defBody s_law_none_fits) (defScope s_law_none_fits) .none kV24 dc24 pm24 an24 cd24 ct24), sl24⟩) (c24 : PySem.W.codeIn K cd24 "_law_none_fits" = true) (k24 : PySem.W.keepIn K (.ref f24) = true)
    (a25 : PySem.W.nsIn K mainGlobals "_law_done" = some (some (.ref f25))) (l25 : K.lookup f25 = some ⟨oc25, od25, .func (PySem.W.fnOf "_law_done" "_law_done" (defArgs s_law_done) (defBody s_law_done) (defScope s_law_done) .none kV25 dc25 pm25 an25 cd25 ct25), sl25⟩) (c25 : PySem.W.codeIn K cd25 "_law_done" = true) (k25 : PySem.W.keepIn K (.ref f25) = true)
    (a26 : PySem.W.nsIn K mainGlobals "_law_right" = some (some (.ref f26))) (l26 : K.lookup f26 = some ⟨oc26, od26, .func (PySem.W.fnOf "_law_right" "_law_right" (defArgs s_law_right) (defBody s_law_right) (defScope s_law_right) .none kV26 dc26 pm26 an26 cd26 ct26), sl26⟩) (c26 : PySem.W.codeIn K cd26 "_law_right" = true) (k26 : PySem.W.keepIn K (.ref f26) = true)
    (a27 : PySem.W.nsIn K mainGlobals "_law_few_letters" = some (some (.ref f27))) (l27 : K.lookup f27 = some ⟨oc27, od27, .func (PySem.W.fnOf "_law_few_letters" "_law_few_letters" (defArgs s_law_few_letters) (defBody s_law_few_letters) (defScope s_law_few_letters) .none kV27 dc27 pm27 an27 cd27 ct27), sl27⟩) (c27 : PySem.W.codeIn K cd27 "_law_few_letters" = true) (k27 : PySem.W.keepIn K (.ref f27) = true)
    (a28 : PySem.W.nsIn K mainGlobals "_law_plain" = some (some (.ref f28))) (l28 : K.lookup f28 = some ⟨oc28, od28, .func (PySem.W.fnOf "_law_plain" "_law_plain" (defArgs s_law_plain) (defBody s_law_plain) (defScope s_law_plain) .none kV28 dc28 pm28 an28 cd28 ct28), sl28⟩) (c28 : PySem.W.codeIn K cd28 "_law_plain" = true) (k28 : PySem.W.keepIn K (.ref f28) = true)
    (a29 : PySem.W.nsIn K mainGlobals "_law_by_rules" = some (some (.ref f29))) (l29 : K.lookup f29 = some ⟨oc29, od29, .func (PySem.W.fnOf "_law_by_rules" "_law_by_rules" (defArgs s_law_by_rules) (defBody s_law_by_rules) (defScope s_law_by_rules) .none kV29 dc29 pm29 an29 cd29 ct29), sl29⟩) (c29 : PySem.W.codeIn K cd29 "_law_by_rules" = true) (k29 : PySem.W.keepIn K (.ref f29) = true)
    (a30 : PySem.W.nsIn K mainGlobals "law" = some (some (.ref f30))) (l30 : K.lookup f30 = some ⟨oc30, od30, .func (PySem.W.fnOf "law" "law" (defArgs s_law) (defBody s_law) (defScope s_law) .none kV30 dc30 pm30 an30 cd30 ct30), sl30⟩) (c30 : PySem.W.codeIn K cd30 "law" = true) (k30 : PySem.W.keepIn K (.ref f30) = true)
    (gi_LETTERS_MOST : ∃ tk, PySem.W.nsIn K mainGlobals "LETTERS_MOST" = some (some (.int 8 tk)))
    (gi_LEAVES_MOST : ∃ tk, PySem.W.nsIn K mainGlobals "LEAVES_MOST" = some (some (.int 11 tk)))
    (gi_PARTS_MOST : ∃ tk, PySem.W.nsIn K mainGlobals "PARTS_MOST" = some (some (.int 40 tk)))
    (gi_DEEP_MOST : ∃ tk, PySem.W.nsIn K mainGlobals "DEEP_MOST" = some (some (.int 12 tk)))
    (gd_INNER : PySem.W.nsIn K mainGlobals "INNER" = some (some (.ref dINNER))) (gl_INNER : K.lookup dINNER = some ⟨.type "dict", none, .dict esINNER nINNER, #[]⟩) (gk_INNER : PySem.W.KeysLit w.params esINNER.toList) (gs_INNER : (dINNER == sysModules) = false)
    (gt_INNER : ∃ t0 u0 t1 u1 t2 u2 t3 u3, esINNER.toList.map (fun e => (e.key, e.val)) = [(Value.str "none" t0, Value.int 0 u0), (Value.str "then" t1, Value.int 2 u1), (Value.str "or" t2, Value.int 2 u2), (Value.str "again" t3, Value.int 1 u3)])
    {dNONE : Addr} (gp_NONE : PySem.W.nsIn K mainGlobals "NONE" = some (some (.ref dNONE))) (gq_NONE : ∃ (t : Tok) (n : Nat), K.lookup dNONE = some ⟨.type "tuple", none, .seq #[.str "none" t] n, #[]⟩)
    (z_len : PySem.W.nsIn K mainGlobals "len" = some none) (z_isinstance : PySem.W.nsIn K mainGlobals "isinstance" = some none) (z_str : PySem.W.nsIn K mainGlobals "str" = some none) (z_bool : PySem.W.nsIn K mainGlobals "bool" = some none) (z_range : PySem.W.nsIn K mainGlobals "range" = some none) (z_int : PySem.W.nsIn K mainGlobals "int" = some none) (z_max : PySem.W.nsIn K mainGlobals "max" = some none) (z_min : PySem.W.nsIn K mainGlobals "min" = some none) (z_sum : PySem.W.nsIn K mainGlobals "sum" = some none) (z_sorted : PySem.W.nsIn K mainGlobals "sorted" = some none) (z_set : PySem.W.nsIn K mainGlobals "set" = some none) (z_tuple : PySem.W.nsIn K mainGlobals "tuple" = some none) (z_all : PySem.W.nsIn K mainGlobals "all" = some none) (z_zip : PySem.W.nsIn K mainGlobals "zip" = some none) (z_repr : PySem.W.nsIn K mainGlobals "repr" = some none) :
    ∃ fd : FuncData, (∀ (s : Shared) (v : Value), BindsTo s fd ⟨[v], []⟩ [("_law_script", v)]) ∧ ∀ base : Heap, K.In base → base.Ns mainGlobals mg → FnOkG l.prog w K mg base CX0 51 fa fd ["_law_script"] (spLaw K) := by
  have e := hfa.symm.trans (PySem.W.mg_of X G a30)
  cases e
  have m_len := PySem.W.mg_none_of X G z_len
  have m_isinstance := PySem.W.mg_none_of X G z_isinstance
  have m_str := PySem.W.mg_none_of X G z_str
  have m_bool := PySem.W.mg_none_of X G z_bool
  have m_range := PySem.W.mg_none_of X G z_range
  have m_int := PySem.W.mg_none_of X G z_int
  have m_max := PySem.W.mg_none_of X G z_max
  have m_min := PySem.W.mg_none_of X G z_min
  have m_sum := PySem.W.mg_none_of X G z_sum
  have m_sorted := PySem.W.mg_none_of X G z_sorted
  have m_set := PySem.W.mg_none_of X G z_set
  have m_tuple := PySem.W.mg_none_of X G z_tuple
  have m_all := PySem.W.mg_none_of X G z_all
  have m_zip := PySem.W.mg_none_of X G z_zip
  have m_repr := PySem.W.mg_none_of X G z_repr
  have g_LETTERS_MOST : ∃ tk, mg "LETTERS_MOST" = some (.int 8 tk) := ⟨_, PySem.W.mg_of X G gi_LETTERS_MOST.choose_spec⟩
  have g_LEAVES_MOST : ∃ tk, mg "LEAVES_MOST" = some (.int 11 tk) := ⟨_, PySem.W.mg_of X G gi_LEAVES_MOST.choose_spec⟩
  have g_PARTS_MOST : ∃ tk, mg "PARTS_MOST" = some (.int 40 tk) := ⟨_, PySem.W.mg_of X G gi_PARTS_MOST.choose_spec⟩
  have g_DEEP_MOST : ∃ tk, mg "DEEP_MOST" = some (.int 12 tk) := ⟨_, PySem.W.mg_of X G gi_DEEP_MOST.choose_spec⟩
  have mx_INNER := PySem.W.mg_of X G gd_INNER
  have kd_INNER : KDict K w dINNER esINNER nINNER := ⟨gl_INNER, gk_INNER, gs_INNER⟩
  have mx_NONE := PySem.W.mg_of X G gp_NONE
  have F1 := fun_mk (st := s_is_sign) l1 c1 k1
  have b1 := F1.binds (ps := ["thing"]) fun _ _ _ _ _ _ us hl => match us, hl with | [_], _ => rfl
  have F2 := fun_mk (st := s_is_pattern) l2 c2 k2
  have b2 := F2.binds (ps := ["thing"]) fun _ _ _ _ _ _ us hl => match us, hl with | [_], _ => rfl
  have F3 := fun_mk (st := s_is_within) l3 c3 k3
  have b3 := F3.binds (ps := ["leaves", "parts", "deep"]) fun _ _ _ _ _ _ us hl => match us, hl with | [_, _, _], _ => rfl
  have F4 := fun_mk (st := s_is_formed) l4 c4 k4
  have b4 := F4.binds (ps := ["thing", "deep"]) fun _ _ _ _ _ _ us hl => match us, hl with | [_, _], _ => rfl
  have F5 := fun_mk (st := s_are_letters) l5 c5 k5
  have b5 := F5.binds (ps := ["thing"]) fun _ _ _ _ _ _ us hl => match us, hl with | [_], _ => rfl
  have F6 := fun_mk (st := s_inner_of) l6 c6 k6
  have b6 := F6.binds (ps := ["pattern"]) fun _ _ _ _ _ _ us hl => match us, hl with | [_], _ => rfl
  have F7 := fun_mk (st := s_leaves_of) l7 c7 k7
  have b7 := F7.binds (ps := ["pattern"]) fun _ _ _ _ _ _ us hl => match us, hl with | [_], _ => rfl
  have F8 := fun_mk (st := s_parts_of) l8 c8 k8
  have b8 := F8.binds (ps := ["pattern"]) fun _ _ _ _ _ _ us hl => match us, hl with | [_], _ => rfl
  have F9 := fun_mk (st := s_deep_of) l9 c9 k9
  have b9 := F9.binds (ps := ["pattern"]) fun _ _ _ _ _ _ us hl => match us, hl with | [_], _ => rfl
  have F10 := fun_mk (st := s_put_otherwise) l10 c10 k10
  have b10 := F10.binds (ps := ["pattern"]) fun _ _ _ _ _ _ us hl => match us, hl with | [_], _ => rfl
  have F11 := fun_mk (st := s_by_rule) l11 c11 k11
  have b11 := F11.binds (ps := ["pattern"]) fun _ _ _ _ _ _ us hl => match us, hl with | [_], _ => rfl
  have F12 := fun_mk (st := s_again_by_rule) l12 c12 k12
  have b12 := F12.binds (ps := ["one"]) fun _ _ _ _ _ _ us hl => match us, hl with | [_], _ => rfl
  have F13 := fun_mk (st := s_then_by_rule) l13 c13 k13
  have b13 := F13.binds (ps := ["one", "other"]) fun _ _ _ _ _ _ us hl => match us, hl with | [_, _], _ => rfl
  have F14 := fun_mk (st := s_or_by_rule) l14 c14 k14
  have b14 := F14.binds (ps := ["one", "other"]) fun _ _ _ _ _ _ us hl => match us, hl with | [_, _], _ => rfl
  have F15 := fun_mk (st := s_sign_of_both) l15 c15 k15
  have b15 := F15.binds (ps := ["letters", "others"]) fun _ _ _ _ _ _ us hl => match us, hl with | [_, _], _ => rfl
  have F16 := fun_mk (st := s_then_of_both) l16 c16 k16
  have b16 := F16.binds (ps := ["one", "other"]) fun _ _ _ _ _ _ us hl => match us, hl with | [_, _], _ => rfl
  have F17 := fun_mk (st := s_law_hand) l17 c17 k17
  have b17 := F17.binds (ps := ["_law_script", "_law_k"]) fun _ _ _ _ _ _ us hl => match us, hl with | [_, _], _ => rfl
  have F18 := fun_mk (st := s_law_draw) l18 c18 k18
  have b18 := F18.binds (ps := ["_law_hand_here", "_law_many"]) fun _ _ _ _ _ _ us hl => match us, hl with | [_, _], _ => rfl
  have F19 := fun_mk (st := s_law_letters) l19 c19 k19
  have b19 := F19.binds (ps := ["_law_hand_here"]) fun _ _ _ _ _ _ us hl => match us, hl with | [_], _ => rfl
  have F20 := fun_mk (st := s_law_pattern) l20 c20 k20
  have b20 := F20.binds (ps := ["_law_hand_here", "_law_leaves", "_law_room"]) fun _ _ _ _ _ _ us hl => match us, hl with | [_, _, _], _ => rfl
  have F21 := fun_mk (st := s_law_sizes) l21 c21 k21
  have b21 := F21.binds (ps := ["_law_thing"]) fun _ _ _ _ _ _ us hl => match us, hl with | [_], _ => rfl
  have F22 := fun_mk (st := s_law_are_letters) l22 c22 k22
  have b22 := F22.binds (ps := ["_law_thing"]) fun _ _ _ _ _ _ us hl => match us, hl with | [_], _ => rfl
  have F23 := fun_mk (st := s_law_is) l23 c23 k23
  have b23 := F23.binds (ps := ["_law_thing"]) fun _ _ _ _ _ _ us hl => match us, hl with | [_], _ => rfl
  have F24 := fun_mk (st := s_law_none_fits) l24 c24 k24
  have b24 := F24.binds (ps := ["_law_one"]) fun _ _ _ _ _ _ us hl => match us, hl with | [_], _ => rfl
  have F25 := fun_mk (st := s_law_done) l25 c25 k25
  have b25 := F25.binds (ps := ["_law_one"]) fun _ _ _ _ _ _ us hl => match us, hl with | [_], _ => rfl
  have F26 := fun_mk (st := s_law_right) l26 c26 k26
  have b26 := F26.binds (ps := ["_law_tree"]) fun _ _ _ _ _ _ us hl => match us, hl with | [_], _ => rfl
  have F27 := fun_mk (st := s_law_few_letters) l27 c27 k27
  have b27 := F27.binds (ps := ["_law_hand_here", "_law_tree"]) fun _ _ _ _ _ _ us hl => match us, hl with | [_, _], _ => rfl
  have F28 := fun_mk (st := s_law_plain) l28 c28 k28
  have b28 := F28.binds (ps := ["_law_hand_here"]) fun _ _ _ _ _ _ us hl => match us, hl with | [_], _ => rfl
  have F29 := fun_mk (st := s_law_by_rules) l29 c29 k29
  have b29 := F29.binds (ps := ["_law_hand_here"]) fun _ _ _ _ _ _ us hl => match us, hl with | [_], _ => rfl
  have F30 := fun_mk (st := s_law) l30 c30 k30
  refine ⟨PySem.W.fnOf "law" "law" (defArgs s_law) (defBody s_law) (defScope s_law) .none kV30 dc30 pm30 an30 cd30 ct30, fun s v => .of_eq rfl, fun base _ _ => law_by ?_⟩
  obtain ⟨tN, nN, hN⟩ := gq_NONE
  have gt_NONE : GDat K mg "NONE" dNONE Pt.non.d := gdat_one mx_NONE hN sh_non
  have km_INNER : KMap0 K dINNER innerD := by
    obtain ⟨t0, u0, t1, u1, t2, u2, t3, u3, h⟩ := gt_INNER
    exact kmap0 gl_INNER innerL ⟨fun i => match i with
      | 0 => (t0, u0)
      | 1 => (t1, u1)
      | 2 => (t2, u2)
      | _ => (t3, u3), h⟩
  have K1 : Kn l.prog w K mg base 1 "is_sign" S_is_sign := ⟨_, _, _, ok_is_sign m_len m_isinstance m_str m_bool m_range m_int m_max m_min m_sum m_sorted m_set m_tuple F1 , PySem.W.mg_of X G a1, k1, b1⟩
  have K3 : Kn l.prog w K mg base 1 "is_within" S_within := ⟨_, _, _, ok_is_within m_len m_isinstance m_str m_bool m_range m_int m_max m_min m_sum m_sorted m_set m_tuple F3 g_LEAVES_MOST g_PARTS_MOST g_DEEP_MOST, PySem.W.mg_of X G a3, k3, b3⟩
  have K5 : Kn l.prog w K mg base 2 "are_letters" S_let := ⟨_, _, _, ok_are_letters m_len m_isinstance m_str m_bool m_range m_int m_max m_min m_sum m_sorted m_set m_tuple m_all m_zip F5 g_LETTERS_MOST K1, PySem.W.mg_of X G a5, k5, b5⟩
  have G4 : ∀ n : Nat, FnOkG l.prog w K mg base CX0 (n + 2) f4 (PySem.W.fnOf "is_formed" "is_formed" (defArgs s_is_formed) (defBody s_is_formed) (defScope s_is_formed) .none kV4 dc4 pm4 an4 cd4 ct4) ["thing", "deep"] (spD K (S_formed n)) := fun n => by
    induction n with
    | zero => exact fn_none (fd := (PySem.W.fnOf "is_formed" "is_formed" (defArgs s_is_formed) (defBody s_is_formed) (defScope s_is_formed) .none kV4 dc4 pm4 an4 cd4 ct4)) fun as R ⟨_, _, _, h, _⟩ => absurd h (by omega)
    | succ n ih => exact ok_is_formed m_len m_isinstance m_str m_bool m_range m_int m_max m_min m_sum m_sorted m_set m_tuple m_all m_zip F4 n kd_INNER km_INNER mx_INNER K5 ⟨_, _, _, ih, PySem.W.mg_of X G a4, k4, b4⟩
  have K4 : Kn l.prog w K mg base 15 "is_formed" (S_formed 13) := ⟨_, _, _, G4 13, PySem.W.mg_of X G a4, k4, b4⟩
  have K6 : Kn l.prog w K mg base 1 "inner_of" S_inner := ⟨_, _, _, ok_inner_of m_len m_isinstance m_str m_bool m_range m_int m_max m_min m_sum m_sorted m_set m_tuple F6 , PySem.W.mg_of X G a6, k6, b6⟩
  have G7 : ∀ n : Nat, FnOkG l.prog w K mg base CX0 (n + 1) f7 (PySem.W.fnOf "leaves_of" "leaves_of" (defArgs s_leaves_of) (defBody s_leaves_of) (defScope s_leaves_of) .none kV7 dc7 pm7 an7 cd7 ct7) ["pattern"] (spD K (S_leaves n)) := fun n => by
    induction n with
    | zero => exact fn_none (fd := (PySem.W.fnOf "leaves_of" "leaves_of" (defArgs s_leaves_of) (defBody s_leaves_of) (defScope s_leaves_of) .none kV7 dc7 pm7 an7 cd7 ct7)) fun as R ⟨p, _, h, _⟩ => absurd p.deep_pos (by omega)
    | succ n ih => exact ok_leaves_of m_len m_isinstance m_str m_bool m_range m_int m_max m_min m_sum m_sorted m_set m_tuple F7 n K6 ⟨_, _, _, ih, PySem.W.mg_of X G a7, k7, b7⟩
  have K7 : Kn l.prog w K mg base 13 "leaves_of" (S_leaves 12) := ⟨_, _, _, G7 12, PySem.W.mg_of X G a7, k7, b7⟩
  have G8 : ∀ n : Nat, FnOkG l.prog w K mg base CX0 (n + 1) f8 (PySem.W.fnOf "parts_of" "parts_of" (defArgs s_parts_of) (defBody s_parts_of) (defScope s_parts_of) .none kV8 dc8 pm8 an8 cd8 ct8) ["pattern"] (spD K (S_parts n)) := fun n => by
    induction n with
    | zero => exact fn_none (fd := (PySem.W.fnOf "parts_of" "parts_of" (defArgs s_parts_of) (defBody s_parts_of) (defScope s_parts_of) .none kV8 dc8 pm8 an8 cd8 ct8)) fun as R ⟨p, _, h, _⟩ => absurd p.deep_pos (by omega)
    | succ n ih => exact ok_parts_of m_len m_isinstance m_str m_bool m_range m_int m_max m_min m_sum m_sorted m_set m_tuple F8 n K6 ⟨_, _, _, ih, PySem.W.mg_of X G a8, k8, b8⟩
  have K8 : Kn l.prog w K mg base 13 "parts_of" (S_parts 12) := ⟨_, _, _, G8 12, PySem.W.mg_of X G a8, k8, b8⟩
  have G9 : ∀ n : Nat, FnOkG l.prog w K mg base CX0 (n + 1) f9 (PySem.W.fnOf "deep_of" "deep_of" (defArgs s_deep_of) (defBody s_deep_of) (defScope s_deep_of) .none kV9 dc9 pm9 an9 cd9 ct9) ["pattern"] (spD K (S_deep n)) := fun n => by
    induction n with
    | zero => exact fn_none (fd := (PySem.W.fnOf "deep_of" "deep_of" (defArgs s_deep_of) (defBody s_deep_of) (defScope s_deep_of) .none kV9 dc9 pm9 an9 cd9 ct9)) fun as R ⟨p, _, h, _⟩ => absurd p.deep_pos (by omega)
    | succ n ih => exact ok_deep_of m_len m_isinstance m_str m_bool m_range m_int m_max m_min m_sum m_sorted m_set m_tuple F9 n K6 ⟨_, _, _, ih, PySem.W.mg_of X G a9, k9, b9⟩
  have K9 : Kn l.prog w K mg base 13 "deep_of" (S_deep 12) := ⟨_, _, _, G9 12, PySem.W.mg_of X G a9, k9, b9⟩
  have K2 : Kn l.prog w K mg base 16 "is_pattern" S_pat := ⟨_, _, _, ok_is_pattern m_len m_isinstance m_str m_bool m_range m_int m_max m_min m_sum m_sorted m_set m_tuple m_all m_zip F2 g_DEEP_MOST K4 K3 K7 K8 K9, PySem.W.mg_of X G a2, k2, b2⟩
  have K12 : Kn l.prog w K mg base 1 "again_by_rule" S_againR := ⟨_, _, _, ok_again_by_rule m_len m_isinstance m_str m_bool m_range m_int m_max m_min m_sum m_sorted m_set m_tuple m_all m_zip m_repr F12 gt_NONE, PySem.W.mg_of X G a12, k12, b12⟩
  have K13 : Kn l.prog w K mg base 1 "then_by_rule" S_thenR := ⟨_, _, _, ok_then_by_rule m_len m_isinstance m_str m_bool m_range m_int m_max m_min m_sum m_sorted m_set m_tuple m_all m_zip m_repr F13 gt_NONE, PySem.W.mg_of X G a13, k13, b13⟩
  have K15 : Kn l.prog w K mg base 1 "sign_of_both" S_signB := ⟨_, _, _, ok_sign_of_both m_len m_isinstance m_str m_bool m_range m_int m_max m_min m_sum m_sorted m_set m_tuple m_all m_zip m_repr F15 g_LETTERS_MOST, PySem.W.mg_of X G a15, k15, b15⟩
  have K16 : Kn l.prog w K mg base 1 "then_of_both" S_thenB := ⟨_, _, _, ok_then_of_both m_len m_isinstance m_str m_bool m_range m_int m_max m_min m_sum m_sorted m_set m_tuple m_all m_zip m_repr F16 , PySem.W.mg_of X G a16, k16, b16⟩
  have K14 : Kn l.prog w K mg base 2 "or_by_rule" S_orR := ⟨_, _, _, ok_or_by_rule m_len m_isinstance m_str m_bool m_range m_int m_max m_min m_sum m_sorted m_set m_tuple m_all m_zip m_repr F14 K15 K16, PySem.W.mg_of X G a14, k14, b14⟩
  have K11 : Kn l.prog w K mg base 3 "by_rule" S_by := ⟨_, _, _, ok_by_rule m_len m_isinstance m_str m_bool m_range m_int m_max m_min m_sum m_sorted m_set m_tuple m_all m_zip m_repr F11 K12 K13 K14, PySem.W.mg_of X G a11, k11, b11⟩
  have G10 : ∀ n : Nat, FnOkG l.prog w K mg base CX0 (n + 4) f10 (PySem.W.fnOf "put_otherwise" "put_otherwise" (defArgs s_put_otherwise) (defBody s_put_otherwise) (defScope s_put_otherwise) .none kV10 dc10 pm10 an10 cd10 ct10) ["pattern"] (spD K (S_put n)) := fun n => by
    induction n with
    | zero => exact fn_none (fd := (PySem.W.fnOf "put_otherwise" "put_otherwise" (defArgs s_put_otherwise) (defBody s_put_otherwise) (defScope s_put_otherwise) .none kV10 dc10 pm10 an10 cd10 ct10)) fun as R ⟨p, _, _, h, _⟩ => absurd p.parts_pos (by omega)
    | succ n ih => exact ok_put_otherwise m_len m_isinstance m_str m_bool m_range m_int m_max m_min m_sum m_sorted m_set m_tuple m_all m_zip m_repr F10 n K6 K11 ⟨_, _, _, ih, PySem.W.mg_of X G a10, k10, b10⟩
  have K10 : Kn l.prog w K mg base 49 "put_otherwise" (S_put 45) := ⟨_, _, _, G10 45, PySem.W.mg_of X G a10, k10, b10⟩
  have kb10 := kbinds1 (y := "pattern") F10 (fun _ _ _ _ _ _ _ => rfl) (fun _ _ _ _ _ _ _ => rfl)
  have KK10 : KnK l.prog w K mg base 49 "put_otherwise" ["pattern"] (S_put 45) := ⟨_, _, _, G10 45, PySem.W.mg_of X G a10, k10, kb10⟩
  have K17 : KnN l.prog w K mg base 1 "_law_hand" S_hand := ⟨_, _, _, ok_law_hand m_len m_isinstance m_str m_bool m_range m_int m_max m_min m_sum m_sorted m_set m_tuple F17 , PySem.W.mg_of X G a17, k17, b17⟩
  have K18 : Kn l.prog w K mg base 1 "_law_draw" S_draw := ⟨_, _, _, ok_law_draw m_len m_isinstance m_str m_bool m_range m_int m_max m_min m_sum m_sorted m_set m_tuple F18 , PySem.W.mg_of X G a18, k18, b18⟩
  have K19 : Kn l.prog w K mg base 2 "_law_letters" S_letters := ⟨_, _, _, ok_law_letters m_len m_isinstance m_str m_bool m_range m_int m_max m_min m_sum m_sorted m_set m_tuple F19 K18, PySem.W.mg_of X G a19, k19, b19⟩
  have G20 : ∀ n : Nat, FnOkG l.prog w K mg base CX0 (n + 3) f20 (PySem.W.fnOf "_law_pattern" "_law_pattern" (defArgs s_law_pattern) (defBody s_law_pattern) (defScope s_law_pattern) .none kV20 dc20 pm20 an20 cd20 ct20) ["_law_hand_here", "_law_leaves", "_law_room"] (spD K (S_pattern n)) := fun n => by
    induction n with
    | zero => exact fn_none (fd := (PySem.W.fnOf "_law_pattern" "_law_pattern" (defArgs s_law_pattern) (defBody s_law_pattern) (defScope s_law_pattern) .none kV20 dc20 pm20 an20 cd20 ct20)) fun as R ⟨_, _, _, _, h, _⟩ => absurd h (by omega)
    | succ n ih => exact ok_law_pattern m_len m_isinstance m_str m_bool m_range m_int m_max m_min m_sum m_sorted m_set m_tuple F20 n K18 K19 ⟨_, _, _, ih, PySem.W.mg_of X G a20, k20, b20⟩
  have U20 : FnOkG l.prog w K mg base CX0 17 f20 (PySem.W.fnOf "_law_pattern" "_law_pattern" (defArgs s_law_pattern) (defBody s_law_pattern) (defScope s_law_pattern) .none kV20 dc20 pm20 an20 cd20 ct20) ["_law_hand_here", "_law_leaves", "_law_room"] (spD K S_any) := ⟨fun vs H Q E ⟨c, as, R, h1, h2, h3, ⟨n, h4⟩, h5⟩ => (G20 n).len vs H Q E ⟨c, as, R, h1, h2, h3, h4, h5⟩, fun A outer s H args us vs Q E hr he hb hv ⟨c, as, R, h1, h2, h3, ⟨n, h4⟩, h5⟩ => by
    have hn : n ≤ 14 := by
      obtain ⟨_, _, _, _, _, h, _⟩ := h4
      exact h
    exact (G20 n).run A outer s H args us vs Q E (hr.mono (by omega)) he hb hv ⟨c, as, R, h1, h2, h3, h4, h5⟩⟩
  have K20 : Kn l.prog w K mg base 17 "_law_pattern" S_any := ⟨_, _, _, U20, PySem.W.mg_of X G a20, k20, b20⟩
  have K22 : Kn l.prog w K mg base 1 "_law_are_letters" S_let := ⟨_, _, _, ok_law_are_letters m_len m_isinstance m_str m_bool m_range m_int m_max m_min m_sum m_sorted m_set m_tuple m_all m_zip F22 , PySem.W.mg_of X G a22, k22, b22⟩
  have G21 : ∀ n : Nat, FnOkG l.prog w K mg base CX0 (n + 1) f21 (PySem.W.fnOf "_law_sizes" "_law_sizes" (defArgs s_law_sizes) (defBody s_law_sizes) (defScope s_law_sizes) .none kV21 dc21 pm21 an21 cd21 ct21) ["_law_thing"] (spD K (S_sizes n)) := fun n => by
    induction n with
    | zero => exact fn_none (fd := (PySem.W.fnOf "_law_sizes" "_law_sizes" (defArgs s_law_sizes) (defBody s_law_sizes) (defScope s_law_sizes) .none kV21 dc21 pm21 an21 cd21 ct21)) fun as R ⟨_, _, _, h, _⟩ => absurd h (by omega)
    | succ n ih => exact ok_law_sizes m_len m_isinstance m_str m_bool m_range m_int m_max m_min m_sum m_sorted m_set m_tuple m_all m_zip F21 n K22 ⟨_, _, _, ih, PySem.W.mg_of X G a21, k21, b21⟩
  have K21 : Kn l.prog w K mg base 34 "_law_sizes" (S_sizes 33) := ⟨_, _, _, G21 33, PySem.W.mg_of X G a21, k21, b21⟩
  have K23 : Kn l.prog w K mg base 35 "_law_is" S_is := ⟨_, _, _, ok_law_is m_len m_isinstance m_str m_bool m_range m_int m_max m_min m_sum m_sorted m_set m_tuple m_all m_zip F23 K21, PySem.W.mg_of X G a23, k23, b23⟩
  have K24 : Kn l.prog w K mg base 1 "_law_none_fits" S_fits := ⟨_, _, _, ok_law_none_fits m_len m_isinstance m_str m_bool m_range m_int m_max m_min m_sum m_sorted m_set m_tuple m_all m_zip m_repr F24 , PySem.W.mg_of X G a24, k24, b24⟩
  have G25 : ∀ n : Nat, FnOkG l.prog w K mg base CX0 (n + 1) f25 (PySem.W.fnOf "_law_done" "_law_done" (defArgs s_law_done) (defBody s_law_done) (defScope s_law_done) .none kV25 dc25 pm25 an25 cd25 ct25) ["_law_one"] (spD K (S_done n)) := fun n => by
    induction n with
    | zero => exact fn_none (fd := (PySem.W.fnOf "_law_done" "_law_done" (defArgs s_law_done) (defBody s_law_done) (defScope s_law_done) .none kV25 dc25 pm25 an25 cd25 ct25)) fun as R ⟨p, _, _, h, _⟩ => absurd p.deep_pos (by omega)
    | succ n ih => exact ok_law_done m_len m_isinstance m_str m_bool m_range m_int m_max m_min m_sum m_sorted m_set m_tuple m_all m_zip m_repr F25 n K24 ⟨_, _, _, ih, PySem.W.mg_of X G a25, k25, b25⟩
  have K25 : Kn l.prog w K mg base 21 "_law_done" (S_done 20) := ⟨_, _, _, G25 20, PySem.W.mg_of X G a25, k25, b25⟩
  have K26 : Kn l.prog w K mg base 50 "_law_right" S_right := ⟨_, _, _, ok_law_right m_len m_isinstance m_str m_bool m_range m_int m_max m_min m_sum m_sorted m_set m_tuple m_all m_zip m_repr F26 K10 K2 K25 K21, PySem.W.mg_of X G a26, k26, b26⟩
  have G27 : ∀ n : Nat, FnOkG l.prog w K mg base CX0 (n + 1) f27 (PySem.W.fnOf "_law_few_letters" "_law_few_letters" (defArgs s_law_few_letters) (defBody s_law_few_letters) (defScope s_law_few_letters) .none kV27 dc27 pm27 an27 cd27 ct27) ["_law_hand_here", "_law_tree"] (spD K (S_few n)) := fun n => by
    induction n with
    | zero => exact fn_none (fd := (PySem.W.fnOf "_law_few_letters" "_law_few_letters" (defArgs s_law_few_letters) (defBody s_law_few_letters) (defScope s_law_few_letters) .none kV27 dc27 pm27 an27 cd27 ct27)) fun as R ⟨_, _, p, _, _, _, h, _⟩ => absurd p.deep_pos (by omega)
    | succ n ih => exact ok_law_few_letters m_len m_isinstance m_str m_bool m_range m_int m_max m_min m_sum m_sorted m_set m_tuple m_all m_zip m_repr F27 n K18 ⟨_, _, _, ih, PySem.W.mg_of X G a27, k27, b27⟩
  have K27 : Kn l.prog w K mg base 31 "_law_few_letters" (S_few 30) := ⟨_, _, _, G27 30, PySem.W.mg_of X G a27, k27, b27⟩
  have K28 : Kn l.prog w K mg base 2 "_law_plain" S_plain := ⟨_, _, _, ok_law_plain m_len m_isinstance m_str m_bool m_range m_int m_max m_min m_sum m_sorted m_set m_tuple m_all m_zip m_repr F28 K18, PySem.W.mg_of X G a28, k28, b28⟩
  have K29 : Kn l.prog w K mg base 3 "_law_by_rules" S_rules := ⟨_, _, _, ok_law_by_rules m_len m_isinstance m_str m_bool m_range m_int m_max m_min m_sum m_sorted m_set m_tuple m_all m_zip m_repr F29 K28, PySem.W.mg_of X G a29, k29, b29⟩
  exact ok_law (P := l.prog) (w := w) (base := base) m_len m_isinstance m_str m_bool m_range m_int m_max m_min m_sum m_sorted m_set m_tuple m_all m_zip m_repr F30 K10 KK10 K17 K18 K20 K27 K23 K26 K29
theorem walk {l : PySem.W.OpenLaw} {q : Program} {loose : List Str} {XP : (Str → Option Value) → Heap → Prop} {YP : World → Heap → Prop} {d : DefRec} {K : Params → PySem.W.Frag} (hn : l.most = some 63) (hdf : d.params.defaults = [])
    (hY : ∀ (w : World) (h : Heap), YP w h → (K w.params).In h)
    (F : ∀ (w : World) (mg : Str → Option Value) (fa : Addr) (h : Heap), (K w.params).In h → h.Ns mainGlobals mg → mg d.name = some (.ref fa) →
      ∃ fd : FuncData, (∀ (s : Shared) (u : Value), BindsTo s fd ⟨[u], []⟩ [("_law_script", u)]) ∧ ∀ base : Heap, (K w.params).In base → base.Ns mainGlobals mg → FnOkG l.prog w (K w.params) mg base CX0 51 fa fd ["_law_script"] (spLaw (K w.params))) :
    PySem.W.WalkO q loose XP YP l.row.toRowW d [] (fun f vs => PySem.call f vs) :=
  TL.walk_ofG (n := 63) (k := 51) (x := "_law_script") (sp := fun w => spLaw (K w.params)) hn (by decide) hdf ⟨rfl, by decide, by decide⟩ hY F (fun _ _ a ns hl _ hS => ⟨a, ns, rfl, hS, hl, fun _ => rfl⟩)
end K63
open PySem PySem.W PyProof.Rows
set_option maxRecDepth 100000 in
set_option maxHeartbeats 0 in
theorem PySem.Challenge.cw_triesgrow_k63_put_otherwise_holds : PySem.Challenge.rw_triesgrow_k63_put_otherwise.Holds := by
  w_on; o_law; k_head; (case hw => w_witness2)
  k_fill
  refine K63.walk (l := PySem.Challenge.rw_triesgrow_k63_put_otherwise) rfl rfl (fun w h Y => PySem.W.kIn_of Y) ?F
  case F =>
    intro w mg fa h KX G hmg
    refine' K63.all_mk KX G hmg ?a1 ?l1 ?c1 ?k1 ?a2 ?l2 ?c2 ?k2 ?a3 ?l3 ?c3 ?k3 ?a4 ?l4 ?c4 ?k4 ?a5 ?l5 ?c5 ?k5 ?a6 ?l6 ?c6 ?k6 ?a7 ?l7 ?c7 ?k7 ?a8 ?l8 ?c8 ?k8 ?a9 ?l9 ?c9 ?k9 ?a10 ?l10 ?c10 ?k10 ?a11 ?l11 ?c11 ?k11 ?a12 ?l12 ?c12 ?k12 ?a13 ?l13 ?c13 ?k13 ?a14 ?l14 ?c14 ?k14 ?a15 ?l15 ?c15 ?k15 ?a16 ?l16 ?c16 ?k16 ?a17 ?l17 ?c17 ?k17 ?a18 ?l18 ?c18 ?k18 ?a19 ?l19 ?c19 ?k19 ?a20 ?l20 ?c20 ?k20 ?a21 ?l21 ?c21 ?k21 ?a22 ?l22 ?c22 ?k22 ?a23 ?l23 ?c23 ?k23 ?a24 ?l24 ?c24 ?k24 ?a25 ?l25 ?c25 ?k25 ?a26 ?l26 ?c26 ?k26 ?a27 ?l27 ?c27 ?k27 ?a28 ?l28 ?c28 ?k28 ?a29 ?l29 ?c29 ?k29 ?a30 ?l30 ?c30 ?k30 ?gi_LETTERS_MOST ?gi_LEAVES_MOST ?gi_PARTS_MOST ?gi_DEEP_MOST ?gd_INNER ?gl_INNER ?gk_INNER ?gs_INNER ?gt_INNER ?gp_NONE ?gq_NONE ?z_len ?z_isinstance ?z_str ?z_bool ?z_range ?z_int ?z_max ?z_min ?z_sum ?z_sorted ?z_set ?z_tuple ?z_all ?z_zip ?z_repr
    (case a1 => k_is)
    (case l1 => k_is)
    (case c1 => k_is)
    (case k1 => k_is)
    (case a2 => k_is)
    (case l2 => k_is)
    (case c2 => k_is)
    (case k2 => k_is)
    (case a3 => k_is)
    (case l3 => k_is)
    (case c3 => k_is)
    (case k3 => k_is)
    (case a4 => k_is)
    (case l4 => k_is)
    (case c4 => k_is)
    (case k4 => k_is)
    (case a5 => k_is)
    (case l5 => k_is)
    (case c5 => k_is)
    (case k5 => k_is)
    (case a6 => k_is)
    (case l6 => k_is)
    (case c6 => k_is)
    (case k6 => k_is)
    (case a7 => k_is)
    (case l7 => k_is)
    (case c7 => k_is)
    (case k7 => k_is)
    (case a8 => k_is)
    (case l8 => k_is)
    (case c8 => k_is)
    (case k8 => k_is)
    (case a9 => k_is)
    (case l9 => k_is)
    (case c9 => k_is)
    (case k9 => k_is)
    (case a10 => k_is)
    (case l10 => k_is)
    (case c10 => k_is)
    (case k10 => k_is)
    (case a11 => k_is)
    (case l11 => k_is)
    (case c11 => k_is)
    (case k11 => k_is)
    (case a12 => k_is)
    (case l12 => k_is)
    (case c12 => k_is)
    (case k12 => k_is)
    (case a13 => k_is)
    (case l13 => k_is)
    (case c13 => k_is)
    (case k13 => k_is)
    (case a14 => k_is)
    (case l14 => k_is)
    (case c14 => k_is)
    (case k14 => k_is)
    (case a15 => k_is)
    (case l15 => k_is)
    (case c15 => k_is)
    (case k15 => k_is)
    (case a16 => k_is)
    (case l16 => k_is)
    (case c16 => k_is)
    (case k16 => k_is)
    (case a17 => k_is)
    (case l17 => k_is)
    (case c17 => k_is)
    (case k17 => k_is)
    (case a18 => k_is)
    (case l18 => k_is)
    (case c18 => k_is)
    (case k18 => k_is)
    (case a19 => k_is)
    (case l19 => k_is)
    (case c19 => k_is)
    (case k19 => k_is)
    (case a20 => k_is)
    (case l20 => k_is)
    (case c20 => k_is)
    (case k20 => k_is)
    (case a21 => k_is)
    (case l21 => k_is)
    (case c21 => k_is)
    (case k21 => k_is)
    (case a22 => k_is)
    (case l22 => k_is)
    (case c22 => k_is)
    (case k22 => k_is)
    (case a23 => k_is)
    (case l23 => k_is)
    (case c23 => k_is)
    (case k23 => k_is)
    (case a24 => k_is)
    (case l24 => k_is)
    (case c24 => k_is)
    (case k24 => k_is)
    (case a25 => k_is)
    (case l25 => k_is)
    (case c25 => k_is)
    (case k25 => k_is)
    (case a26 => k_is)
    (case l26 => k_is)
    (case c26 => k_is)
    (case k26 => k_is)
    (case a27 => k_is)
    (case l27 => k_is)
    (case c27 => k_is)
    (case k27 => k_is)
    (case a28 => k_is)
    (case l28 => k_is)
    (case c28 => k_is)
    (case k28 => k_is)
    (case a29 => k_is)
    (case l29 => k_is)
    (case c29 => k_is)
    (case k29 => k_is)
    (case a30 => k_is)
    (case l30 => k_is)
    (case c30 => k_is)
    (case k30 => k_is)
    (case gi_LETTERS_MOST => exact ⟨_, by k_is⟩)
    (case gi_LEAVES_MOST => exact ⟨_, by k_is⟩)
    (case gi_PARTS_MOST => exact ⟨_, by k_is⟩)
    (case gi_DEEP_MOST => exact ⟨_, by k_is⟩)
    (case gd_INNER => k_is)
    (case gl_INNER => k_is)
    (case gk_INNER => first | k_is | simp [PySem.W.KeysLit])
    (case gs_INNER => first | k_is | decide | rfl)
    (case gt_INNER => exact ⟨_, _, _, _, _, _, _, _, rfl⟩)
    (case gp_NONE => k_is)
    (case gq_NONE => exact ⟨_, _, by k_is⟩)
    (case z_len => k_is)
    (case z_isinstance => k_is)
    (case z_str => k_is)
    (case z_bool => k_is)
    (case z_range => k_is)
    (case z_int => k_is)
    (case z_max => k_is)
    (case z_min => k_is)
    (case z_sum => k_is)
    (case z_sorted => k_is)
    (case z_set => k_is)
    (case z_tuple => k_is)
    (case z_all => k_is)
    (case z_zip => k_is)
    (case z_repr => k_is)
