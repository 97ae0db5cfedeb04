import PyProof.Rows.All
import Wide.All
import OpenK.AllK
import Wide.FinOn
import HandS.ForMost
import HandS.IsInst
import HandS.Deep
import HandS.Codes
import HandS.Flow
import PyProof.Rows.StrMul
import PySem.Challenge.RW_triesgrow_k01_words
set_option Elab.async false
set_option linter.all false
set_option maxRecDepth 100000
set_option maxHeartbeats 2000000
/-! TL1: data under a heap that grows, the slots of a frame, and what is kept of both. -/
namespace TL
open PySem PySem.Spec L2

/-- all that stands in the one stands in the other -/
def Ex (H H' : Hp) : Prop := ∀ a o, H a = some o → H' a = some o
theorem Ex.refl (H : Hp) : Ex H H := fun _ _ h => h
theorem Ex.trans {H H1 H2 : Hp} (a : Ex H H1) (b : Ex H1 H2) : Ex H H2 := fun x o h => b x o (a x o h)
theorem Ex.new {H : Hp} {p : Addr} {o : HO} (h : H p = none) : Ex H (upd H p o) := fun a u e => by
  rw [upd_ne (ne_of_none e h)]
  exact e
theorem Ex.upd2 {G H : Hp} {p : Addr} {o : HO} (e : Ex G H) : Ex (upd G p o) (upd H p o) := fun a u h => by
  by_cases ha : a = p
  · subst ha
    rw [upd_same] at h ⊢
    exact h
  · rw [upd_ne ha] at h ⊢
    exact e a u h
theorem Ex.none {H H' : Hp} (e : Ex H H') {p : Addr} (h : H' p = Option.none) : H p = Option.none := by
  cases q : H p with
  | none => rfl
  | some o =>
    rw [e p o q] at h
    cases h

/-! ### data -/
mutual
/-- the value v is the datum d, read in the heap G (of a dict only that it is one) -/
inductive Rp (K : PySem.W.Frag) (G : Hp) : V → PyData → Prop
  | non : Rp K G .non .none
  | bl (b : Bool) : Rp K G (.bl b) (.bool b)
  | int (i : Int) : Rp K G (.int i) (.int i)
  | str (x : Str) : Rp K G (.str x) (.str x)
  | lst {a : Addr} {xs : List V} {ds : List PyData} : G a = some (.lst xs) → RpAll K G xs ds → Rp K G (.ref a) (.list ds)
  | tup {a : Addr} {xs : List V} {ds : List PyData} : G a = some (.tup xs) → RpAll K G xs ds → Rp K G (.ref a) (.tuple ds)
  | dic {a : Addr} {kvs : List (Key × V)} {ds : List (PyData × PyData)} : G a = some (.dK kvs) → kvs.length = ds.length → Rp K G (.ref a) (.dict ds)
inductive RpAll (K : PySem.W.Frag) (G : Hp) : List V → List PyData → Prop
  | nil : RpAll K G [] []
  | cons {v : V} {vs : List V} {d : PyData} {ds : List PyData} : Rp K G v d → RpAll K G vs ds → RpAll K G (v :: vs) (d :: ds)
end
section
variable {K : PySem.W.Frag} {G G' : Hp}
theorem ex_l {a : Addr} {xs : List V} (e : Ex G G') (h : SqL K G a xs) : SqL K G' a xs := by
  rcases h with (h | ⟨o, h⟩) | h
  · exact .inl (.inl (e _ _ h))
  · exact .inl (.inr ⟨o, e _ _ h⟩)
  · exact .inr h
mutual
theorem Rp.mono (e : Ex G G') : ∀ (d : PyData) (v : V), Rp K G v d → Rp K G' v d
  | .none, _, .non => .non
  | .bool _, _, .bl b => .bl b
  | .int _, _, .int i => .int i
  | .str _, _, .str x => .str x
  | .list ds, _, .lst h r => .lst (e _ _ h) (RpAll.mono e ds _ r)
  | .tuple ds, _, .tup h r => .tup (e _ _ h) (RpAll.mono e ds _ r)
  | .dict ds, _, .dic h r => .dic (e _ _ h) r
theorem RpAll.mono (e : Ex G G') : ∀ (ds : List PyData) (vs : List V), RpAll K G vs ds → RpAll K G' vs ds
  | [], _, .nil => .nil
  | d :: ds, _, .cons h r => .cons (Rp.mono e d _ h) (RpAll.mono e ds _ r)
end
theorem Rp.up {v : V} {d : PyData} (h : Rp K G v d) (e : Ex G G') : Rp K G' v d := Rp.mono e d v h
theorem RpAll.up {vs : List V} {ds : List PyData} (h : RpAll K G vs ds) (e : Ex G G') : RpAll K G' vs ds := RpAll.mono e ds vs h
mutual
theorem Rp.dp : ∀ (d : PyData) (v : V), Rp K G v d → d.canLay0 = true → Dp K G v d
  | .none, _, .non, _ => .non
  | .bool _, _, .bl b, _ => .bl b
  | .int _, _, .int i, _ => .int i
  | .str _, _, .str x, _ => .str x
  | .list ds, _, .lst h r, c => .lst (.inl (.inl h)) (RpAll.dp ds _ r (by simpa [PyData.canLay0] using c))
  | .tuple ds, _, .tup h r, c => .tup (.inl (.inl h)) (RpAll.dp ds _ r (by simpa [PyData.canLay0] using c))
  | .dict ds, _, .dic h r, c => by simp [PyData.canLay0] at c
theorem RpAll.dp : ∀ (ds : List PyData) (vs : List V), RpAll K G vs ds → PyData.canLayAll0 ds = true → DpAll K G vs ds
  | [], _, .nil, _ => .nil
  | d :: ds, _, .cons h r, c => by
    have c' : d.canLay0 = true ∧ PyData.canLayAll0 ds = true := by simpa [PyData.canLayAll0] using c
    exact .cons (Rp.dp d _ h c'.1) (RpAll.dp ds _ r c'.2)
end
theorem RpAll.len : ∀ {vs : List V} {ds : List PyData}, RpAll K G vs ds → vs.length = ds.length
  | _, _, .nil => rfl
  | _, _, .cons _ r => by rw [List.length_cons, List.length_cons, RpAll.len r]
theorem RpAll.get : ∀ {vs : List V} {ds : List PyData} {i : Nat} {d : PyData}, RpAll K G vs ds → ds[i]? = some d → ∃ v, vs[i]? = some v ∧ Rp K G v d
  | _, _, _, _, .nil, h => by simp at h
  | _, _, 0, _, .cons h _, e => by
    simp at e
    subst e
    exact ⟨_, rfl, h⟩
  | _, _, i + 1, d, .cons _ r, e => by
    obtain ⟨v, h1, h2⟩ := RpAll.get (i := i) (d := d) r (by simpa using e)
    exact ⟨v, by simpa using h1, h2⟩
theorem RpAll.get' : ∀ {vs : List V} {ds : List PyData} {i : Nat} {v : V}, RpAll K G vs ds → vs[i]? = some v → ∃ d, ds[i]? = some d ∧ Rp K G v d
  | _, _, _, _, .nil, h => by simp at h
  | _, _, 0, _, .cons h _, e => by
    simp at e
    subst e
    exact ⟨_, rfl, h⟩
  | _, _, i + 1, v, .cons _ r, e => by
    obtain ⟨d, h1, h2⟩ := RpAll.get' (i := i) (v := v) r (by simpa using e)
    exact ⟨d, by simpa using h1, h2⟩
theorem RpAll.app : ∀ {vs ws : List V} {ds es : List PyData}, RpAll K G vs ds → RpAll K G ws es → RpAll K G (vs ++ ws) (ds ++ es)
  | _, _, _, _, .nil, s => s
  | _, _, _, _, .cons h r, s => .cons h (RpAll.app r s)
theorem RpAll.one {v : V} {d : PyData} (h : Rp K G v d) : RpAll K G [v] [d] := .cons h .nil
theorem RpAll.set {v : V} {d : PyData} (h : Rp K G v d) : ∀ {vs : List V} {ds : List PyData} (i : Nat), RpAll K G vs ds → RpAll K G (vs.set i v) (ds.set i d)
  | _, _, _, .nil => .nil
  | _, _, 0, .cons _ t => .cons h t
  | _, _, i + 1, .cons q t => .cons q (RpAll.set h i t)
theorem RpAll.take : ∀ {vs : List V} {ds : List PyData} (n : Nat), RpAll K G vs ds → RpAll K G (vs.take n) (ds.take n)
  | _, _, 0, _ => .nil
  | _, _, _ + 1, .nil => .nil
  | _, _, n + 1, .cons r t => .cons r (RpAll.take n t)
theorem RpAll.drop : ∀ {vs : List V} {ds : List PyData} (n : Nat), RpAll K G vs ds → RpAll K G (vs.drop n) (ds.drop n)
  | _, _, 0, r => r
  | _, _, _ + 1, .nil => .nil
  | _, _, n + 1, .cons _ t => RpAll.drop n t
/-- what a datum's value is -/
theorem Rp.int_of {v : V} {i : Int} (h : Rp K G v (.int i)) : v = .int i := by cases h; rfl
theorem Rp.bl_of {v : V} {b : Bool} (h : Rp K G v (.bool b)) : v = .bl b := by cases h; rfl
theorem Rp.str_of {v : V} {x : Str} (h : Rp K G v (.str x)) : v = .str x := by cases h; rfl
theorem Rp.non_of {v : V} (h : Rp K G v .none) : v = .non := by cases h; rfl
theorem Rp.lst_of {v : V} {ds : List PyData} (h : Rp K G v (.list ds)) : ∃ a xs, v = .ref a ∧ G a = some (.lst xs) ∧ RpAll K G xs ds := by
  cases h with
  | lst q r => exact ⟨_, _, rfl, q, r⟩
theorem Rp.tup_of {v : V} {ds : List PyData} (h : Rp K G v (.tuple ds)) : ∃ a xs, v = .ref a ∧ G a = some (.tup xs) ∧ RpAll K G xs ds := by
  cases h with
  | tup q r => exact ⟨_, _, rfl, q, r⟩
end

/-! ### the slots of a frame -/
inductive Sl where
  | no
  | dat (d : PyData)
  | own (t : Option Nat) (ds : List PyData)
  | scr (ds : List PyData)
/-- what a def was called in: the tags' addresses, how many; what stays, the heap; and the lists that are being made -/
structure Cf where
  τ : Nat → Addr
  n : Nat
  G0 : Hp
  H0 : Hp
  hid : List (Addr × List V)
def SlOk (K : PySem.W.Frag) (c : Cf) (G H : Hp) (v : Option (Option V)) : Sl → Prop
  | .no => True
  | .dat d => ∃ x, v = some (some x) ∧ Rp K G x d
  | .scr ds => ∃ a xs, v = some (some (.ref a)) ∧ SqL K G a xs ∧ RpAll K G xs ds
  | .own t ds => ∃ p xs, v = some (some (.ref p)) ∧ G p = none ∧ H p = some (.lst xs) ∧ RpAll K G xs ds ∧
      (match t with
        | some j => j < c.n ∧ p = c.τ j
        | none => c.H0 p = none ∧ ∀ j, j < c.n → p ≠ c.τ j)
structure EnvOk (K : PySem.W.Frag) (c : Cf) (G H : Hp) (σ : L2.St) (δ : List Sl) : Prop where
  g0 : Ex c.G0 G
  ex : Ex G H
  fr : ∀ a o, c.H0 a = some o → (∀ j, j < c.n → a ≠ c.τ j) → H a = some o
  fs : ∀ a, c.G0 a = none → c.H0 a ≠ none → G a = none
  tg : ∀ j, j < c.n → H (c.τ j) ≠ none ∧ G (c.τ j) = none
  len : σ.length = δ.length
  sl : ∀ (i : Nat) (s : Sl), δ[i]? = some s → SlOk K c G H (σ[i]?) s
  ap : ∀ (i j : Nat) (t1 : Option Nat) (d1 : List PyData) (t2 : Option Nat) (d2 : List PyData), i ≠ j → δ[i]? = some (.own t1 d1) → δ[j]? = some (.own t2 d2) → σ[i]? ≠ σ[j]?
  hd : ∀ p xs, (p, xs) ∈ c.hid → H p = some (.lst xs) ∧ G p = none ∧ c.H0 p = none ∧ (∀ j, j < c.n → p ≠ c.τ j) ∧ ∀ (i : Nat) (t : Option Nat) (ds : List PyData), δ[i]? = some (.own t ds) → σ[i]? ≠ some (some (.ref p))
/-- new things were laid -/
structure Al (G H G' H' : Hp) : Prop where
  g : Ex G G'
  h : Ex H H'
  ex : Ex G' H'
  fs : ∀ a, G a = none → H a ≠ none → G' a = none
theorem Al.refl {G H : Hp} (e : Ex G H) : Al G H G H := ⟨Ex.refl _, Ex.refl _, e, fun _ h _ => h⟩
theorem Al.trans {G H G1 H1 G2 H2 : Hp} (a : Al G H G1 H1) (b : Al G1 H1 G2 H2) : Al G H G2 H2 := ⟨a.g.trans b.g, a.h.trans b.h, b.ex, fun x h1 h2 => by
  refine b.fs x (a.fs x h1 h2) ?_
  cases q : H x with
  | none => exact absurd q h2
  | some o =>
    rw [a.h x o q]
    exact fun z => nomatch z⟩
/-- a new thing that stays -/
theorem Al.new {G H : Hp} {p : Addr} {o : HO} (e : Ex G H) (hp : H p = none) : Al G H (upd G p o) (upd H p o) := ⟨Ex.new (e.none hp), Ex.new hp, e.upd2, fun a h1 h2 => by
  have ha : a ≠ p := fun z => h2 (by rw [z]; exact hp)
  rw [upd_ne ha]
  exact h1⟩
/-- a new thing that is to change -/
theorem Al.tmp {G H : Hp} {p : Addr} {o : HO} (e : Ex G H) (hp : H p = none) : Al G H G (upd H p o) := ⟨Ex.refl _, Ex.new hp, e.trans (Ex.new hp), fun a h1 _ => h1⟩
section
variable {K : PySem.W.Frag} {c : Cf} {G H G' H' : Hp} {σ : L2.St} {δ : List Sl}
theorem SlOk.al (A : Al G H G' H') {v : Option (Option V)} {s : Sl} (h : SlOk K c G H v s) : SlOk K c G' H' v s := by
  cases s with
  | no => trivial
  | dat d =>
    obtain ⟨x, e, r⟩ := h
    exact ⟨x, e, r.up A.g⟩
  | scr ds =>
    obtain ⟨a, xs, e, h, r⟩ := h
    exact ⟨a, xs, e, ex_l A.g h, r.up A.g⟩
  | own t ds =>
    obtain ⟨p, xs, e, g, hh, r, q⟩ := h
    exact ⟨p, xs, e, A.fs p g (by rw [hh]; exact fun z => nomatch z), A.h _ _ hh, r.up A.g, q⟩
theorem EnvOk.al (E : EnvOk K c G H σ δ) (A : Al G H G' H') : EnvOk K c G' H' σ δ where
  g0 := E.g0.trans A.g
  ex := A.ex
  fr := fun a o h q => A.h _ _ (E.fr a o h q)
  fs := fun a h1 h2 => by
    by_cases ht : ∃ j, j < c.n ∧ a = c.τ j
    · obtain ⟨j, hj, rfl⟩ := ht
      exact A.fs _ (E.tg j hj).2 (E.tg j hj).1
    · refine A.fs a (E.fs a h1 h2) ?_
      cases q : c.H0 a with
      | none => exact absurd q h2
      | some o =>
        rw [E.fr a o q fun j hj z => ht ⟨j, hj, z⟩]
        exact fun z => nomatch z
  tg := fun j hj => by
    obtain ⟨h1, h2⟩ := E.tg j hj
    refine ⟨fun z => h1 (A.h.none z), A.fs _ h2 h1⟩
  len := E.len
  sl := fun i s h => (E.sl i s h).al A
  ap := E.ap
  hd := fun p xs h => by
    obtain ⟨h1, h2, h3⟩ := E.hd p xs h
    exact ⟨A.h _ _ h1, A.fs p h2 (by rw [h1]; exact fun z => nomatch z), h3⟩
/-- a slot is given a datum -/
theorem EnvOk.put (E : EnvOk K c G H σ δ) {i : Nat} {v : V} {d : PyData} (r : Rp K G v d) : EnvOk K c G H (σ.set i (some v)) (δ.set i (.dat d)) where
  g0 := E.g0
  ex := E.ex
  fr := E.fr
  fs := E.fs
  tg := E.tg
  len := by rw [List.length_set, List.length_set, E.len]
  sl := fun j s h => by
    rw [List.getElem?_set] at h ⊢
    by_cases hj : i = j
    · rw [if_pos hj] at h ⊢
      by_cases hl : i < δ.length
      · rw [if_pos (by omega)] at h
        rw [if_pos (by rw [E.len]; omega)]
        cases h
        exact ⟨v, rfl, r⟩
      · rw [if_neg (by omega)] at h
        cases h
    · rw [if_neg hj] at h ⊢
      exact E.sl j s h
  ap := fun a b t1 d1 t2 d2 hab h1 h2 => by
    rw [List.getElem?_set] at h1 h2
    by_cases ha : i = a
    · rw [if_pos ha] at h1
      split at h1 <;> cases h1
    · by_cases hb : i = b
      · rw [if_pos hb] at h2
        split at h2 <;> cases h2
      · rw [if_neg ha] at h1
        rw [if_neg hb] at h2
        rw [List.getElem?_set_ne ha, List.getElem?_set_ne hb]
        exact E.ap a b t1 d1 t2 d2 hab h1 h2
  hd := fun p xs h => by
    obtain ⟨h1, h2, h3, h4, h5⟩ := E.hd p xs h
    refine ⟨h1, h2, h3, h4, fun j t ds hj => ?_⟩
    rw [List.getElem?_set] at hj
    by_cases hi : i = j
    · rw [if_pos hi] at hj
      split at hj <;> cases hj
    · rw [if_neg hi] at hj
      rw [List.getElem?_set_ne hi]
      exact h5 j t ds hj
/-- a slot is forgotten -/
theorem EnvOk.drop (E : EnvOk K c G H σ δ) {i : Nat} {v : Option V} : EnvOk K c G H (σ.set i v) (δ.set i .no) where
  g0 := E.g0
  ex := E.ex
  fr := E.fr
  fs := E.fs
  tg := E.tg
  len := by rw [List.length_set, List.length_set, E.len]
  sl := fun j s h => by
    rw [List.getElem?_set] at h ⊢
    by_cases hj : i = j
    · rw [if_pos hj] at h
      split at h
      · cases h
        trivial
      · cases h
    · rw [if_neg hj] at h ⊢
      exact E.sl j s h
  ap := fun a b t1 d1 t2 d2 hab h1 h2 => by
    rw [List.getElem?_set] at h1 h2
    by_cases ha : i = a
    · rw [if_pos ha] at h1
      split at h1 <;> cases h1
    · by_cases hb : i = b
      · rw [if_pos hb] at h2
        split at h2 <;> cases h2
      · rw [if_neg ha] at h1
        rw [if_neg hb] at h2
        rw [List.getElem?_set_ne ha, List.getElem?_set_ne hb]
        exact E.ap a b t1 d1 t2 d2 hab h1 h2
  hd := fun p xs h => by
    obtain ⟨h1, h2, h3, h4, h5⟩ := E.hd p xs h
    refine ⟨h1, h2, h3, h4, fun j t ds hj => ?_⟩
    rw [List.getElem?_set] at hj
    by_cases hi : i = j
    · rw [if_pos hi] at hj
      split at hj <;> cases hj
    · rw [if_neg hi] at hj
      rw [List.getElem?_set_ne hi]
      exact h5 j t ds hj
/-- the list in a slot stays from here on -/
theorem EnvOk.freeze (E : EnvOk K c G H σ δ) {i : Nat} {p : Addr} {ds : List PyData} (hs : δ[i]? = some (.own none ds)) (hp : σ[i]? = some (some (.ref p))) :
    ∃ G', Ex G G' ∧ Rp K G' (.ref p) (.list ds) ∧ EnvOk K c G' H σ (δ.set i (.dat (.list ds))) := by
  obtain ⟨p', xs, e, hg, hh, r, h0, hne⟩ := E.sl i _ hs
  rw [hp] at e
  obtain rfl : p = p' := by
    have e1 := Option.some.inj (Option.some.inj e)
    exact V.ref.inj e1
  have eg : Ex G (upd G p (.lst xs)) := Ex.new hg
  have rp : Rp K (upd G p (.lst xs)) (.ref p) (.list ds) := .lst upd_same (r.up eg)
  refine ⟨upd G p (.lst xs), eg, rp, ?_⟩
  have other : ∀ j s, i ≠ j → δ[j]? = some s → SlOk K c (upd G p (.lst xs)) H (σ[j]?) s := fun j s hj h => by
    have q := E.sl j s h
    cases s with
    | no => trivial
    | dat d =>
      obtain ⟨x, e1, r1⟩ := q
      exact ⟨x, e1, r1.up eg⟩
    | scr es =>
      obtain ⟨a, ys, e1, h1, r1⟩ := q
      exact ⟨a, ys, e1, ex_l eg h1, r1.up eg⟩
    | own t es =>
      obtain ⟨p1, ys, e1, g1, h1, r1, q1⟩ := q
      have ne : p1 ≠ p := fun z => E.ap i j _ _ _ _ hj hs h (by rw [hp, e1, z])
      exact ⟨p1, ys, e1, by rw [upd_ne ne]; exact g1, h1, r1.up eg, q1⟩
  exact {
    g0 := E.g0.trans eg
    ex := fun a o h => by
      by_cases ha : a = p
      · subst ha
        rw [upd_same] at h
        cases h
        exact hh
      · rw [upd_ne ha] at h
        exact E.ex a o h
    fr := E.fr
    fs := fun a h1 h2 => by
      have ha : a ≠ p := fun z => h2 (by rw [z]; exact h0)
      rw [upd_ne ha]
      exact E.fs a h1 h2
    tg := fun j hj => ⟨(E.tg j hj).1, by rw [upd_ne (hne j hj).symm]; exact (E.tg j hj).2⟩
    len := by rw [List.length_set, E.len]
    sl := fun j s h => by
      rw [List.getElem?_set] at h
      by_cases hj : i = j
      · rw [if_pos hj] at h
        split at h
        · cases h
          exact ⟨_, by rw [← hj]; exact hp, rp⟩
        · cases h
      · rw [if_neg hj] at h
        exact other j s hj h
    ap := fun a b t1 d1 t2 d2 hab h1 h2 => by
      rw [List.getElem?_set] at h1 h2
      by_cases ha : i = a
      · rw [if_pos ha] at h1
        split at h1 <;> cases h1
      · by_cases hb : i = b
        · rw [if_pos hb] at h2
          split at h2 <;> cases h2
        · rw [if_neg ha] at h1
          rw [if_neg hb] at h2
          exact E.ap a b t1 d1 t2 d2 hab h1 h2
    hd := fun q ys h => by
      obtain ⟨h1, h2, h3, h4, h5⟩ := E.hd q ys h
      have ne : q ≠ p := fun z => h5 i _ _ hs (by rw [hp, z])
      refine ⟨h1, by rw [upd_ne ne]; exact h2, h3, h4, fun j t es hj => ?_⟩
      rw [List.getElem?_set] at hj
      by_cases hi : i = j
      · rw [if_pos hi] at hj
        split at hj <;> cases hj
      · rw [if_neg hi] at hj
        exact h5 j t es hj }
/-- the list in a slot is changed -/
theorem EnvOk.poke (E : EnvOk K c G H σ δ) {i : Nat} {p : Addr} {t : Option Nat} {ds es : List PyData} {ys : List V} (hs : δ[i]? = some (.own t ds)) (hp : σ[i]? = some (some (.ref p))) (r : RpAll K G ys es) :
    EnvOk K c G (upd H p (.lst ys)) σ (δ.set i (.own t es)) := by
  obtain ⟨p', xs, e, hg, hh, _, q⟩ := E.sl i _ hs
  rw [hp] at e
  obtain rfl : p = p' := by
    have e1 := Option.some.inj (Option.some.inj e)
    exact V.ref.inj e1
  exact {
    g0 := E.g0
    ex := fun a o h => by
      rw [upd_ne (ne_of_none h hg)]
      exact E.ex a o h
    fr := fun a o h k => by
      have ha : a ≠ p := by
        cases t with
        | none =>
          intro z
          rw [z, q.1] at h
          cases h
        | some j => exact fun z => k j q.1 (z.trans q.2)
      rw [upd_ne ha]
      exact E.fr a o h k
    fs := E.fs
    tg := fun j hj => by
      refine ⟨?_, (E.tg j hj).2⟩
      by_cases ha : c.τ j = p
      · rw [ha, upd_same]
        exact fun z => nomatch z
      · rw [upd_ne ha]
        exact (E.tg j hj).1
    len := by rw [List.length_set, E.len]
    sl := fun j s h => by
      rw [List.getElem?_set] at h
      by_cases hj : i = j
      · rw [if_pos hj] at h
        split at h
        · cases h
          subst hj
          exact ⟨p, ys, hp, hg, upd_same, r, q⟩
        · cases h
      · rw [if_neg hj] at h
        have z := E.sl j s h
        cases s with
        | no => trivial
        | dat d => exact z
        | scr es => exact z
        | own t' es' =>
          obtain ⟨p1, zs, e1, g1, h1, r1, q1⟩ := z
          have ne : p1 ≠ p := fun z => E.ap i j _ _ _ _ hj hs h (by rw [hp, e1, z])
          exact ⟨p1, zs, e1, g1, by rw [upd_ne ne]; exact h1, r1, q1⟩
    ap := fun a b t1 d1 t2 d2 hab h1 h2 => by
      have f : ∀ (a : Nat) (t1 : Option Nat) (d1 : List PyData), (δ.set i (Sl.own t es))[a]? = some (Sl.own t1 d1) → ∃ (t3 : Option Nat) (d3 : List PyData), δ[a]? = some (Sl.own t3 d3) := fun a t1 d1 h1 => by
        rw [List.getElem?_set] at h1
        by_cases ha : i = a
        · subst ha
          exact ⟨_, _, hs⟩
        · rw [if_neg ha] at h1
          exact ⟨_, _, h1⟩
      obtain ⟨t3, d3, e3⟩ := f a t1 d1 h1
      obtain ⟨t4, d4, e4⟩ := f b t2 d2 h2
      exact E.ap a b t3 d3 t4 d4 hab e3 e4
    hd := fun w zs h => by
      obtain ⟨h1, h2, h3, h4, h5⟩ := E.hd w zs h
      have ne : w ≠ p := fun z => h5 i _ _ hs (by rw [hp, z])
      refine ⟨by rw [upd_ne ne]; exact h1, h2, h3, h4, fun j t' es' hj => ?_⟩
      rw [List.getElem?_set] at hj
      by_cases hi : i = j
      · subst hi
        exact h5 i _ _ hs
      · rw [if_neg hi] at hj
        exact h5 j t' es' hj }
/-- a new list in a slot -/
theorem EnvOk.fresh (E : EnvOk K c G H σ δ) {i : Nat} {p : Addr} {ds : List PyData} {xs : List V} (hp : H p = none) (h0 : c.H0 p = none) (r : RpAll K G xs ds) :
    EnvOk K c G (upd H p (.lst xs)) (σ.set i (some (.ref p))) (δ.set i (.own none ds)) := by
  have E1 := E.al (Al.tmp (o := .lst xs) E.ex hp)
  have ht : ∀ j, j < c.n → p ≠ c.τ j := fun j hj z => (E.tg j hj).1 (by rw [← z]; exact hp)
  have old : ∀ (j : Nat) (t : Option Nat) (es : List PyData), δ[j]? = some (Sl.own t es) → σ[j]? ≠ some (some (V.ref p)) := fun j t es h z => by
    obtain ⟨p', ys, e, _, hh, _⟩ := E.sl j _ h
    rw [z] at e
    have e1 := V.ref.inj (Option.some.inj (Option.some.inj e))
    rw [← e1, hp] at hh
    cases hh
  exact {
    g0 := E1.g0
    ex := E1.ex
    fr := E1.fr
    fs := E1.fs
    tg := E1.tg
    len := by rw [List.length_set, List.length_set, E.len]
    sl := fun j s h => by
      rw [List.getElem?_set] at h ⊢
      by_cases hj : i = j
      · rw [if_pos hj] at h ⊢
        by_cases hl : i < δ.length
        · rw [if_pos (by omega)] at h
          rw [if_pos (by rw [E.len]; omega)]
          cases h
          exact ⟨p, xs, rfl, E.ex.none hp, upd_same, r, h0, ht⟩
        · rw [if_neg (by omega)] at h
          cases h
      · rw [if_neg hj] at h ⊢
        exact E1.sl j s h
    ap := fun a b t1 d1 t2 d2 hab h1 h2 => by
      rw [List.getElem?_set] at h1 h2
      by_cases ha : i = a
      · rw [if_neg (fun z => hab (ha.symm.trans z))] at h2
        rw [List.getElem?_set, if_pos ha]
        split
        · rw [List.getElem?_set_ne (fun z => hab (ha.symm.trans z))]
          exact fun z => old b _ _ h2 z.symm
        · rw [if_pos ha] at h1
          split at h1
          · rename_i u w
            rw [E.len] at u
            exact absurd w u
          · cases h1
      · rw [if_neg ha] at h1
        by_cases hb : i = b
        · rw [List.getElem?_set_ne ha, List.getElem?_set, if_pos hb]
          split
          · exact old a _ _ h1
          · rw [if_pos hb] at h2
            split at h2
            · rename_i u w
              rw [E.len] at u
              exact absurd w u
            · cases h2
        · rw [if_neg hb] at h2
          rw [List.getElem?_set_ne ha, List.getElem?_set_ne hb]
          exact E.ap a b t1 d1 t2 d2 hab h1 h2
    hd := fun w zs h => by
      obtain ⟨h1, h2, h3, h4, h5⟩ := E1.hd w zs h
      have ne : w ≠ p := fun z => by
        have h1' := (E.hd w zs h).1
        rw [z, hp] at h1'
        cases h1'
      refine ⟨h1, h2, h3, h4, fun j t' es' hj => ?_⟩
      rw [List.getElem?_set] at hj ⊢
      by_cases hi : i = j
      · rw [if_pos hi]
        split
        · exact fun z => ne (V.ref.inj (Option.some.inj (Option.some.inj z))).symm
        · exact fun z => nomatch z
      · rw [if_neg hi] at hj ⊢
        exact h5 j t' es' hj }
/-- a list is being made beside -/
theorem EnvOk.hide (E : EnvOk K c G H σ δ) {p : Addr} {xs : List V} (hp : H p = none) (h0 : c.H0 p = none) : EnvOk K { c with hid := (p, xs) :: c.hid } G (upd H p (.lst xs)) σ δ := by
  have E1 := E.al (Al.tmp (o := .lst xs) E.ex hp)
  exact {
    g0 := E1.g0
    ex := E1.ex
    fr := E1.fr
    fs := E1.fs
    tg := E1.tg
    len := E1.len
    sl := fun i s h => by
      have z := E1.sl i s h
      cases s with
      | no => trivial
      | dat d => exact z
      | scr es => exact z
      | own t ds => exact z
    ap := E1.ap
    hd := fun q ys h => by
      rcases List.mem_cons.mp h with e | h
      · cases e
        refine ⟨upd_same, E.ex.none hp, h0, fun j hj z => (E.tg j hj).1 (by rw [← z]; exact hp), fun i t ds hs z => ?_⟩
        obtain ⟨p', zs, e, _, hh, _⟩ := E.sl i _ hs
        rw [z] at e
        rw [← V.ref.inj (Option.some.inj (Option.some.inj e)), hp] at hh
        cases hh
      · exact E1.hd q ys h }
/-- .. and grows -/
theorem EnvOk.grow {p : Addr} {xs ys : List V} (E : EnvOk K { c with hid := (p, xs) :: c.hid } G H σ δ) (hn : ∀ zs, (p, zs) ∉ c.hid) : EnvOk K { c with hid := (p, ys) :: c.hid } G (upd H p (.lst ys)) σ δ := by
  obtain ⟨a1, a2, a3, a4, a5⟩ := E.hd p xs List.mem_cons_self
  exact {
    g0 := E.g0
    ex := fun a o h => by
      rw [upd_ne (ne_of_none h a2)]
      exact E.ex a o h
    fr := fun a o h k => by
      rw [upd_ne (ne_of_none h a3)]
      exact E.fr a o h k
    fs := E.fs
    tg := fun j hj => by
      refine ⟨?_, (E.tg j hj).2⟩
      rw [upd_ne (a4 j hj).symm]
      exact (E.tg j hj).1
    len := E.len
    sl := fun i s h => by
      have z := E.sl i s h
      cases s with
      | no => trivial
      | dat d => exact z
      | scr es => exact z
      | own t ds =>
        obtain ⟨p1, zs, e1, g1, h1, r1, q1⟩ := z
        have ne : p1 ≠ p := fun z => a5 i t ds h (by rw [e1, z])
        exact ⟨p1, zs, e1, g1, by rw [upd_ne ne]; exact h1, r1, q1⟩
    ap := E.ap
    hd := fun q zs h => by
      rcases List.mem_cons.mp h with e | h
      · cases e
        exact ⟨upd_same, a2, a3, a4, a5⟩
      · obtain ⟨h1, h2, h3⟩ := E.hd q zs (List.mem_cons_of_mem _ h)
        have ne : q ≠ p := fun z => hn zs (by rw [← z]; exact h)
        exact ⟨by rw [upd_ne ne]; exact h1, h2, h3⟩ }
/-- .. and is there -/
theorem EnvOk.show {p : Addr} {xs : List V} {ds : List PyData} (E : EnvOk K { c with hid := (p, xs) :: c.hid } G H σ δ) (hn : ∀ zs, (p, zs) ∉ c.hid) (r : RpAll K G xs ds) :
    ∃ G', Ex G G' ∧ Rp K G' (.ref p) (.list ds) ∧ EnvOk K c G' H σ δ := by
  obtain ⟨a1, a2, a3, a4, a5⟩ := E.hd p xs List.mem_cons_self
  have eg : Ex G (upd G p (.lst xs)) := Ex.new a2
  refine ⟨upd G p (.lst xs), eg, .lst upd_same (r.up eg), ?_⟩
  exact {
    g0 := E.g0.trans eg
    ex := fun a o h => by
      by_cases ha : a = p
      · subst ha
        rw [upd_same] at h
        cases h
        exact a1
      · rw [upd_ne ha] at h
        exact E.ex a o h
    fr := E.fr
    fs := fun a h1 h2 => by
      have ha : a ≠ p := fun z => h2 (by rw [z]; exact a3)
      rw [upd_ne ha]
      exact E.fs a h1 h2
    tg := fun j hj => ⟨(E.tg j hj).1, by rw [upd_ne (a4 j hj).symm]; exact (E.tg j hj).2⟩
    len := E.len
    sl := fun i s h => by
      have z := E.sl i s h
      cases s with
      | no => trivial
      | dat d =>
        obtain ⟨x, e1, r1⟩ := z
        exact ⟨x, e1, r1.up eg⟩
      | scr es =>
        obtain ⟨a, ys, e1, h1, r1⟩ := z
        exact ⟨a, ys, e1, ex_l eg h1, r1.up eg⟩
      | own t es =>
        obtain ⟨p1, zs, e1, g1, h1, r1, q1⟩ := z
        have ne : p1 ≠ p := fun z => a5 i t es h (by rw [e1, z])
        exact ⟨p1, zs, e1, by rw [upd_ne ne]; exact g1, h1, r1.up eg, q1⟩
    ap := E.ap
    hd := fun q zs h => by
      obtain ⟨h1, h2, h3⟩ := E.hd q zs (List.mem_cons_of_mem _ h)
      have ne : q ≠ p := fun z => hn zs (by rw [← z]; exact h)
      exact ⟨h1, by rw [upd_ne ne]; exact h2, h3⟩ }
end
end TL

set_option Elab.async false
set_option linter.all false
set_option maxRecDepth 100000
set_option maxHeartbeats 2000000
/-! TL2: expressions by data. -/
namespace TL
open PySem PySem.Spec L2

abbrev DQ := PyData → List Sl → Prop
abbrev DTE := List Sl → DQ → Prop
abbrev DTT := List Sl → (Bool → List Sl → Prop) → Prop
abbrev DTA := List Sl → (List PyData → List Sl → Prop) → Prop
abbrev DTO := List Sl → (Option Int → List Sl → Prop) → Prop
abbrev R2D := PyData → PyData → (PyData → Prop) → Prop
abbrev R1D := PyData → (PyData → Prop) → Prop

def RE (K : PySem.W.Frag) (t : TE) (u : DTE) : Prop := ∀ (c : Cf) (σ : L2.St) (G H : Hp) (δ : List Sl) (Q : VK) (R : DQ), EnvOk K c G H σ δ → u δ R →
  (∀ d δ' v G' H', R d δ' → EnvOk K c G' H' σ δ' → Ex G G' → Rp K G' v d → Q v H') → t σ H Q
def RT (K : PySem.W.Frag) (t : TT) (u : DTT) : Prop := ∀ (c : Cf) (σ : L2.St) (G H : Hp) (δ : List Sl) (Q : Bool → Hp → Prop) (R : Bool → List Sl → Prop), EnvOk K c G H σ δ → u δ R →
  (∀ b δ' G' H', R b δ' → EnvOk K c G' H' σ δ' → Ex G G' → Q b H') → t σ H Q
def RA (K : PySem.W.Frag) (t : TA) (u : DTA) : Prop := ∀ (c : Cf) (σ : L2.St) (G H : Hp) (δ : List Sl) (Q : List V → Hp → Prop) (R : List PyData → List Sl → Prop), EnvOk K c G H σ δ → u δ R →
  (∀ ds δ' vs G' H', R ds δ' → EnvOk K c G' H' σ δ' → Ex G G' → RpAll K G' vs ds → Q vs H') → t σ H Q
def ROp (K : PySem.W.Frag) (t : TO) (u : DTO) : Prop := ∀ (c : Cf) (σ : L2.St) (G H : Hp) (δ : List Sl) (Q : Option Int → Hp → Prop) (R : Option Int → List Sl → Prop), EnvOk K c G H σ δ → u δ R →
  (∀ o δ' G' H', R o δ' → EnvOk K c G' H' σ δ' → Ex G G' → Q o H') → t σ H Q
structure DE (X : Cx) (e : Expr) (t : TE) (u : DTE) : Prop where
  pe : PE X e t
  re : RE X.K t u
structure DT (X : Cx) (e : Expr) (t : TT) (u : DTT) : Prop where
  pt : PT X e t
  rt : RT X.K t u
structure DW (X : Cx) (e : Expr) (t : TT) (u : DTT) : Prop where
  pw : PW X e t
  rt : RT X.K t u
structure DA (X : Cx) (es : List Expr) (t : TA) (u : DTA) : Prop where
  pa : PA X es t
  ra : RA X.K t u
structure DO (X : Cx) (e : Option Expr) (t : TO) (u : DTO) : Prop where
  po : PO X e t
  ro : ROp X.K t u

/-- an operation by values -/
def RO (K : PySem.W.Frag) (r : R2) (rd : R2D) : Prop := ∀ (G H : Hp) (x y : V) (d1 d2 : PyData) (Q : VK) (R : PyData → Prop), Ex G H → Rp K G x d1 → Rp K G y d2 → rd d1 d2 R →
  (∀ d v G' H', R d → Al G H G' H' → Rp K G' v d → Q v H') → r x y H Q
def R1 (K : PySem.W.Frag) (r : V → Hp → VK → Prop) (rd : R1D) : Prop := ∀ (G H : Hp) (x : V) (d : PyData) (Q : VK) (R : PyData → Prop), Ex G H → Rp K G x d → rd d R →
  (∀ d v G' H', R d → Al G H G' H' → Rp K G' v d → Q v H') → r x H Q

/-! ### readings -/
def dVar (i : Nat) : DTE := fun δ R => match δ[i]? with
  | some (.dat d) => R d δ
  | some (.own none ds) => R (.list ds) (δ.set i (.dat (.list ds)))
  | _ => False
def dC (d : PyData) : DTE := fun δ R => R d δ
def dOp (rd : R2D) (ua ub : DTE) : DTE := fun δ R => ua δ fun d1 δ1 => ub δ1 fun d2 δ2 => rd d1 d2 fun d => R d δ2
def dUn (rd : R1D) (ua : DTE) : DTE := fun δ R => ua δ fun d1 δ1 => rd d1 fun d => R d δ1
def dTest (u : DTE) : DTT := fun δ R => u δ fun d δ' => match d with
  | .bool b => R b δ'
  | _ => False
def dAnd (t u : DTT) : DTT := fun δ R => t δ fun b δ1 => if b = true then u δ1 R else R false δ1
def dOr (t u : DTT) : DTT := fun δ R => t δ fun b δ1 => if b = true then R true δ1 else u δ1 R
def dNot (t : DTT) : DTT := fun δ R => t δ fun b δ1 => R (!b) δ1
def dAndV (ua ub : DTE) : DTE := fun δ R => ua δ fun d δ1 => match d with
  | .bool b => if b = true then ub δ1 R else R (.bool false) δ1
  | _ => False
def dOrV (ua ub : DTE) : DTE := fun δ R => ua δ fun d δ1 => match d with
  | .bool b => if b = true then R (.bool true) δ1 else ub δ1 R
  | _ => False
def dNotV (ua : DTE) : DTE := fun δ R => ua δ fun d δ1 => match d with
  | .bool b => R (.bool (!b)) δ1
  | _ => False
def dIf (t : DTT) (ua ub : DTE) : DTE := fun δ R => t δ fun b δ1 => if b = true then ua δ1 R else ub δ1 R
def dNil : DTA := fun δ R => R [] δ
def dCons (u : DTE) (ur : DTA) : DTA := fun δ R => u δ fun d δ1 => ur δ1 fun ds δ2 => R (d :: ds) δ2
def dTup (u : DTA) : DTE := fun δ R => u δ fun ds δ1 => ds.length ≤ sizeLine ∧ R (.tuple ds) δ1
def dLst (u : DTA) : DTE := fun δ R => u δ fun ds δ1 => ds.length ≤ sizeLine ∧ R (.list ds) δ1
def dNoPart : DTO := fun δ R => R none δ
def dPart (u : DTE) : DTO := fun δ R => u δ fun d δ1 => match d with
  | .int i => R (some i) δ1
  | _ => False

section
variable {K : PySem.W.Frag} {ta tb : TE} {ua ub : DTE} {t t' : TT} {u u' : DTT} {r : R2} {rd : R2D}
theorem re_var {i : Nat} : RE K (tVar i) (dVar i) := by
  intro c σ G H δ Q R E h k
  have h : (match δ[i]? with
    | some (.dat d) => R d δ
    | some (.own none ds) => R (.list ds) (δ.set i (.dat (.list ds)))
    | _ => False) := h
  cases hs : δ[i]? with
  | none =>
    rw [hs] at h
    exact h.elim
  | some s =>
    rw [hs] at h
    have z := E.sl i s hs
    cases s with
    | no => exact h.elim
    | scr ds => exact h.elim
    | dat d =>
      obtain ⟨x, e, r⟩ := z
      exact ⟨x, e, k d δ x G H h E (Ex.refl _) r⟩
    | own t ds =>
      cases t with
      | some j => exact h.elim
      | none =>
        obtain ⟨p, xs, e, _⟩ := z
        obtain ⟨G', eg, rp, E'⟩ := E.freeze hs e
        exact ⟨.ref p, e, k _ _ _ G' H h E' eg rp⟩
theorem re_c {v : V} {d : PyData} (h : ∀ G, Rp K G v d) : RE K (tC v) (dC d) := fun c σ G H δ Q R E hu k => k d δ v G H hu E (Ex.refl _) (h G)
theorem re_op (ha : RE K ta ua) (hb : RE K tb ub) (hr : RO K r rd) : RE K (tOp r ta tb) (dOp rd ua ub) := by
  intro c σ G H δ Q R E h k
  refine ha c σ G H δ _ _ E h fun d1 δ1 v1 G1 H1 h1 E1 e1 r1 => ?_
  refine hb c σ G1 H1 δ1 _ _ E1 h1 fun d2 δ2 v2 G2 H2 h2 E2 e2 r2 => ?_
  refine hr G2 H2 v1 v2 d1 d2 _ _ E2.ex (r1.up e2) r2 h2 fun d v G3 H3 h3 A r3 => ?_
  exact k d δ2 v G3 H3 h3 (E2.al A) ((e1.trans e2).trans A.g) r3
theorem re_un {r : V → Hp → VK → Prop} {rd : R1D} (ha : RE K ta ua) (hr : R1 K r rd) : RE K (tUn r ta) (dUn rd ua) := by
  intro c σ G H δ Q R E h k
  refine ha c σ G H δ _ _ E h fun d1 δ1 v1 G1 H1 h1 E1 e1 r1 => ?_
  refine hr G1 H1 v1 d1 _ _ E1.ex r1 h1 fun d v G3 H3 h3 A r3 => ?_
  exact k d δ1 v G3 H3 h3 (E1.al A) (e1.trans A.g) r3
theorem rt_test (ha : RE K ta ua) : RT K (tTest ta) (dTest ua) := by
  intro c σ G H δ Q R E h k
  refine ha c σ G H δ _ _ E h fun d δ1 v G1 H1 h1 E1 e1 r1 => ?_
  cases d with
  | bool b => exact ⟨b, r1.bl_of, k b δ1 G1 H1 h1 E1 e1⟩
  | _ => exact False.elim h1
theorem rt_and (h1 : RT K t u) (h2 : RT K t' u') : RT K (tAnd t t') (dAnd u u') := by
  intro c σ G H δ Q R E h k
  refine h1 c σ G H δ _ _ E h fun b δ1 G1 H1 q E1 e1 => ?_
  cases b with
  | true => exact h2 c σ G1 H1 δ1 Q R E1 q fun b δ2 G2 H2 q2 E2 e2 => k b δ2 G2 H2 q2 E2 (e1.trans e2)
  | false => exact k false δ1 G1 H1 q E1 e1
theorem rt_or (h1 : RT K t u) (h2 : RT K t' u') : RT K (tOr t t') (dOr u u') := by
  intro c σ G H δ Q R E h k
  refine h1 c σ G H δ _ _ E h fun b δ1 G1 H1 q E1 e1 => ?_
  cases b with
  | false => exact h2 c σ G1 H1 δ1 Q R E1 q fun b δ2 G2 H2 q2 E2 e2 => k b δ2 G2 H2 q2 E2 (e1.trans e2)
  | true => exact k true δ1 G1 H1 q E1 e1
theorem rt_not (h1 : RT K t u) : RT K (tNot t) (dNot u) := by
  intro c σ G H δ Q R E h k
  exact h1 c σ G H δ _ _ E h fun b δ1 G1 H1 q E1 e1 => k (!b) δ1 G1 H1 q E1 e1
theorem re_and (ha : RE K ta ua) (hb : RE K tb ub) : RE K (tAndV ta tb) (dAndV ua ub) := by
  intro c σ G H δ Q R E h k
  refine ha c σ G H δ _ _ E h fun d δ1 v G1 H1 h1 E1 e1 r1 => ?_
  cases d with
  | bool b =>
    refine ⟨b, r1.bl_of, ?_⟩
    cases b with
    | true => exact hb c σ G1 H1 δ1 Q R E1 h1 fun d δ2 v G2 H2 q2 E2 e2 r2 => k d δ2 v G2 H2 q2 E2 (e1.trans e2) r2
    | false => exact k _ δ1 _ G1 H1 h1 E1 e1 (.bl false)
  | _ => exact False.elim h1
theorem re_or (ha : RE K ta ua) (hb : RE K tb ub) : RE K (tOrV ta tb) (dOrV ua ub) := by
  intro c σ G H δ Q R E h k
  refine ha c σ G H δ _ _ E h fun d δ1 v G1 H1 h1 E1 e1 r1 => ?_
  cases d with
  | bool b =>
    refine ⟨b, r1.bl_of, ?_⟩
    cases b with
    | false => exact hb c σ G1 H1 δ1 Q R E1 h1 fun d δ2 v G2 H2 q2 E2 e2 r2 => k d δ2 v G2 H2 q2 E2 (e1.trans e2) r2
    | true => exact k _ δ1 _ G1 H1 h1 E1 e1 (.bl true)
  | _ => exact False.elim h1
theorem re_not (ha : RE K ta ua) : RE K (tNotV ta) (dNotV ua) := by
  intro c σ G H δ Q R E h k
  refine ha c σ G H δ _ _ E h fun d δ1 v G1 H1 h1 E1 e1 r1 => ?_
  cases d with
  | bool b => exact ⟨b, r1.bl_of, k _ δ1 _ G1 H1 h1 E1 e1 (.bl _)⟩
  | _ => exact False.elim h1
theorem re_if (hc : RT K t u) (ha : RE K ta ua) (hb : RE K tb ub) : RE K (tIf t ta tb) (dIf u ua ub) := by
  intro c σ G H δ Q R E h k
  refine hc c σ G H δ _ _ E h fun b δ1 G1 H1 q E1 e1 => ?_
  cases b with
  | true => exact ha c σ G1 H1 δ1 Q R E1 q fun d δ2 v G2 H2 q2 E2 e2 r2 => k d δ2 v G2 H2 q2 E2 (e1.trans e2) r2
  | false => exact hb c σ G1 H1 δ1 Q R E1 q fun d δ2 v G2 H2 q2 E2 e2 r2 => k d δ2 v G2 H2 q2 E2 (e1.trans e2) r2
theorem ra_nil : RA K tNil dNil := fun c σ G H δ Q R E h k => k [] δ [] G H h E (Ex.refl _) .nil
theorem ra_cons {tr : TA} {ur : DTA} (ha : RE K ta ua) (hr : RA K tr ur) : RA K (tCons ta tr) (dCons ua ur) := by
  intro c σ G H δ Q R E h k
  refine ha c σ G H δ _ _ E h fun d δ1 v G1 H1 h1 E1 e1 r1 => ?_
  exact hr c σ G1 H1 δ1 _ _ E1 h1 fun ds δ2 vs G2 H2 h2 E2 e2 r2 => k _ δ2 _ G2 H2 h2 E2 (e1.trans e2) (.cons (r1.up e2) r2)
theorem re_tup {tr : TA} {ur : DTA} (hr : RA K tr ur) : RE K (tTup tr) (dTup ur) := by
  intro c σ G H δ Q R E h k
  refine hr c σ G H δ _ _ E h fun ds δ1 vs G1 H1 h1 E1 e1 r1 => ?_
  refine ⟨by rw [r1.len]; exact h1.1, fun p hp => ?_⟩
  have A := Al.new (o := .tup vs) E1.ex hp
  exact k _ δ1 _ _ _ h1.2 (E1.al A) (e1.trans A.g) (.tup upd_same (r1.up A.g))
theorem re_lst {tr : TA} {ur : DTA} (hr : RA K tr ur) : RE K (tLst tr) (dLst ur) := by
  intro c σ G H δ Q R E h k
  refine hr c σ G H δ _ _ E h fun ds δ1 vs G1 H1 h1 E1 e1 r1 => ?_
  refine ⟨by rw [r1.len]; exact h1.1, fun p hp => ?_⟩
  have A := Al.new (o := .lst vs) E1.ex hp
  exact k _ δ1 _ _ _ h1.2 (E1.al A) (e1.trans A.g) (.lst upd_same (r1.up A.g))
theorem ro_none : ROp K tNoPart dNoPart := fun c σ G H δ Q R E h k => k none δ G H h E (Ex.refl _)
theorem ro_part (ha : RE K ta ua) : ROp K (tPart ta) (dPart ua) := by
  intro c σ G H δ Q R E h k
  refine ha c σ G H δ _ _ E h fun d δ1 v G1 H1 h1 E1 e1 r1 => ?_
  cases d with
  | int i => exact ⟨i, r1.int_of, k (some i) δ1 G1 H1 h1 E1 e1⟩
  | _ => exact False.elim h1

/-! ### operations by data -/
def dI (g : Int → Int → Int) : R2D := fun a b R => match a, b with
  | .int i, .int j => R (.int (g i j))
  | _, _ => False
def dIC (C : Int → Int → Prop) (g : Int → Int → Int) : R2D := fun a b R => match a, b with
  | .int i, .int j => C i j ∧ R (.int (g i j))
  | _, _ => False
def dB (g : Int → Int → Bool) : R2D := fun a b R => match a, b with
  | .int i, .int j => R (.bool (g i j))
  | _, _ => False
def dS (g : Str → Str → Bool) : R2D := fun a b R => match a, b with
  | .str i, .str j => R (.bool (g i j))
  | _, _ => False
def dCat : R2D := fun a b R => match a, b with
  | .list x, .list y => x.length + y.length ≤ sizeLine ∧ R (.list (x ++ y))
  | _, _ => False
def dAddS : R2D := fun a b R => match a, b with
  | .str x, .str y => x.length + y.length ≤ sizeLine ∧ R (.str (x ++ y))
  | _, _ => False
def dMulS : R2D := fun a b R => match a, b with
  | .str x, .int i => (-(2 ^ 63 : Int) ≤ i ∧ i ≤ 20000 ∧ x.length ≤ 800) ∧ R (.str (Txt.mul x i))
  | _, _ => False
def dEq : R2D := fun a b R => SeqAt.shaped a = true ∧ SeqAt.shaped b = true ∧ R (.bool (PyData.eqv a b))
def dNe : R2D := fun a b R => SeqAt.shaped a = true ∧ SeqAt.shaped b = true ∧ R (.bool (!PyData.eqv a b))
def dIn : R2D := fun a b R => match b with
  | .list ds => SeqAt.shaped a = true ∧ SeqAt.shaped (.list ds) = true ∧ R (.bool (ds.any fun z => PyData.eqv z a))
  | _ => False
def dNotIn : R2D := fun a b R => match b with
  | .list ds => SeqAt.shaped a = true ∧ SeqAt.shaped (.list ds) = true ∧ R (.bool (!ds.any fun z => PyData.eqv z a))
  | _ => False
def dIxL : R2D := fun a b R => match a, b with
  | .list ds, .int i => (match atI ds i with
    | some d => R d
    | none => False)
  | _, _ => False
def dIxT : R2D := fun a b R => match a, b with
  | .tuple ds, .int i => (match atI ds i with
    | some d => R d
    | none => False)
  | _, _ => False
def dIxS : R2D := fun a b R => match a, b with
  | .str z, .int i => z.length ≤ sizeLine ∧ (match atI z.cps.toList i with
    | some c => R (.str ⟨#[c]⟩)
    | none => False)
  | _, _ => False
theorem ro_I {g : Int → Int → Int} : RO K (rI0 fun i j => .int (g i j)) (dI g) := by
  intro G H x y d1 d2 Q R e r1 r2 h k
  cases d1 <;> cases d2 <;> first
    | exact False.elim h
    | exact ⟨_, _, r1.int_of, r2.int_of, k _ _ G H h (Al.refl e) (.int _)⟩
theorem ro_IC {C : Int → Int → Prop} {g : Int → Int → Int} : RO K (rI C fun i j => .int (g i j)) (dIC C g) := by
  intro G H x y d1 d2 Q R e r1 r2 h k
  cases d1 <;> cases d2 <;> first
    | exact False.elim h
    | exact ⟨_, _, r1.int_of, r2.int_of, h.1, k _ _ G H h.2 (Al.refl e) (.int _)⟩
theorem ro_B {g : Int → Int → Bool} : RO K (rI0 fun i j => .bl (g i j)) (dB g) := by
  intro G H x y d1 d2 Q R e r1 r2 h k
  cases d1 <;> cases d2 <;> first
    | exact False.elim h
    | exact ⟨_, _, r1.int_of, r2.int_of, k _ _ G H h (Al.refl e) (.bl _)⟩
theorem ro_S {g : Str → Str → Bool} : RO K (fun x y H Q => ∃ i j, x = .str i ∧ y = .str j ∧ Q (.bl (g i j)) H) (dS g) := by
  intro G H x y d1 d2 Q R e r1 r2 h k
  cases d1 <;> cases d2 <;> first
    | exact False.elim h
    | exact ⟨_, _, r1.str_of, r2.str_of, k _ _ G H h (Al.refl e) (.bl _)⟩
theorem ro_cat : RO K rCat dCat := by
  intro G H x y d1 d2 Q R e r1 r2 h k
  cases d1 <;> cases d2 <;> first
    | exact False.elim h
    | skip
  obtain ⟨a, xs, rfl, h1, q1⟩ := r1.lst_of
  obtain ⟨b, ys, rfl, h2, q2⟩ := r2.lst_of
  refine ⟨a, b, xs, ys, rfl, rfl, e _ _ h1, e _ _ h2, by rw [q1.len, q2.len]; exact h.1, fun p hp => ?_⟩
  have A := Al.new (o := .lst (xs ++ ys)) e hp
  exact k _ _ _ _ h.2 A (.lst upd_same ((q1.app q2).up A.g))
theorem ro_addS : RO K (fun x y H Q => ∃ i j, x = .str i ∧ y = .str j ∧ i.length + j.length ≤ sizeLine ∧ Q (.str (i ++ j)) H) dAddS := by
  intro G H x y d1 d2 Q R e r1 r2 h k
  cases d1 <;> cases d2 <;> first
    | exact False.elim h
    | exact ⟨_, _, r1.str_of, r2.str_of, h.1, k _ _ G H h.2 (Al.refl e) (.str _)⟩
def rMulS : R2 := fun x y H Q => ∃ z i, x = .str z ∧ y = .int i ∧ (-(2 ^ 63 : Int) ≤ i ∧ i ≤ 20000 ∧ z.length ≤ 800) ∧ Q (.str (Txt.mul z i)) H
theorem ro_mulS : RO K rMulS dMulS := by
  intro G H x y d1 d2 Q R e r1 r2 h k
  cases d1 <;> cases d2 <;> first
    | exact False.elim h
    | exact ⟨_, _, r1.str_of, r2.int_of, h.1, k _ _ G H h.2 (Al.refl e) (.str _)⟩
theorem ro_eq : RO K (rEqD K) dEq := by
  intro G H x y d1 d2 Q R e r1 r2 h k
  exact ⟨d1, d2, (r1.up e).dp _ _ (SeqAt.canLay_of_shaped h.1), (r2.up e).dp _ _ (SeqAt.canLay_of_shaped h.2.1), h.1, h.2.1, k _ _ G H h.2.2 (Al.refl e) (.bl _)⟩
theorem ro_ne : RO K (rNeD K) dNe := by
  intro G H x y d1 d2 Q R e r1 r2 h k
  exact ⟨d1, d2, (r1.up e).dp _ _ (SeqAt.canLay_of_shaped h.1), (r2.up e).dp _ _ (SeqAt.canLay_of_shaped h.2.1), h.1, h.2.1, k _ _ G H h.2.2 (Al.refl e) (.bl _)⟩
theorem ro_in : RO K (rInD K) dIn := by
  intro G H x y d1 d2 Q R e r1 r2 h k
  cases d2 <;> first
    | exact False.elim h
    | exact ⟨d1, _, (r1.up e).dp _ _ (SeqAt.canLay_of_shaped h.1), (r2.up e).dp _ _ (SeqAt.canLay_of_shaped h.2.1), h.1, h.2.1, k _ _ G H h.2.2 (Al.refl e) (.bl _)⟩
theorem ro_notIn : RO K (rNotInD K) dNotIn := by
  intro G H x y d1 d2 Q R e r1 r2 h k
  cases d2 <;> first
    | exact False.elim h
    | exact ⟨d1, _, (r1.up e).dp _ _ (SeqAt.canLay_of_shaped h.1), (r2.up e).dp _ _ (SeqAt.canLay_of_shaped h.2.1), h.1, h.2.1, k _ _ G H h.2.2 (Al.refl e) (.bl _)⟩
theorem at_rp {G : Hp} {xs : List V} {ds : List PyData} (r : RpAll K G xs ds) {i : Int} {d : PyData} (h : atI ds i = some d) : ∃ v, atI xs i = some v ∧ Rp K G v d := by
  unfold atI at h ⊢
  rw [r.len]
  cases q : ixN ds.length i with
  | none =>
    rw [q] at h
    cases h
  | some j =>
    rw [q] at h
    exact r.get h
theorem ro_ixL : RO K (rIxL K) dIxL := by
  intro G H x y d1 d2 Q R e r1 r2 h k
  cases d1 <;> cases d2 <;> first
    | exact False.elim h
    | skip
  rename_i ds i
  obtain ⟨a, xs, rfl, h1, q1⟩ := r1.lst_of
  have h : (match atI ds i with
    | some d => R d
    | none => False) := h
  cases q : atI ds i with
  | none =>
    rw [q] at h
    exact h.elim
  | some d =>
    rw [q] at h
    obtain ⟨v, hv, rv⟩ := at_rp q1 q
    exact ⟨a, xs, i, v, rfl, r2.int_of, .inl (.inl (e _ _ h1)), hv, k d v G H h (Al.refl e) rv⟩
theorem ro_ixT : RO K (rIxT K) dIxT := by
  intro G H x y d1 d2 Q R e r1 r2 h k
  cases d1 <;> cases d2 <;> first
    | exact False.elim h
    | skip
  rename_i ds i
  obtain ⟨a, xs, rfl, h1, q1⟩ := r1.tup_of
  have h : (match atI ds i with
    | some d => R d
    | none => False) := h
  cases q : atI ds i with
  | none =>
    rw [q] at h
    exact h.elim
  | some d =>
    rw [q] at h
    obtain ⟨v, hv, rv⟩ := at_rp q1 q
    exact ⟨a, xs, i, v, rfl, r2.int_of, .inl (.inl (e _ _ h1)), hv, k d v G H h (Al.refl e) rv⟩
theorem ro_ixS : RO K rIxS dIxS := by
  intro G H x y d1 d2 Q R e r1 r2 h k
  cases d1 <;> cases d2 <;> first
    | exact False.elim h
    | skip
  rename_i z i
  obtain ⟨hz, h⟩ := h
  have h : (match atI z.cps.toList i with
    | some c => R (.str ⟨#[c]⟩)
    | none => False) := h
  cases q : atI z.cps.toList i with
  | none =>
    rw [q] at h
    exact h.elim
  | some c =>
    rw [q] at h
    exact ⟨z, i, c, r1.str_of, r2.int_of, hz, q, k _ _ G H h (Al.refl e) (.str _)⟩

/-! ### slices -/
abbrev R3D := PyData → Option Int → Option Int → (PyData → Prop) → Prop
def RSl (K : PySem.W.Frag) (r : V → Option Int → Option Int → Hp → VK → Prop) (rd : R3D) : Prop := ∀ (G H : Hp) (x : V) (d : PyData) (lo hi : Option Int) (Q : VK) (R : PyData → Prop), Ex G H → Rp K G x d → rd d lo hi R →
  (∀ d v G' H', R d → Al G H G' H' → Rp K G' v d → Q v H') → r x lo hi H Q
def dSl (rd : R3D) (u : DTE) (ul uh : DTO) : DTE := fun δ R => u δ fun d δ1 => ul δ1 fun lo δ2 => uh δ2 fun hi δ3 => rd d lo hi fun d' => R d' δ3
theorem re_sl {r : V → Option Int → Option Int → Hp → VK → Prop} {rd : R3D} {tl th : TO} {ul uh : DTO} (ha : RE K ta ua) (hl : ROp K tl ul) (hh : ROp K th uh) (hr : RSl K r rd) : RE K (tSl r ta tl th) (dSl rd ua ul uh) := by
  intro c σ G H δ Q R E h k
  refine ha c σ G H δ _ _ E h fun d1 δ1 v1 G1 H1 h1 E1 e1 r1 => ?_
  refine hl c σ G1 H1 δ1 _ _ E1 h1 fun lo δ2 G2 H2 h2 E2 e2 => ?_
  refine hh c σ G2 H2 δ2 _ _ E2 h2 fun hi δ3 G3 H3 h3 E3 e3 => ?_
  refine hr G3 H3 v1 d1 lo hi _ _ E3.ex ((r1.up e2).up e3) h3 fun d v G4 H4 h4 A r4 => ?_
  exact k d δ3 v G4 H4 h4 (E3.al A) (((e1.trans e2).trans e3).trans A.g) r4
def cutP (ds : List PyData) (lo hi : Option Int) : List PyData := (ds.drop (HT.sIx ds.length 0 lo)).take (HT.sIx ds.length ds.length hi - HT.sIx ds.length 0 lo)
theorem cut_rp {G : Hp} {xs : List V} {ds : List PyData} (r : RpAll K G xs ds) (lo hi : Option Int) : RpAll K G (cutV xs lo hi) (cutP ds lo hi) := by
  unfold cutV cutP
  rw [r.len]
  exact (r.drop _).take _
def dSlL : R3D := fun d lo hi R => match d with
  | .list ds => R (.list (cutP ds lo hi))
  | _ => False
def dSlS : R3D := fun d lo hi R => match d with
  | .str z => z.length ≤ sizeLine ∧ R (.str (cutS z lo hi))
  | _ => False
def dSlT : R3D := fun d lo hi R => match d with
  | .tuple ds => ¬ (HT.sIx ds.length 0 lo = 0 ∧ HT.sIx ds.length ds.length hi = ds.length) ∧ R (.tuple (cutP ds lo hi))
  | _ => False
theorem rsl_list : RSl K (rSlL K) dSlL := by
  intro G H x d lo hi Q R e r h k
  cases d <;> first
    | exact False.elim h
    | skip
  obtain ⟨a, xs, rfl, h1, q1⟩ := r.lst_of
  refine ⟨a, xs, rfl, .inl (.inl (e _ _ h1)), fun p hp => ?_⟩
  have A := Al.new (o := .lst (cutV xs lo hi)) e hp
  exact k _ _ _ _ h A (.lst upd_same ((cut_rp q1 lo hi).up A.g))
theorem rsl_tup : RSl K (rSlT K) dSlT := by
  intro G H x d lo hi Q R e r h k
  cases d <;> first
    | exact False.elim h
    | skip
  obtain ⟨a, xs, rfl, h1, q1⟩ := r.tup_of
  refine ⟨a, xs, rfl, .inl (.inl (e _ _ h1)), by rw [q1.len]; exact h.1, fun p hp => ?_⟩
  have A := Al.new (o := .tup (cutV xs lo hi)) e hp
  exact k _ _ _ _ h.2 A (.tup upd_same ((cut_rp q1 lo hi).up A.g))
theorem rsl_str : RSl K rSlS dSlS := by
  intro G H x d lo hi Q R e r h k
  cases d <;> first
    | exact False.elim h
    | exact ⟨_, r.str_of, h.1, k _ _ G H h.2 (Al.refl e) (.str _)⟩
/-- a slice of what was handed in -/
def dSlScr (i : Nat) (ul uh : DTO) : DTE := fun δ R => match δ[i]? with
  | some (.scr ds) => ul δ fun lo δ2 => uh δ2 fun hi δ3 => R (.list (cutP ds lo hi)) δ3
  | _ => False
theorem re_slScr {i : Nat} {tl th : TO} {ul uh : DTO} (hl : ROp K tl ul) (hh : ROp K th uh) : RE K (tSl (rSlL K) (tVar i) tl th) (dSlScr i ul uh) := by
  intro c σ G H δ Q R E h k
  have h : (match δ[i]? with
    | some (.scr ds) => ul δ fun lo δ2 => uh δ2 fun hi δ3 => R (.list (cutP ds lo hi)) δ3
    | _ => False) := h
  cases hs : δ[i]? with
  | none =>
    rw [hs] at h
    exact h.elim
  | some s =>
    rw [hs] at h
    have z := E.sl i s hs
    cases s with
    | no => exact h.elim
    | dat d => exact h.elim
    | own t ds => exact h.elim
    | scr ds =>
      obtain ⟨a, xs, e, sq, r⟩ := z
      refine ⟨.ref a, e, ?_⟩
      refine hl c σ G H δ _ _ E h fun lo δ2 G2 H2 h2 E2 e2 => ?_
      refine hh c σ G2 H2 δ2 _ _ E2 h2 fun hi δ3 G3 H3 h3 E3 e3 => ?_
      refine ⟨a, xs, rfl, ex_l E3.ex (ex_l e3 (ex_l e2 sq)), fun p hp => ?_⟩
      have A := Al.new (o := .lst (cutV xs lo hi)) E3.ex hp
      exact k _ _ _ _ _ h3 (E3.al A) ((e2.trans e3).trans A.g) (.lst upd_same ((cut_rp r lo hi).up ((e2.trans e3).trans A.g)))
end

section
variable {X : Cx} {a b c e : Expr} {es : List Expr} {ta tb tc te : TE} {ua ub uc ue : DTE} {pos p p2 : Pos} {t t' : TT} {u u' : DTT} {tr : TA} {ur : DTA}
theorem de_var (i : Nat) {x : Str} (hN : X.N[i]? = some x := by rfl) (hv : Vis X.env.scope x := by first | exact Or.inl rfl | exact Or.inr (Or.inl rfl) | exact Or.inr (Or.inr rfl)) (hd : (x == ("__debug__" : Str)) = false := by decide)
    (hcd : (x == ("__classdict__" : Str)) = false := by decide) : DE X (.Name x pos) (tVar i) (dVar i) := ⟨pe_var hN hv hd hcd, re_var⟩
theorem de_int {i j} : DE X (.Constant (.int i) j pos) (tC (.int i)) (dC (.int i)) := ⟨pe_int, re_c fun _ => .int i⟩
theorem de_bl {k j} : DE X (.Constant (.bool k) j pos) (tC (.bl k)) (dC (.bool k)) := ⟨pe_bl, re_c fun _ => .bl k⟩
theorem de_non {j} : DE X (.Constant .none j pos) (tC .non) (dC .none) := ⟨pe_non, re_c fun _ => .non⟩
theorem de_str {x j} : DE X (.Constant (.str x) j pos) (tC (.str x)) (dC (.str x)) := ⟨pe_str, re_c fun _ => .str x⟩
/-- a constant of the module -/
theorem de_gint {x : Str} {i : Int} (hg : Gl X x) (h : ∃ tk, X.mg x = some (.int i tk)) (hd : (x == ("__debug__" : Str)) = false := by decide) : DE X (.Name x pos) (tC (.int i)) (dC (.int i)) := by
  obtain ⟨tk, h⟩ := h
  exact ⟨pe_glob hg h ⟨_, rfl⟩ hd, re_c fun _ => .int i⟩
theorem de_op {op : Operator} {r : R2} {rd : R2D} (ho : OpR X (binaryOp op) r) (hr : RO X.K r rd) (ha : DE X a ta ua) (hb : DE X b tb ub) : DE X (.BinOp a op b pos) (tOp r ta tb) (dOp rd ua ub) := ⟨pe_op ho ha.pe hb.pe, re_op ha.re hb.re hr⟩
theorem de_cmp {op : CmpOp} {r : R2} {rd : R2D} (ho : OpR X (compareOp op) r) (hr : RO X.K r rd) (hm : behindInMarks op b = false) (ha : DE X a ta ua) (hb : DE X b tb ub) : DE X (.Compare a [op] [b] pos) (tOp r ta tb) (dOp rd ua ub) := ⟨pe_cmpR ho ha.pe hb.pe hm, re_op ha.re hb.re hr⟩
theorem dt_cmp {op : CmpOp} {r : R2} {rd : R2D} (ho : OpR X (compareOp op) r) (hr : RO X.K r rd) (hm : behindInMarks op b = false) (ha : DE X a ta ua) (hb : DE X b tb ub) : DT X (.Compare a [op] [b] pos) (tTest (tOp r ta tb)) (dTest (dOp rd ua ub)) := ⟨pt_cmpR ho ha.pe hb.pe hm, rt_test (re_op ha.re hb.re hr)⟩
theorem dt_val (h : DE X e te ue) (he : ∀ whole, isTrue e X.env whole = (do let v ← whole; standAt e.pos; holding [v] (truthy v)) := by intro _; rfl) : DT X e (tTest te) (dTest ue) := ⟨pt_val h.pe he, rt_test h.re⟩
theorem dt_not (h : DT X a t u) : DT X (.UnaryOp .Not a pos) (tNot t) (dNot u) := ⟨pt_not h.pt, rt_not h.rt⟩
theorem dw_and1 (h : DT X a t u) : DW X (.BoolOp .And [a] pos) t u := ⟨pw_and1 h.pt, h.rt⟩
theorem dw_or1 (h : DT X a t u) : DW X (.BoolOp .Or [a] pos) t u := ⟨pw_or1 h.pt, h.rt⟩
theorem dw_and {rest : List Expr} (ha : DT X a t u) (hb : DW X (.BoolOp .And (b :: rest) pos) t' u') : DW X (.BoolOp .And (a :: b :: rest) pos) (tAnd t t') (dAnd u u') := ⟨pw_and ha.pt hb.pw, rt_and ha.rt hb.rt⟩
theorem dw_or {rest : List Expr} (ha : DT X a t u) (hb : DW X (.BoolOp .Or (b :: rest) pos) t' u') : DW X (.BoolOp .Or (a :: b :: rest) pos) (tOr t t') (dOr u u') := ⟨pw_or ha.pt hb.pw, rt_or ha.rt hb.rt⟩
theorem dt_w (h : DW X e t u) : DT X e t u := ⟨h.pw.pt, h.rt⟩
theorem de_one {op} (h : DE X a ta ua) : DE X (.BoolOp op [a] pos) ta ua := ⟨pe_one h.pe, h.re⟩
theorem de_and {rest : List Expr} (ha : DE X a ta ua) (hb : DE X (.BoolOp .And (b :: rest) pos) tb ub) : DE X (.BoolOp .And (a :: b :: rest) pos) (tAndV ta tb) (dAndV ua ub) := ⟨pe_and ha.pe hb.pe, re_and ha.re hb.re⟩
theorem de_or {rest : List Expr} (ha : DE X a ta ua) (hb : DE X (.BoolOp .Or (b :: rest) pos) tb ub) : DE X (.BoolOp .Or (a :: b :: rest) pos) (tOrV ta tb) (dOrV ua ub) := ⟨pe_or ha.pe hb.pe, re_or ha.re hb.re⟩
theorem de_not (ha : DE X a ta ua) : DE X (.UnaryOp .Not a pos) (tNotV ta) (dNotV ua) := ⟨pe_not ha.pe, re_not ha.re⟩
theorem de_if (hc : DT X c t u) (ha : DE X a ta ua) (hb : DE X b tb ub) : DE X (.IfExp c a b pos) (tIf t ta tb) (dIf u ua ub) := ⟨pe_ifExp hc.pt ha.pe hb.pe, re_if hc.rt ha.re hb.re⟩
theorem da_nil : DA X [] tNil dNil := ⟨pa_nil, ra_nil⟩
theorem da_cons (ha : DE X e te ue) (hr : DA X es tr ur) (hs : starEach (e :: es) X.env = (false, eval e X.env) :: starEach es X.env := by rfl) : DA X (e :: es) (tCons te tr) (dCons ue ur) := ⟨pa_cons ha.pe hr.pa hs, ra_cons ha.re hr.ra⟩
theorem de_tup {x1} (h : DA X es tr ur) : DE X (.Tuple es x1 pos) (tTup tr) (dTup ur) := ⟨pe_tup h.pa, re_tup h.ra⟩
theorem de_lst (h : DA X es tr ur) : DE X (.List es pos) (tLst tr) (dLst ur) := ⟨pe_lst h.pa, re_lst h.ra⟩
theorem do_none : DO X none tNoPart dNoPart := ⟨po_none, ro_none⟩
theorem do_some (h : DE X e te ue) : DO X (some e) (tPart te) (dPart ue) := ⟨po_some h.pe, ro_part h.re⟩
theorem de_ix {r : R2} {rd : R2D} (hi : IxR X r) (hr : RO X.K r rd) (ha : DE X a ta ua) (hb : DE X b tb ub) (hs : PlainIx b := by exact fun _ _ => rfl) : DE X (.Subscript a b pos) (tOp r ta tb) (dOp rd ua ub) := ⟨pe_ix hi ha.pe hb.pe hs, re_op ha.re hb.re hr⟩
theorem de_sl {r : V → Option Int → Option Int → Hp → VK → Prop} {rd : R3D} {lo hi : Option Expr} {tl th : TO} {ul uh : DTO} (hs : SlR X r) (hr : RSl X.K r rd) (he : DE X e te ue) (hl : DO X lo tl ul) (hh : DO X hi th uh) :
    DE X (.Subscript e (.Slice lo hi none p2) pos) (tSl r te tl th) (dSl rd ue ul uh) := ⟨pe_slice hs he.pe hl.po hh.po, re_sl he.re hl.ro hh.ro hr⟩
theorem de_slScr (i : Nat) {x : Str} {lo hi : Option Expr} {tl th : TO} {ul uh : DTO} (hl : DO X lo tl ul) (hh : DO X hi th uh) (hN : X.N[i]? = some x := by rfl) (hv : Vis X.env.scope x := by first | exact Or.inl rfl | exact Or.inr (Or.inl rfl) | exact Or.inr (Or.inr rfl)) (hd : (x == ("__debug__" : Str)) = false := by decide)
    (hcd : (x == ("__classdict__" : Str)) = false := by decide) :
    DE X (.Subscript (.Name x p) (.Slice lo hi none p2) pos) (tSl (rSlL X.K) (tVar i) tl th) (dSlScr i ul uh) := ⟨pe_slice sl_list (pe_var hN hv hd hcd) hl.po hh.po, re_slScr hl.ro hh.ro⟩
theorem op_mulS : OpR X (binaryOp .Mult) rMulS := by
  intro pins s σ H x y v u Q I rx ry h
  obtain ⟨z, i, rfl, rfl, ⟨h1, h2, h3⟩, q⟩ := h
  obtain ⟨t, rfl⟩ := rx
  obtain ⟨t', rfl⟩ := ry
  exact SB.mul (PyProof.Rows.mulOk_of 800 20000 h3 h2 h1 (by decide) (by decide)) fun t' k => ⟨.str _, H, I.tok k, ⟨t', rfl⟩, q⟩
/-- 'a' <= x <= 'z' and its like -/
def dChain (r r' : R2D) (ua ub uc : DTE) : DTE := fun δ R => ua δ fun d1 δ1 => ub δ1 fun d2 δ2 => r d1 d2 fun d => match d with
  | .bool k => if k = true then uc δ2 fun d3 δ3 => r' d2 d3 fun d' => R d' δ3 else R (.bool false) δ2
  | _ => False
end
end TL

set_option Elab.async false
set_option linter.all false
set_option maxRecDepth 100000
set_option maxHeartbeats 2000000
/-! TL3: statements, loops, comprehensions by data. -/
namespace TL
open PySem PySem.Spec L2

theorem EnvOk.new0 {K : PySem.W.Frag} {c : Cf} {G H : Hp} {σ : L2.St} {δ : List Sl} (E : EnvOk K c G H σ δ) {p : Addr} (hp : H p = none) : c.H0 p = none := by
  cases q : c.H0 p with
  | none => rfl
  | some o =>
    by_cases ht : ∃ j, j < c.n ∧ p = c.τ j
    · obtain ⟨j, hj, e⟩ := ht
      exact absurd (by rw [← e]; exact hp) (E.tg j hj).1
    · have z := E.fr p o q fun j hj e => ht ⟨j, hj, e⟩
      rw [hp] at z
      cases z

/-! ### what is left of expressions -/
section
variable {K : PySem.W.Frag} {ta tb tc : TE} {ua ub uc : DTE} {r r' : R2} {rd rd' : R2D}
theorem re_chain (ha : RE K ta ua) (hb : RE K tb ub) (hc : RE K tc uc) (hr : RO K r rd) (hr' : RO K r' rd') : RE K (tChain r r' ta tb tc) (dChain rd rd' ua ub uc) := by
  intro c σ G H δ Q R E h k
  refine ha c σ G H δ _ _ E h fun d1 δ1 v1 G1 H1 h1 E1 e1 r1 => ?_
  refine hb c σ G1 H1 δ1 _ _ E1 h1 fun d2 δ2 v2 G2 H2 h2 E2 e2 r2 => ?_
  refine hr G2 H2 v1 v2 d1 d2 _ _ E2.ex (r1.up e2) r2 h2 fun d v G3 H3 h3 A r3 => ?_
  cases d with
  | bool b =>
    refine ⟨b, r3.bl_of, ?_⟩
    cases b with
    | true =>
      refine hc c σ G3 H3 δ2 _ _ (E2.al A) h3 fun d3 δ3 v3 G4 H4 h4 E4 e4 r4 => ?_
      refine hr' G4 H4 v2 v3 d2 d3 _ _ E4.ex ((r2.up A.g).up e4) r4 h4 fun d v G5 H5 h5 A5 r5 => ?_
      exact k d δ3 v G5 H5 h5 (E4.al A5) ((((e1.trans e2).trans A.g).trans e4).trans A5.g) r5
    | false => exact k _ δ2 _ G3 H3 h3 (E2.al A) ((e1.trans e2).trans A.g) (.bl false)
  | _ => exact False.elim h3
/-- a list that stands in a slot, one that is being made too -/
def slL : Option Sl → Option (List PyData)
  | some (.own _ ds) => some ds
  | some (.dat (.list ds)) => some ds
  | _ => none
theorem slL_ok {c : Cf} {G H : Hp} {σ : L2.St} {δ : List Sl} (E : EnvOk K c G H σ δ) {i : Nat} {ds : List PyData} (h : slL δ[i]? = some ds) : ∃ p xs, σ[i]? = some (some (.ref p)) ∧ H p = some (.lst xs) ∧ RpAll K G xs ds := by
  cases hs : δ[i]? with
  | none =>
    rw [hs] at h
    cases h
  | some s =>
    rw [hs] at h
    have z := E.sl i s hs
    cases s with
    | no => cases h
    | scr es => cases h
    | own t es =>
      have e := Option.some.inj h
      subst e
      obtain ⟨p, xs, e, _, hh, r, _⟩ := z
      exact ⟨p, xs, e, hh, r⟩
    | dat x =>
      cases x <;> first
        | cases h
        | skip
      obtain ⟨x, e, rx⟩ := z
      obtain ⟨a, xs, rfl, q1, q2⟩ := rx.lst_of
      exact ⟨a, xs, e, E.ex _ _ q1, q2⟩
/-- an item of a list by its name -/
def dIxV (i : Nat) (ub : DTE) : DTE := fun δ R => (slL δ[i]?).isSome = true ∧ ub δ fun d δ1 => match slL δ1[i]?, d with
  | some ds, .int k => (match atI ds k with
    | some x => R x δ1
    | none => False)
  | _, _ => False
theorem re_ixV {i : Nat} (hb : RE K tb ub) : RE K (tOp (rIxL K) (tVar i) tb) (dIxV i ub) := by
  intro c σ G H δ Q R E h k
  obtain ⟨h0, h⟩ := h
  obtain ⟨ds0, h0⟩ := Option.isSome_iff_exists.mp h0
  obtain ⟨p, xs0, hv, _, _⟩ := slL_ok E h0
  refine ⟨.ref p, hv, ?_⟩
  refine hb c σ G H δ _ _ E h fun d δ1 y G1 H1 h1 E1 e1 r1 => ?_
  cases hs : slL δ1[i]? with
  | none =>
    rw [hs] at h1
    exact False.elim h1
  | some ds =>
    rw [hs] at h1
    cases d <;> first
      | exact False.elim h1
      | skip
    rename_i j
    have h1 : (match atI ds j with
      | some x => R x δ1
      | none => False) := h1
    obtain ⟨p', xs, hv', hh, rr⟩ := slL_ok E1 hs
    rw [hv] at hv'
    have ev := V.ref.inj (Option.some.inj (Option.some.inj hv'))
    subst ev
    cases q : atI ds j with
    | none =>
      rw [q] at h1
      exact h1.elim
    | some w =>
      rw [q] at h1
      obtain ⟨u, hu, ru⟩ := at_rp rr q
      exact ⟨p, xs, j, u, rfl, r1.int_of, .inl (.inl hh), hu, k w δ1 u G1 H1 h1 E1 e1 ru⟩
/-- how long something is -/
def dLen (u : DTE) : DTE := fun δ R => u δ fun d δ1 => match d with
  | .str x => x.length ≤ sizeLine ∧ R (.int (x.length : Int)) δ1
  | .list ds => R (.int (ds.length : Int)) δ1
  | .tuple ds => R (.int (ds.length : Int)) δ1
  | _ => False
def rLen (K : PySem.W.Frag) : List V → Hp → VK → Prop := fun xs H Q => ∃ x n, xs = [x] ∧ LenV K x H n ∧ Q (.int n) H
theorem re_len (ha : RE K ta ua) : RE K (tCB (rLen K) (tCons ta tNil)) (dLen ua) := by
  intro c σ G H δ Q R E h k
  refine ha c σ G H δ _ _ E h fun d δ1 v G1 H1 h1 E1 e1 r1 => ?_
  cases d <;> first
    | exact False.elim h1
    | skip
  · have e := r1.str_of
    subst e
    exact ⟨_, _, rfl, ⟨h1.1, rfl⟩, k _ δ1 _ G1 H1 h1.2 E1 e1 (.int _)⟩
  · obtain ⟨a, xs, rfl, q1, q2⟩ := r1.lst_of
    exact ⟨_, _, rfl, .inl ⟨xs, .inl (.inl (E1.ex _ _ q1)), rfl⟩, by rw [q2.len]; exact k _ δ1 _ G1 H1 h1 E1 e1 (.int _)⟩
  · obtain ⟨a, xs, rfl, q1, q2⟩ := r1.tup_of
    exact ⟨_, _, rfl, .inr ⟨xs, .inl (.inl (E1.ex _ _ q1)), rfl⟩, by rw [q2.len]; exact k _ δ1 _ G1 H1 h1 E1 e1 (.int _)⟩
/-- .. of a list, or of what was handed in, by its name -/
def dLenV (i : Nat) : DTE := fun δ R => match δ[i]? with
  | some (.own _ ds) => R (.int (ds.length : Int)) δ
  | some (.dat (.list ds)) => R (.int (ds.length : Int)) δ
  | some (.scr ds) => R (.int (ds.length : Int)) δ
  | _ => False
theorem re_lenV {i : Nat} : RE K (tCB (rLen K) (tCons (tVar i) tNil)) (dLenV i) := by
  intro c σ G H δ Q R E h k
  have fin : ∀ p xs (ds : List PyData), σ[i]? = some (some (.ref p)) → SqL K H p xs → RpAll K G xs ds → R (.int (ds.length : Int)) δ → tCB (rLen K) (tCons (tVar i) tNil) σ H Q := fun p xs ds e q r hr =>
    ⟨_, e, _, _, rfl, .inl ⟨xs, q, rfl⟩, by rw [r.len]; exact k _ δ _ G H hr E (Ex.refl _) (.int _)⟩
  cases hs : δ[i]? with
  | none =>
    unfold dLenV at h
    rw [hs] at h
    exact False.elim h
  | some s =>
    have z := E.sl i s hs
    unfold dLenV at h
    rw [hs] at h
    cases s with
    | no => exact False.elim h
    | scr ds =>
      obtain ⟨a, xs, e, q, r⟩ := z
      exact fin a xs ds e (ex_l E.ex q) r h
    | own t ds =>
      obtain ⟨p, xs, e, _, hh, r, _⟩ := z
      exact fin p xs ds e (.inl (.inl hh)) r h
    | dat d =>
      cases d <;> first
        | exact False.elim h
        | skip
      obtain ⟨x, e, rx⟩ := z
      obtain ⟨a, xs, rfl, q1, q2⟩ := rx.lst_of
      exact fin a xs _ e (.inl (.inl (E.ex _ _ q1))) q2 h
/-- isinstance with a built-in type -/
def tyD : PyData → String
  | .none => "NoneType"
  | .bool _ => "bool"
  | .int _ => "int"
  | .str _ => "str"
  | .list _ => "list"
  | .tuple _ => "tuple"
  | .dict _ => "dict"
def dIsi (T : String) (u : DTE) : DTE := fun δ R => u δ fun d δ1 => match kitB (tyD d) T with
  | some b => R (.bool b) δ1
  | none => False
theorem re_isi {T : String} (ha : RE K ta ua) : RE K (tCB (rIsi K) (tCons ta (tCons (tC (.ty T)) tNil))) (dIsi T ua) := by
  intro c σ G H δ Q R E h k
  refine ha c σ G H δ _ _ E h fun d δ1 v G1 H1 h1 E1 e1 r1 => ?_
  have h1 : (match kitB (tyD d) T with
    | some b => R (.bool b) δ1
    | none => False) := h1
  have ty : TyX K H1 v (.type (tyD d)) := by
    cases r1 with
    | non => exact .base .non
    | bl b => exact .base (.bl b)
    | int i => exact .base (.int i)
    | str x => exact .base (.str x)
    | lst q r => exact .base (.lst (E1.ex _ _ q))
    | tup q r => exact .base (.tup (E1.ex _ _ q))
    | dic q r => exact .base (.dK (E1.ex _ _ q))
  cases q : kitB (tyD d) T with
  | none =>
    rw [q] at h1
    exact h1.elim
  | some b =>
    rw [q] at h1
    exact ⟨v, .ty T, _, _, b, rfl, .ty T, ty, kit_ty q, k _ δ1 _ G1 H1 h1 E1 e1 (.bl b)⟩
/-- int(..) -/
def dInt1 (u : DTE) : DTE := fun δ R => u δ fun d δ1 => match d with
  | .int i => R (.int i) δ1
  | .bool b => R (.int (if b then 1 else 0)) δ1
  | _ => False
def rInt1 : List V → Hp → VK → Prop := fun xs H Q => (∃ i, xs = [.int i] ∧ Q (.int i) H) ∨ ∃ k, xs = [.bl k] ∧ Q (.int (if k then 1 else 0)) H
theorem re_int1 (ha : RE K ta ua) : RE K (tCB rInt1 (tCons ta tNil)) (dInt1 ua) := by
  intro c σ G H δ Q R E h k
  refine ha c σ G H δ _ _ E h fun d δ1 v G1 H1 h1 E1 e1 r1 => ?_
  cases d <;> first
    | exact False.elim h1
    | skip
  · have e := r1.bl_of
    subst e
    exact .inr ⟨_, rfl, k _ δ1 _ G1 H1 h1 E1 e1 (.int _)⟩
  · have e := r1.int_of
    subst e
    exact .inl ⟨_, rfl, k _ δ1 _ G1 H1 h1 E1 e1 (.int _)⟩
/-- a.join(list of texts) -/
def strsOf : List PyData → Option (List Str)
  | [] => some []
  | .str x :: r => (strsOf r).map (x :: ·)
  | _ :: _ => none
theorem strs_rp {G : Hp} : ∀ {ds : List PyData} {xs : List V} {ys : List Str}, RpAll K G xs ds → strsOf ds = some ys → xs = ys.map V.str
  | _, _, _, .nil, h => by
    cases h
    rfl
  | d :: ds, _, ys, .cons (v := v) (vs := vs) r rr, h => by
    cases d <;> first
      | (cases h; done)
      | skip
    rename_i x
    have h : (strsOf ds).map (x :: ·) = some ys := h
    cases q : strsOf ds with
    | none =>
      rw [q] at h
      cases h
    | some zs =>
      rw [q] at h
      cases h
      rw [strs_rp rr q, r.str_of]
      rfl
def dJoin (ua ub : DTE) : DTE := fun δ R => ua δ fun d1 δ1 => match d1 with
  | .str a => ub δ1 fun d2 δ2 => (match d2 with
    | .list ds => (match strsOf ds with
      | some ys => (ys.map (·.length)).sum + ys.length * a.length ≤ 16777216 ∧ R (.str (Txt.join a ys)) δ2
      | none => False)
    | _ => False)
  | _ => False
def rJoin (K : PySem.W.Frag) : V → List V → Hp → VK → Prop := fun x xs H Q => ∃ a p, ∃ ys : List Str, x = .str a ∧ xs = [.ref p] ∧ (SqL K H p (ys.map V.str) ∨ SqT K H p (ys.map V.str)) ∧
      (ys.map (·.length)).sum + ys.length * a.length ≤ 16777216 ∧ Q (.str (Txt.join a ys)) H
theorem re_join (ha : RE K ta ua) (hb : RE K tb ub) : RE K (tM1 (rJoin K) ta tb) (dJoin ua ub) := by
  intro c σ G H δ Q R E h k
  refine ha c σ G H δ _ _ E h fun d1 δ1 v1 G1 H1 h1 E1 e1 r1 => ?_
  have sv : ∃ a, d1 = .str a := by
    cases d1 <;> first
      | exact ⟨_, rfl⟩
      | exact False.elim h1
  obtain ⟨a, rfl⟩ := sv
  refine ⟨⟨a, r1.str_of⟩, ?_⟩
  refine hb c σ G1 H1 δ1 _ _ E1 h1 fun d2 δ2 v2 G2 H2 h2 E2 e2 r2 => ?_
  cases d2 <;> first
    | exact False.elim h2
    | skip
  rename_i ds
  have h2 : (match strsOf ds with
    | some ys => (ys.map (·.length)).sum + ys.length * a.length ≤ 16777216 ∧ R (.str (Txt.join a ys)) δ2
    | none => False) := h2
  obtain ⟨p, xs, rfl, q1, q2⟩ := r2.lst_of
  cases q : strsOf ds with
  | none =>
    rw [q] at h2
    exact h2.elim
  | some ys =>
    rw [q] at h2
    exact ⟨a, p, ys, r1.str_of, rfl, .inl (.inl (.inl (by rw [← strs_rp q2 q]; exact E2.ex _ _ q1))), h2.1, k _ δ2 _ G2 H2 h2.2 E2 (e1.trans e2) (.str _)⟩
end
end TL

set_option Elab.async false
set_option linter.all false
set_option maxRecDepth 100000
set_option maxHeartbeats 2000000
/-! TL4: statements, loops, comprehensions by data. -/
namespace TL
open PySem PySem.Spec L2

structure DEnds where
  nx : List Sl → Prop
  rt : PyData → List Sl → Prop
  bk : List Sl → Prop := fun _ => False
  ct : List Sl → Prop := fun _ => False
  rn : List PyData → List Sl → Prop := fun _ _ => False
abbrev DTS := DEnds → List Sl → Prop
structure EndsOk (K : PySem.W.Frag) (c : Cf) (G : Hp) (E : DEnds) (D : Ends) : Prop where
  nx : ∀ σ' G' H' δ', E.nx δ' → EnvOk K c G' H' σ' δ' → Ex G G' → D.nx σ' H'
  rt : ∀ d δ' v σ' G' H', E.rt d δ' → EnvOk K c G' H' σ' δ' → Ex G G' → Rp K G' v d → D.rt v H'
  bk : ∀ σ' G' H' δ', E.bk δ' → EnvOk K c G' H' σ' δ' → Ex G G' → D.bk σ' H'
  ct : ∀ σ' G' H' δ', E.ct δ' → EnvOk K c G' H' σ' δ' → Ex G G' → D.ct σ' H'
  rn : ∀ ds δ' p xs σ' G' H', E.rn ds δ' → EnvOk K { c with hid := (p, xs) :: c.hid } G' H' σ' δ' → (∀ zs, (p, zs) ∉ c.hid) → Ex G G' → RpAll K G' xs ds → D.rt (.ref p) H'
theorem EndsOk.up {K : PySem.W.Frag} {c : Cf} {G G1 : Hp} {E : DEnds} {D : Ends} (h : EndsOk K c G E D) (e : Ex G G1) : EndsOk K c G1 E D :=
  ⟨fun σ' G' H' δ' a b k => h.nx σ' G' H' δ' a b (e.trans k), fun d δ' v σ' G' H' a b k r => h.rt d δ' v σ' G' H' a b (e.trans k) r, fun σ' G' H' δ' a b k => h.bk σ' G' H' δ' a b (e.trans k), fun σ' G' H' δ' a b k => h.ct σ' G' H' δ' a b (e.trans k), fun ds δ' p xs σ' G' H' a b n k r => h.rn ds δ' p xs σ' G' H' a b n (e.trans k) r⟩
def RS (K : PySem.W.Frag) (t : TS) (u : DTS) : Prop := ∀ (c : Cf) (σ : L2.St) (G H : Hp) (δ : List Sl) (D : Ends) (E : DEnds), EnvOk K c G H σ δ → u E δ → EndsOk K c G E D → t D σ H
structure DS (X : Cx) (st : Stmt) (t : TS) (u : DTS) : Prop where
  ps : PS X st t
  rs : RS X.K t u
structure DSs (X : Cx) (st : List Stmt) (t : TS) (u : DTS) : Prop where
  ps : PSs X st t
  rs : RS X.K t u

/-! ### targets -/
abbrev DTG := PyData → List Sl → (List Sl → Prop) → Prop
abbrev DTGs := List PyData → List Sl → (List Sl → Prop) → Prop
/-- js: the slots that are stored to -/
def RG (K : PySem.W.Frag) (g : TG) (u : DTG) (js : List Nat) : Prop := ∀ (c : Cf) (σ : L2.St) (G H : Hp) (δ : List Sl) (v : V) (d : PyData) (Q : L2.St → Hp → Prop) (R : List Sl → Prop), EnvOk K c G H σ δ → Rp K G v d → u d δ R →
  (∀ σ' δ', R δ' → EnvOk K c G H σ' δ' → σ'.length = σ.length → (∀ i, i ∉ js → σ'[i]? = σ[i]?) → Q σ' H) → g v σ H Q
def RGs (K : PySem.W.Frag) (g : TGs) (u : DTGs) (js : List Nat) : Prop := ∀ (c : Cf) (σ : L2.St) (G H : Hp) (δ : List Sl) (vs : List V) (ds : List PyData) (Q : L2.St → Hp → Prop) (R : List Sl → Prop), EnvOk K c G H σ δ → RpAll K G vs ds → u ds δ R →
  (∀ σ' δ', R δ' → EnvOk K c G H σ' δ' → σ'.length = σ.length → (∀ i, i ∉ js → σ'[i]? = σ[i]?) → Q σ' H) → g vs σ H Q
structure DG (X : Cx) (e : Expr) (g : TG) (u : DTG) (js : List Nat) : Prop where
  pg : PG X e g
  rg : RG X.K g u js
structure DGs (X : Cx) (es : List Expr) (g : TGs) (u : DTGs) (js : List Nat) : Prop where
  pg : PGs X es g
  rg : RGs X.K g u js
def dgName (i : Nat) : DTG := fun d δ R => R (δ.set i (.dat d))
def dgNil : DTGs := fun ds δ R => match ds with
  | [] => R δ
  | _ => False
def dgCons (u : DTG) (us : DTGs) : DTGs := fun ds δ R => match ds with
  | d :: r => u d δ fun δ1 => us r δ1 R
  | [] => False
def dgTup (n : Nat) (us : DTGs) : DTG := fun d δ R => match d with
  | .tuple ds => ds.length = n ∧ us ds δ R
  | _ => False
section
variable {K : PySem.W.Frag}
theorem rg_name {i : Nat} : RG K (gName i) (dgName i) [i] := by
  intro c σ G H δ v d Q R E r h k
  refine k _ _ h (E.put r) List.length_set fun j hj => ?_
  rw [List.getElem?_set_ne]
  exact fun z => hj (by rw [z]; exact List.mem_singleton.mpr rfl)
theorem rgs_nil : RGs K gNil dgNil [] := by
  intro c σ G H δ vs ds Q R E r h k
  cases r with
  | nil => exact ⟨rfl, k σ δ h E rfl fun _ _ => rfl⟩
  | cons _ _ => exact False.elim h
theorem rgs_cons {g : TG} {u : DTG} {gs : TGs} {us : DTGs} {js js' : List Nat} (h1 : RG K g u js) (h2 : RGs K gs us js') : RGs K (gCons g gs) (dgCons u us) (js ++ js') := by
  intro c σ G H δ vs ds Q R E r h k
  cases r with
  | nil => exact False.elim h
  | cons r rr =>
    refine ⟨_, _, rfl, ?_⟩
    refine h1 c σ G H δ _ _ _ _ E r h fun σ1 δ1 q1 E1 l1 s1 => ?_
    refine h2 c σ1 G H δ1 _ _ _ _ E1 rr q1 fun σ2 δ2 q2 E2 l2 s2 => ?_
    exact k σ2 δ2 q2 E2 (l2.trans l1) fun i hi => (s2 i fun z => hi (List.mem_append_right _ z)).trans (s1 i fun z => hi (List.mem_append_left _ z))
theorem rg_tup {n : Nat} {gs : TGs} {us : DTGs} {js : List Nat} (h1 : RGs K gs us js) : RG K (gTup K n gs) (dgTup n us) js := by
  intro c σ G H δ v d Q R E r h k
  cases d <;> first
    | exact False.elim h
    | skip
  obtain ⟨a, xs, rfl, q1, q2⟩ := r.tup_of
  exact ⟨a, xs, rfl, .inl (.inl (E.ex _ _ q1)), by rw [q2.len]; exact h.1, h1 c σ G H δ xs _ Q R E q2 h.2 k⟩
end

/-! ### statements -/
def dNext : DTS := fun E δ => E.nx δ
def dSeq (u u' : DTS) : DTS := fun E δ => u { E with nx := u' E } δ
def dBreak : DTS := fun E δ => E.bk δ
def dCont : DTS := fun E δ => E.ct δ
def dDrop (u : DTE) : DTS := fun E δ => u δ fun _ δ1 => E.nx δ1
def dRet (u : DTE) : DTS := fun E δ => u δ E.rt
/-- return [..], a list that the asker may change -/
def dRetNew (u : DTA) : DTS := fun E δ => u δ fun ds δ1 => ds.length ≤ sizeLine ∧ E.rn ds δ1
def dRetN : DTS := fun E δ => E.rt .none δ
def dIfS (t : DTT) (u u' : DTS) : DTS := fun E δ => t δ fun b δ1 => if b = true then u E δ1 else u' E δ1
def dAsg (u : DTE) (g : DTG) : DTS := fun E δ => u δ fun d δ1 => g d δ1 E.nx
/-- name op= e, of iotaD -/
def dAug (f : Int → Int → Int) (i : Nat) (u : DTE) : DTS := fun E δ => match δ[i]? with
  | some (.dat (.int a)) => u δ fun d δ1 => (match d with
    | .int b => E.nx (δ1.set i (.dat (.int (f a b))))
    | _ => False)
  | _ => False
/-- xs[i] = e, xs a name -/
def dSetI (i : Nat) (u ui : DTE) : DTS := fun E δ => u δ fun d δ1 => (slL δ1[i]?).isSome = true ∧ ui δ1 fun di δ2 => match δ2[i]?, di with
  | some (.own t ds), .int k => (match ixN ds.length k with
    | some j => E.nx (δ2.set i (.own t (ds.set j d)))
    | none => False)
  | _, _ => False
/-- xs.append(e), xs a name -/
def dApp (i : Nat) (u : DTE) : DTS := fun E δ => (slL δ[i]?).isSome = true ∧ u δ fun d δ1 => match δ1[i]? with
  | some (.own t ds) => ds.length < sizeLine ∧ E.nx (δ1.set i (.own t (ds ++ [d])))
  | _ => False
/-- xs = [..], a list that is to change -/
def dAsgOwn (i : Nat) (u : DTA) : DTS := fun E δ => u δ fun ds δ1 => ds.length ≤ sizeLine ∧ E.nx (δ1.set i (.own none ds))
section
variable {K : PySem.W.Frag} {te tb : TE} {ue ub : DTE} {t t' : TS} {u u' : DTS} {g : TG} {ug : DTG} {js : List Nat}
theorem rs_next : RS K tNext dNext := fun c σ G H δ D E EV h k => k.nx σ G H δ h EV (Ex.refl _)
theorem rs_break : RS K tBreak dBreak := fun c σ G H δ D E EV h k => k.bk σ G H δ h EV (Ex.refl _)
theorem rs_cont : RS K tCont dCont := fun c σ G H δ D E EV h k => k.ct σ G H δ h EV (Ex.refl _)
theorem rs_seq (h1 : RS K t u) (h2 : RS K t' u') : RS K (tSeq t t') (dSeq u u') := by
  intro c σ G H δ D E EV h k
  refine h1 c σ G H δ { D with nx := t' D } { E with nx := u' E } EV h ⟨fun σ' G' H' δ' a b e => ?_, k.rt, k.bk, k.ct, k.rn⟩
  exact h2 c σ' G' H' δ' D E b a (k.up e)
theorem rs_drop (ha : RE K te ue) : RS K (tDrop te) (dDrop ue) := by
  intro c σ G H δ D E EV h k
  exact ha c σ G H δ _ _ EV h fun d δ1 v G1 H1 h1 E1 e1 _ => k.nx σ G1 H1 δ1 h1 E1 e1
theorem rs_ret (ha : RE K te ue) : RS K (tRet te) (dRet ue) := by
  intro c σ G H δ D E EV h k
  exact ha c σ G H δ _ _ EV h fun d δ1 v G1 H1 h1 E1 e1 r => k.rt d δ1 v σ G1 H1 h1 E1 e1 r
theorem rs_retNew {ta : TA} {ua : DTA} (ha : RA K ta ua) : RS K (tRet (tLst ta)) (dRetNew ua) := by
  intro c σ G H δ D E EV h k
  refine ha c σ G H δ _ _ EV h fun ds δ1 vs G1 H1 h1 E1 e1 r => ?_
  refine ⟨by rw [r.len]; exact h1.1, fun p hp => ?_⟩
  refine k.rn ds δ1 p vs σ G1 _ h1.2 (E1.hide hp (E1.new0 hp)) (fun zs z => ?_) e1 r
  have q := (E1.hd p zs z).1
  rw [hp] at q
  cases q
theorem rs_retN : RS K tRetN dRetN := fun c σ G H δ D E EV h k => k.rt .none δ .non σ G H h EV (Ex.refl _) .non
theorem rs_if {tc : TT} {uc : DTT} (hc : RT K tc uc) (h1 : RS K t u) (h2 : RS K t' u') : RS K (tIfS tc t t') (dIfS uc u u') := by
  intro c σ G H δ D E EV h k
  refine hc c σ G H δ _ _ EV h fun b δ1 G1 H1 q E1 e1 => ?_
  cases b with
  | true => exact h1 c σ G1 H1 δ1 D E E1 q (k.up e1)
  | false => exact h2 c σ G1 H1 δ1 D E E1 q (k.up e1)
theorem rs_asg (ha : RE K te ue) (hg : RG K g ug js) : RS K (tAsg te g) (dAsg ue ug) := by
  intro c σ G H δ D E EV h k
  refine ha c σ G H δ _ _ EV h fun d δ1 v G1 H1 h1 E1 e1 r => ?_
  exact hg c σ G1 H1 δ1 v d _ _ E1 r h1 fun σ' δ' q E2 _ _ => k.nx σ' G1 H1 δ' q E2 e1
theorem rs_aug {f : Int → Int → Int} {i : Nat} (ha : RE K te ue) : RS K (tAug i te (ipI f)) (dAug f i ue) := by
  intro c σ G H δ D E EV h k
  unfold dAug at h
  cases hs : δ[i]? with
  | none =>
    rw [hs] at h
    exact False.elim h
  | some s =>
    rw [hs] at h
    have z := EV.sl i s hs
    cases s <;> first
      | exact False.elim h
      | skip
    rename_i d0
    cases d0 <;> first
      | exact False.elim h
      | skip
    rename_i a
    obtain ⟨x, e, rx⟩ := z
    have ex := rx.int_of
    subst ex
    refine ⟨_, e, ?_⟩
    refine ha c σ G H δ _ _ EV h fun d δ1 v G1 H1 h1 E1 e1 r => ?_
    cases d <;> first
      | exact False.elim h1
      | skip
    rename_i b
    exact ⟨a, b, rfl, r.int_of, k.nx _ G1 H1 _ h1 (E1.put (.int _)) e1⟩
theorem rs_setI {i : Nat} (ha : RE K te ue) (hi : RE K tb ub) : RS K (tAsg te (gSub (tVar i) tb rSetL)) (dSetI i ue ub) := by
  intro c σ G H δ D E EV h k
  refine ha c σ G H δ _ _ EV h fun d δ1 v G1 H1 h1 E1 e1 r => ?_
  obtain ⟨hsome, h1⟩ := h1
  obtain ⟨ds0, h0⟩ := Option.isSome_iff_exists.mp hsome
  obtain ⟨p, xs0, hv, _, _⟩ := slL_ok E1 h0
  refine ⟨.ref p, hv, ?_⟩
  refine hi c σ G1 H1 δ1 _ _ E1 h1 fun di δ2 y G2 H2 h2 E2 e2 r2 => ?_
  cases hs : δ2[i]? with
  | none =>
    rw [hs] at h2
    exact False.elim h2
  | some s =>
    rw [hs] at h2
    cases s <;> first
      | exact False.elim h2
      | skip
    rename_i tg ds
    cases di <;> first
      | exact False.elim h2
      | skip
    rename_i kk
    have h2 : (match ixN ds.length kk with
      | some j => E.nx (δ2.set i (.own tg (ds.set j d)))
      | none => False) := h2
    obtain ⟨p', xs, e, hg, hh, rr, q⟩ := E2.sl i _ hs
    have e' := e
    rw [hv] at e'
    have ev := V.ref.inj (Option.some.inj (Option.some.inj e'))
    subst ev
    cases q : ixN ds.length kk with
    | none =>
      rw [q] at h2
      exact h2.elim
    | some j =>
      rw [q] at h2
      refine ⟨p, xs, kk, j, rfl, r2.int_of, hh, by rw [rr.len]; exact q, ?_⟩
      exact k.nx σ G2 _ _ h2 (E2.poke hs hv (RpAll.set (r.up e2) j rr)) (e1.trans e2)
theorem rs_app {i : Nat} (ha : RE K te ue) : RS K (tDrop (tBM K "list" rAppend (tVar i) (tCons te tNil))) (dApp i ue) := by
  intro c σ G H δ D E EV h k
  obtain ⟨hsome, h⟩ := h
  obtain ⟨ds0, h0⟩ := Option.isSome_iff_exists.mp hsome
  obtain ⟨p, xs0, hv, hh0, _⟩ := slL_ok EV h0
  refine ⟨.ref p, hv, .inl ⟨rfl, _, .inl (.inl hh0)⟩, ?_⟩
  refine ha c σ G H δ _ _ EV h fun d δ1 v G1 H1 h1 E1 e1 r => ?_
  cases hs : δ1[i]? with
  | none =>
    rw [hs] at h1
    exact False.elim h1
  | some s =>
    rw [hs] at h1
    cases s <;> first
      | exact False.elim h1
      | skip
    rename_i tg ds
    obtain ⟨p', xs, e, hg, hh, rr, q⟩ := E1.sl i _ hs
    have e' := e
    rw [hv] at e'
    have ev := V.ref.inj (Option.some.inj (Option.some.inj e'))
    subst ev
    refine ⟨p, xs, v, rfl, rfl, hh, by rw [rr.len]; exact h1.1, ?_⟩
    exact k.nx σ G1 _ _ h1.2 (E1.poke hs hv (rr.app (.one r))) e1
theorem rs_asgOwn {i : Nat} {ta : TA} {ua : DTA} (ha : RA K ta ua) : RS K (tAsg (tLst ta) (gName i)) (dAsgOwn i ua) := by
  intro c σ G H δ D E EV h k
  refine ha c σ G H δ _ _ EV h fun ds δ1 vs G1 H1 h1 E1 e1 r => ?_
  refine ⟨by rw [r.len]; exact h1.1, fun p hp => ?_⟩
  exact k.nx _ G1 _ _ h1.2 (E1.fresh hp (E1.new0 hp) r) e1
end

/-! ### what is walked -/
structure Yields (K : PySem.W.Frag) (G : Hp) (J : It) (ds : List PyData) : Prop where
  stop : ∀ G1 H1, Ex G G1 → Ex G1 H1 → J.stop ds.length H1
  go : ∀ G1 H1 i d, Ex G G1 → Ex G1 H1 → ds[i]? = some d → J.go i H1 ∧ ∀ x H2, J.yld i H1 x H2 → ∃ G2, Al G1 H1 G2 H2 ∧ Rp K G2 x d
abbrev DTI := List Sl → (List PyData → List Sl → Prop) → Prop
def RI (K : PySem.W.Frag) (w : TI) (u : DTI) : Prop := ∀ (c : Cf) (σ : L2.St) (G H : Hp) (δ : List Sl) (Q : It → Hp → Prop) (R : List PyData → List Sl → Prop), EnvOk K c G H σ δ → u δ R →
  (∀ ds δ' J G' H', R ds δ' → EnvOk K c G' H' σ δ' → Ex G G' → Yields K G' J ds → Q J H') → w σ H Q
structure DI (X : Cx) (tg iter : Expr) (w : TI) (u : DTI) : Prop where
  pi : PI X tg iter w
  ri : RI X.K w u
def diL (u : DTE) : DTI := fun δ R => u δ fun d δ1 => match d with
  | .list ds => R ds δ1
  | _ => False
def diT (u : DTE) : DTI := fun δ R => u δ fun d δ1 => match d with
  | .tuple ds => R ds δ1
  | _ => False
def diS (u : DTE) : DTI := fun δ R => u δ fun d δ1 => match d with
  | .str x => R (x.cps.toList.map fun c => .str ⟨#[c]⟩) δ1
  | _ => False
def iotaD (lo : Int) (n : Nat) : List PyData := (List.range n).map fun (i : Nat) => PyData.int (lo + (i : Int))
def diR1 (u : DTE) : DTI := fun δ R => u δ fun d δ1 => match d with
  | .int n => (-(2 ^ 62) ≤ n ∧ n < 2 ^ 62) ∧ R (iotaD 0 n.toNat) δ1
  | _ => False
def diR2 (u u' : DTE) : DTI := fun δ R => u δ fun d δ1 => u' δ1 fun d' δ2 => match d, d' with
  | .int m, .int n => (-(2 ^ 62) ≤ m ∧ m < 2 ^ 62 ∧ -(2 ^ 62) ≤ n ∧ n < 2 ^ 62) ∧ R (iotaD m (n - m).toNat) δ2
  | _, _ => False
section
variable {K : PySem.W.Frag} {te tb : TE} {ue ub : DTE}
theorem ri_list (ha : RE K te ue) : RI K (iList K te) (diL ue) := by
  intro c σ G H δ Q R E h k
  refine ha c σ G H δ _ _ E h fun d δ1 v G1 H1 h1 E1 e1 r => ?_
  cases d <;> first
    | exact False.elim h1
    | skip
  rename_i ds
  obtain ⟨a, xs, rfl, q1, q2⟩ := r.lst_of
  refine ⟨a, rfl, ⟨xs, .inl (.inl (E1.ex _ _ q1))⟩, k ds δ1 _ G1 H1 h1 E1 e1 ⟨fun G2 H2 a1 a2 => ⟨xs, .inl (.inl (a2 _ _ (a1 _ _ q1))), by rw [q2.len]; exact Nat.le_refl _⟩, fun G2 H2 i d a1 a2 hd => ?_⟩⟩
  obtain ⟨v, hv, rv⟩ := q2.get hd
  have hq : SqL K H2 a xs := .inl (.inl (a2 _ _ (a1 _ _ q1)))
  refine ⟨⟨xs, v, hq, hv⟩, fun x H3 hy => ?_⟩
  obtain ⟨rfl, hy⟩ := hy
  have e := (hy xs hq).symm.trans hv
  cases e
  exact ⟨G2, Al.refl a2, rv.up a1⟩
theorem ri_tup (ha : RE K te ue) : RI K (iTup K te) (diT ue) := by
  intro c σ G H δ Q R E h k
  refine ha c σ G H δ _ _ E h fun d δ1 v G1 H1 h1 E1 e1 r => ?_
  cases d <;> first
    | exact False.elim h1
    | skip
  rename_i ds
  obtain ⟨a, xs, rfl, q1, q2⟩ := r.tup_of
  refine ⟨a, rfl, ⟨xs, .inl (.inl (E1.ex _ _ q1))⟩, k ds δ1 _ G1 H1 h1 E1 e1 ⟨fun G2 H2 a1 a2 => ⟨xs, .inl (.inl (a2 _ _ (a1 _ _ q1))), by rw [q2.len]; exact Nat.le_refl _⟩, fun G2 H2 i d a1 a2 hd => ?_⟩⟩
  obtain ⟨v, hv, rv⟩ := q2.get hd
  have hq : SqT K H2 a xs := .inl (.inl (a2 _ _ (a1 _ _ q1)))
  refine ⟨⟨xs, v, hq, hv⟩, fun x H3 hy => ?_⟩
  obtain ⟨rfl, hy⟩ := hy
  have e := (hy xs hq).symm.trans hv
  cases e
  exact ⟨G2, Al.refl a2, rv.up a1⟩
theorem ri_str (ha : RE K te ue) : RI K (iStr te) (diS ue) := by
  intro c σ G H δ Q R E h k
  refine ha c σ G H δ _ _ E h fun d δ1 v G1 H1 h1 E1 e1 r => ?_
  cases d <;> first
    | exact False.elim h1
    | skip
  rename_i x
  refine ⟨x, r.str_of, k _ δ1 _ G1 H1 h1 E1 e1 ⟨fun G2 H2 a1 a2 => ?_, fun G2 H2 i d a1 a2 hd => ?_⟩⟩
  · show x.cps.size ≤ (x.cps.toList.map fun c => PyData.str ⟨#[c]⟩).length
    rw [List.length_map, Array.length_toList]
    exact Nat.le_refl _
  · rw [List.getElem?_map] at hd
    cases q : x.cps.toList[i]? with
    | none =>
      rw [q] at hd
      cases hd
    | some ch =>
      rw [q] at hd
      cases hd
      have hl := (List.getElem?_eq_some_iff.mp q).1
      rw [Array.length_toList] at hl
      refine ⟨hl, fun y H3 hy => ?_⟩
      obtain ⟨rfl, ch', hc, rfl⟩ := hy
      rw [Array.getElem?_toList] at q
      rw [q] at hc
      cases hc
      exact ⟨G2, Al.refl a2, .str _⟩
theorem iotaD_get {lo : Int} {n i : Nat} {d : PyData} (h : (iotaD lo n)[i]? = some d) : i < n ∧ d = .int (lo + (i : Int)) := by
  unfold iotaD at h
  rw [List.getElem?_map] at h
  cases q : (List.range n)[i]? with
  | none =>
    rw [q] at h
    cases h
  | some j =>
    rw [q] at h
    obtain ⟨h1, h2⟩ := List.getElem?_eq_some_iff.mp q
    rw [List.getElem_range] at h2
    subst h2
    rw [List.length_range] at h1
    exact ⟨h1, (Option.some.inj h).symm⟩
theorem yld_iotaD {G : Hp} {lo : Int} {n : Nat} : Yields K G (Itr lo n) (iotaD lo n) := ⟨fun G2 H2 a1 a2 => by
    show n ≤ (iotaD lo n).length
    unfold iotaD
    rw [List.length_map, List.length_range]
    exact Nat.le_refl _, fun G2 H2 i d a1 a2 hd => by
    obtain ⟨h1, rfl⟩ := iotaD_get hd
    refine ⟨h1, fun x H3 hy => ?_⟩
    obtain ⟨rfl, rfl⟩ := hy
    exact ⟨G2, Al.refl a2, .int _⟩⟩
theorem ri_r1 (ha : RE K te ue) : RI K (iRng1 (tCons te tNil)) (diR1 ue) := by
  intro c σ G H δ Q R E h k
  refine ha c σ G H δ _ _ E h fun d δ1 v G1 H1 h1 E1 e1 r => ?_
  cases d <;> first
    | exact False.elim h1
    | skip
  rename_i n
  have e := r.int_of
  subst e
  exact ⟨n, rfl, h1.1.1, h1.1.2, k _ δ1 _ G1 H1 h1.2 E1 e1 yld_iotaD⟩
theorem ri_r2 (ha : RE K te ue) (hb : RE K tb ub) : RI K (iRng2 (tCons te (tCons tb tNil))) (diR2 ue ub) := by
  intro c σ G H δ Q R E h k
  refine ha c σ G H δ _ _ E h fun d δ1 v G1 H1 h1 E1 e1 r => ?_
  refine hb c σ G1 H1 δ1 _ _ E1 h1 fun d2 δ2 v2 G2 H2 h2 E2 e2 r2 => ?_
  cases d <;> cases d2 <;> first
    | exact False.elim h2
    | skip
  rename_i m n
  have e := r.int_of
  subst e
  have e' := r2.int_of
  subst e'
  exact ⟨m, n, rfl, h2.1, k _ δ2 _ G2 H2 h2.2 E2 (e1.trans e2) yld_iotaD⟩
end

/-! ### loops -/
def forW (g : DTG) (u : DTS) (E : DEnds) : List PyData → List Sl → Prop
  | [], δ => E.nx δ
  | d :: r, δ => g d δ fun δ1 => u { E with nx := forW g u E r, ct := forW g u E r, bk := E.nx } δ1
def dFor (w : DTI) (g : DTG) (u : DTS) : DTS := fun E δ => w δ fun ds δ1 => forW g u E ds δ1
def whW (t : DTT) (u : DTS) (E : DEnds) : Nat → List Sl → Prop
  | 0, _ => False
  | n + 1, δ => t δ fun b δ1 => if b = true then u { E with nx := whW t u E n, ct := whW t u E n, bk := E.nx } δ1 else E.nx δ1
def dWhile (t : DTT) (u : DTS) : DTS := fun E δ => ∃ n, whW t u E n δ
section
variable {K : PySem.W.Frag} {w : TI} {uw : DTI} {g : TG} {ug : DTG} {js : List Nat} {t : TS} {u : DTS} {tc : TT} {uc : DTT}
theorem rs_for (hw : RI K w uw) (hg : RG K g ug js) (hb : RS K t u) : RS K (tFor w g t) (dFor uw ug u) := by
  intro c σ G H δ D E EV h k
  refine hw c σ G H δ _ _ EV h fun ds δ1 J G1 H1 h1 E1 e1 Y => ?_
  refine ⟨fun i m σ H => ∃ G δ, EnvOk K c G H σ δ ∧ Ex G1 G ∧ i ≤ ds.length ∧ m = ds.length - i ∧ forW ug u E (ds.drop i) δ, ⟨ds.length, G1, δ1, E1, Ex.refl _, Nat.zero_le _, rfl, h1⟩, ?_⟩
  rintro i m σ2 H2 ⟨G2, δ2, E2, e2, hi, rfl, h2⟩
  by_cases hlt : i < ds.length
  · have hd : ds[i]? = some ds[i] := List.getElem?_eq_getElem hlt
    rw [List.drop_eq_getElem_cons hlt] at h2
    obtain ⟨hgo, hy⟩ := Y.go G2 H2 i _ e2 E2.ex hd
    refine .inr ⟨hgo, fun σ' H' => ∃ G δ, EnvOk K c G H' σ' δ ∧ Ex G1 G ∧ forW ug u E (ds.drop (i + 1)) δ, fun σ' H' ⟨G', δ', a1, a2, a3⟩ => ⟨ds.length - (i + 1), by omega, G', δ', a1, a2, hlt, rfl, a3⟩, fun x H3 hx => ?_⟩
    obtain ⟨G3, A, rx⟩ := hy x H3 hx
    refine hg c σ2 G3 H3 δ2 x _ _ _ (E2.al A) rx h2 fun σ4 δ4 h4 E4 _ _ => ?_
    have e13 : Ex G1 G3 := e2.trans A.g
    refine hb c σ4 G3 H3 δ4 _ { E with nx := forW ug u E (ds.drop (i + 1)), ct := forW ug u E (ds.drop (i + 1)), bk := E.nx } E4 h4 ⟨?_, ?_, ?_, ?_, ?_⟩
    · exact fun σ' G' H' δ' a b e => ⟨G', δ', b, e13.trans e, a⟩
    · exact fun d δ' v σ' G' H' a b e r => k.rt d δ' v σ' G' H' a b ((e1.trans e13).trans e) r
    · exact fun σ' G' H' δ' a b e => k.nx σ' G' H' δ' a b ((e1.trans e13).trans e)
    · exact fun σ' G' H' δ' a b e => ⟨G', δ', b, e13.trans e, a⟩
    · exact fun ds δ' p xs σ' G' H' a b n e r => k.rn ds δ' p xs σ' G' H' a b n ((e1.trans e13).trans e) r
  · have ei : i = ds.length := by omega
    subst ei
    rw [List.drop_length] at h2
    exact .inl ⟨Y.stop G2 H2 e2 E2.ex, k.nx σ2 G2 H2 δ2 h2 E2 (e1.trans e2)⟩
theorem rs_while (hc : RT K tc uc) (hb : RS K t u) : RS K (tWhile tc t) (dWhile uc u) := by
  intro c σ G H δ D E EV h k
  obtain ⟨n, h⟩ := h
  refine ⟨fun m σ H => ∃ G' δ, EnvOk K c G' H σ δ ∧ Ex G G' ∧ whW uc u E m δ, ⟨n, G, δ, EV, Ex.refl _, h⟩, ?_⟩
  rintro m σ1 H1 ⟨G1, δ1, E1, e1, h1⟩
  cases m with
  | zero => exact False.elim h1
  | succ m =>
    refine hc c σ1 G1 H1 δ1 _ _ E1 h1 fun b δ2 G2 H2 h2 E2 e2 => ?_
    cases b with
    | false =>
      exact k.nx σ1 G2 H2 δ2 h2 E2 (e1.trans e2)
    | true =>
      refine ⟨fun σ' H' => ∃ G' δ, EnvOk K c G' H' σ' δ ∧ Ex G G' ∧ whW uc u E m δ, fun σ' H' q => ⟨m, Nat.lt_succ_self m, q⟩, ?_⟩
      refine hb c σ1 G2 H2 δ2 _ { E with nx := whW uc u E m, ct := whW uc u E m, bk := E.nx } E2 h2 ⟨?_, ?_, ?_, ?_, ?_⟩
      · exact fun σ' G' H' δ' a b e => ⟨G', δ', b, (e1.trans e2).trans e, a⟩
      · exact fun d δ' v σ' G' H' a b e r => k.rt d δ' v σ' G' H' a b ((e1.trans e2).trans e) r
      · exact fun σ' G' H' δ' a b e => k.nx σ' G' H' δ' a b ((e1.trans e2).trans e)
      · exact fun σ' G' H' δ' a b e => ⟨G', δ', b, (e1.trans e2).trans e, a⟩
      · exact fun ds δ' p xs σ' G' H' a b n e r => k.rn ds δ' p xs σ' G' H' a b n ((e1.trans e2).trans e) r
end

/-! ### comprehensions -/
def wipeS (δ : List Sl) : List Nat → List Sl
  | [] => δ
  | v :: vs => (wipeS δ vs).set v .no
def lcW (vs : List Nat) (g : DTG) (t : DTT) (u : DTE) (R : List PyData → List Sl → Prop) : List PyData → List PyData → List Sl → Prop
  | [], acc, δ => R acc δ
  | d :: r, acc, δ => g d (wipeS δ vs) fun δ1 => t δ1 fun b δ2 => if b = true then u δ2 fun y δ3 => acc.length < sizeLine ∧ lcW vs g t u R r (acc ++ [y]) (wipeS δ3 vs) else lcW vs g t u R r acc (wipeS δ2 vs)
def dLc (w : DTI) (g : DTG) (t : DTT) (u : DTE) (vs : List Nat) : DTE := fun δ R => w δ fun ds δ1 => lcW vs g t u (fun acc δ' => R (.list acc) δ') ds [] δ1
/-- .. given to a name that is to change -/
def dLcOwn (i : Nat) (w : DTI) (g : DTG) (t : DTT) (u : DTE) (vs : List Nat) : DTS := fun E δ => w δ fun ds δ1 => lcW vs g t u (fun acc δ' => E.nx (δ'.set i (.own none acc))) ds [] δ1
def dYes : DTT := fun δ R => R true δ
section
variable {K : PySem.W.Frag} {w : TI} {uw : DTI} {g : TG} {ug : DTG} {js : List Nat} {tt : TT} {ut : DTT} {te : TE} {ue : DTE}
theorem rt_yes : RT K tYes dYes := fun c σ G H δ Q R E h k => k true δ G H h E (Ex.refl _)
theorem wipe_get (σ : L2.St) (i : Nat) : ∀ vs : List Nat, (wipe σ vs)[i]? = if i ∈ vs ∧ i < σ.length then some none else σ[i]?
  | [] => by simp [wipe]
  | v :: vs => by
    have ih := wipe_get σ i vs
    show ((wipe σ vs).set v none)[i]? = _
    rw [List.getElem?_set, wipe_length]
    by_cases h : v = i
    · subst h
      by_cases hl : v < σ.length
      · simp [hl]
      · simp [hl]
    · rw [if_neg h, ih]
      have e : (i ∈ v :: vs) ↔ i ∈ vs := by
        rw [List.mem_cons]
        exact ⟨fun z => z.elim (fun z => absurd z.symm h) id, Or.inr⟩
      by_cases hm : i ∈ vs
      · by_cases hl : i < σ.length
        · simp [hm, hl]
        · simp [hm, hl]
      · simp [hm, Ne.symm h]
theorem wipe_eq {σ σ' : L2.St} {vs : List Nat} (hl : σ'.length = σ.length) (h : ∀ i, i ∉ vs → σ'[i]? = σ[i]?) : wipe σ' vs = wipe σ vs := by
  apply List.ext_getElem?
  intro i
  rw [wipe_get, wipe_get, hl]
  by_cases hm : i ∈ vs
  · by_cases hi : i < σ.length
    · simp [hm, hi]
    · rw [if_neg (fun z => hi z.2), if_neg (fun z => hi z.2), List.getElem?_eq_none (by omega), List.getElem?_eq_none (by omega)]
  · rw [if_neg (fun z => hm z.1), if_neg (fun z => hm z.1)]
    exact h i hm
theorem EnvOk.wipe {c : Cf} {G H : Hp} {σ : L2.St} {δ : List Sl} (E : EnvOk K c G H σ δ) : ∀ vs : List Nat, EnvOk K c G H (L2.wipe σ vs) (wipeS δ vs)
  | [] => E
  | v :: vs => (EnvOk.wipe E vs).drop
theorem wipeS_no {δ : List Sl} {i : Nat} {s : Sl} : ∀ (vs : List Nat), i ∈ vs → (wipeS δ vs)[i]? = some s → s = Sl.no
  | [], hi, _ => nomatch hi
  | v :: vs, hi, hs => by
    have hs : ((wipeS δ vs).set v Sl.no)[i]? = some s := hs
    rw [List.getElem?_set] at hs
    by_cases hv : v = i
    · rw [if_pos hv] at hs
      split at hs
      · exact (Option.some.inj hs).symm
      · cases hs
    · rw [if_neg hv] at hs
      rcases List.mem_cons.mp hi with z | z
      · exact absurd z.symm hv
      · exact wipeS_no vs z hs
/-- other values in slots that nothing is known of -/
theorem EnvOk.other {c : Cf} {G H : Hp} {σ σ' : L2.St} {δ : List Sl} {vs : List Nat} (E : EnvOk K c G H σ (wipeS δ vs)) (hl : σ'.length = σ.length) (h : ∀ i, i ∉ vs → σ'[i]? = σ[i]?) : EnvOk K c G H σ' (wipeS δ vs) := by
  have same : ∀ (i : Nat) (s : Sl), (wipeS δ vs)[i]? = some s → s ≠ Sl.no → σ'[i]? = σ[i]? := fun i s hs hn => h i fun z => hn (wipeS_no vs z hs)
  exact {
    g0 := E.g0, ex := E.ex, fr := E.fr, fs := E.fs, tg := E.tg
    len := by rw [hl]; exact E.len
    sl := fun i s hs => by
      cases s with
      | no => trivial
      | dat d => rw [same i _ hs (by intro z; cases z)]; exact E.sl i _ hs
      | scr d => rw [same i _ hs (by intro z; cases z)]; exact E.sl i _ hs
      | own t d => rw [same i _ hs (by intro z; cases z)]; exact E.sl i _ hs
    ap := fun i j t1 d1 t2 d2 hij h1 h2 => by
      rw [same i _ h1 (by intro z; cases z), same j _ h2 (by intro z; cases z)]
      exact E.ap i j t1 d1 t2 d2 hij h1 h2
    hd := fun p xs hm => by
      obtain ⟨a1, a2, a3, a4, a5⟩ := E.hd p xs hm
      refine ⟨a1, a2, a3, a4, fun i t ds hs => ?_⟩
      rw [same i _ hs (by intro z; cases z)]
      exact a5 i t ds hs }
end
end TL

set_option Elab.async false
set_option linter.all false
set_option maxRecDepth 100000
set_option maxHeartbeats 2000000
/-! TL5: comprehensions, calls, defs by data. -/
namespace TL
open PySem PySem.Spec L2

section
variable {K : PySem.W.Frag} {w : TI} {uw : DTI} {g : TG} {ug : DTG} {js vs : List Nat} {tt : TT} {ut : DTT} {te : TE} {ue : DTE}
/-- the turns of a comprehension, from the list that is being made at D -/
theorem lc_turns (hg : RG K g ug js) (ht : RT K tt ut) (he : RE K te ue) (hj : ∀ j ∈ js, j ∈ vs) {c : Cf} {σ : L2.St} {G1 : Hp} {ds : List PyData} {J : It} {D : Addr} {Q : VK} {R : List PyData → List Sl → Prop} {H1 : Hp} {δ1 : List Sl}
    (E1 : EnvOk K { c with hid := (D, []) :: c.hid } G1 H1 σ δ1) (hn : ∀ zs, (D, zs) ∉ c.hid) (Y : Yields K G1 J ds) (h : lcW vs ug ut ue R ds [] δ1)
    (k : ∀ acc δ' xs G' H', R acc δ' → EnvOk K { c with hid := (D, xs) :: c.hid } G' H' σ δ' → Ex G1 G' → RpAll K G' xs acc → Q (.ref D) H') :
    ∃ W : Nat → Nat → Hp → Prop, (∃ m, W 0 m H1) ∧ ∀ i m H, W i m H →
      (J.stop i H ∧ Q (.ref D) H) ∨ (J.go i H ∧ ∃ Nx : Hp → Prop, (∀ H', Nx H' → ∃ m', m' < m ∧ W (i + 1) m' H') ∧ ∀ x H', J.yld i H x H' → g x (wipe σ vs) H' fun σ2 H2 => wipe σ2 vs = wipe σ vs ∧ tt σ2 H2 fun b H3 =>
        if b = true then te σ2 H3 fun y H4 => ∃ acc, H4 D = some (.lst acc) ∧ acc.length < sizeLine ∧ Nx (upd H4 D (.lst (acc ++ [y]))) else Nx H3) := by
  refine ⟨fun i m H => ∃ G δ acc xs, EnvOk K { c with hid := (D, xs) :: c.hid } G H σ δ ∧ Ex G1 G ∧ RpAll K G xs acc ∧ i ≤ ds.length ∧ m = ds.length - i ∧ lcW vs ug ut ue R (ds.drop i) acc δ, ⟨ds.length, G1, δ1, [], [], E1, Ex.refl _, .nil, Nat.zero_le _, rfl, h⟩, ?_⟩
  rintro i m H ⟨G, δ, acc, xs, E, e, r, hi, rfl, h⟩
  by_cases hlt : i < ds.length
  · have hd : ds[i]? = some ds[i] := List.getElem?_eq_getElem hlt
    rw [List.drop_eq_getElem_cons hlt] at h
    obtain ⟨hgo, hy⟩ := Y.go G H i _ e E.ex hd
    refine .inr ⟨hgo, fun H' => ∃ G δ acc xs, EnvOk K { c with hid := (D, xs) :: c.hid } G H' σ δ ∧ Ex G1 G ∧ RpAll K G xs acc ∧ lcW vs ug ut ue R (ds.drop (i + 1)) acc δ, fun H' ⟨G', δ', acc', xs', a1, a2, a3, a4⟩ => ⟨ds.length - (i + 1), by omega, G', δ', acc', xs', a1, a2, a3, hlt, rfl, a4⟩, fun x H2 hx => ?_⟩
    obtain ⟨G2, A, rx⟩ := hy x H2 hx
    have E2 := (E.al A).wipe vs
    refine hg _ (wipe σ vs) G2 H2 _ x _ _ _ E2 rx h fun σ3 δ3 h3 E3 l3 s3 => ?_
    rw [wipe_length] at l3
    have o3 : ∀ i, i ∉ vs → σ3[i]? = σ[i]? := fun i hi => by
      rw [s3 i fun z => hi (hj i z), wipe_get, if_neg fun z => hi z.1]
    refine ⟨wipe_eq l3 o3, ?_⟩
    have back : ∀ {cc : Cf} {G H : Hp} {δ : List Sl}, EnvOk K cc G H σ3 δ → EnvOk K cc G H σ (wipeS δ vs) := fun {cc G H δ} E => by
      have z := E.wipe vs
      rw [wipe_eq l3 o3] at z
      refine z.other (by rw [wipe_length]) fun i hi => ?_
      rw [wipe_get, if_neg fun z => hi z.1]
    refine ht _ σ3 G2 H2 δ3 _ _ E3 h3 fun b δ4 G4 H4 h4 E4 e4 => ?_
    have e14 : Ex G1 G4 := (e.trans A.g).trans e4
    cases b with
    | false => exact ⟨G4, wipeS δ4 vs, acc, xs, back E4, e14, r.up (A.g.trans e4), h4⟩
    | true =>
      refine he _ σ3 G4 H4 δ4 _ _ E4 h4 fun y δ5 v G5 H5 h5 E5 e5 r5 => ?_
      have r' : RpAll K G5 xs acc := r.up ((A.g.trans e4).trans e5)
      obtain ⟨q1, q2⟩ := E5.hd D xs List.mem_cons_self
      refine ⟨xs, q1, by rw [r'.len]; exact h5.1, G5, wipeS δ5 vs, acc ++ [y], xs ++ [v], (back E5).grow hn, e14.trans e5, r'.app (.one r5), h5.2⟩
  · have ei : i = ds.length := by omega
    subst ei
    rw [List.drop_length] at h
    exact .inl ⟨Y.stop G H e E.ex, k acc δ xs G H h E e r⟩
theorem hid_new {c : Cf} {G H : Hp} {σ : L2.St} {δ : List Sl} (E : EnvOk K c G H σ δ) {D : Addr} (hD : H D = none) : ∀ zs, (D, zs) ∉ c.hid := fun zs z => by
  have q := (E.hd D zs z).1
  rw [hD] at q
  cases q
theorem Yields.up {G G' : Hp} {J : It} {ds : List PyData} (Y : Yields K G J ds) (e : Ex G G') : Yields K G' J ds := ⟨fun G1 H1 a b => Y.stop G1 H1 (e.trans a) b, fun G1 H1 i d a b h => Y.go G1 H1 i d (e.trans a) b h⟩
theorem re_lc (hw : RI K w uw) (hg : RG K g ug js) (ht : RT K tt ut) (he : RE K te ue) (hj : ∀ j ∈ js, j ∈ vs) : RE K (tLc w g tt te vs) (dLc uw ug ut ue vs) := by
  intro c σ G H δ Q R E h k
  refine hw c σ G H δ _ _ E h fun ds δ1 J G1 H1 h1 E1 e1 Y => ?_
  intro D hD
  have hn := hid_new E1 hD
  refine lc_turns hg ht he hj (E1.hide (xs := []) hD (E1.new0 hD)) hn Y h1 fun acc δ' xs G' H' hR E' e' r' => ?_
  obtain ⟨G2, e2, rp, E2⟩ := E'.show hn r'
  exact k _ δ' _ G2 H' hR E2 ((e1.trans e').trans e2) rp
/-- what was made beside is given to a name -/
theorem EnvOk.give {c : Cf} {G H : Hp} {σ : L2.St} {δ : List Sl} {p : Addr} {xs : List V} {ds : List PyData} (E : EnvOk K { c with hid := (p, xs) :: c.hid } G H σ δ) (hn : ∀ zs, (p, zs) ∉ c.hid) (r : RpAll K G xs ds) (i : Nat) :
    EnvOk K c G H (σ.set i (some (.ref p))) (δ.set i (.own none ds)) := by
  obtain ⟨a1, a2, a3, a4, a5⟩ := E.hd p xs List.mem_cons_self
  exact {
    g0 := E.g0, ex := E.ex, fr := E.fr, fs := E.fs, tg := E.tg
    len := by rw [List.length_set, List.length_set, E.len]
    sl := fun j s h => by
      rw [List.getElem?_set] at h ⊢
      by_cases hj : i = j
      · rw [if_pos hj] at h ⊢
        by_cases hl : i < δ.length
        · rw [if_pos hl] at h
          rw [if_pos (by rw [E.len]; exact hl)]
          cases h
          exact ⟨p, xs, rfl, a2, a1, r, a3, a4⟩
        · rw [if_neg hl] at h
          cases h
      · rw [if_neg hj] at h ⊢
        have z := E.sl j s h
        cases s with
        | no => trivial
        | dat d => exact z
        | scr d => exact z
        | own t d => exact z
    ap := fun a b t1 d1 t2 d2 hab h1 h2 => by
      rw [List.getElem?_set] at h1 h2
      by_cases ha : i = a
      · have hb : ¬ i = b := fun z => hab (ha.symm.trans z)
        rw [if_neg hb] at h2
        rw [List.getElem?_set, if_pos ha, List.getElem?_set_ne hb]
        split
        · exact fun z => a5 b t2 d2 h2 z.symm
        · rw [if_pos ha] at h1
          split at h1
          · rename_i u w
            rw [E.len] at u
            exact absurd w u
          · cases h1
      · rw [if_neg ha] at h1
        rw [List.getElem?_set_ne ha]
        by_cases hb : i = b
        · rw [List.getElem?_set, if_pos hb]
          split
          · exact a5 a t1 d1 h1
          · rw [if_pos hb] at h2
            split at h2
            · rename_i u w
              rw [E.len] at u
              exact absurd w u
            · cases h2
        · rw [if_neg hb] at h2
          rw [List.getElem?_set_ne hb]
          exact E.ap a b t1 d1 t2 d2 hab h1 h2
    hd := fun q ys h => by
      obtain ⟨h1, h2, h3, h4, h5⟩ := E.hd q ys (List.mem_cons_of_mem _ h)
      have ne : q ≠ p := fun z => hn ys (by rw [← z]; exact h)
      refine ⟨h1, h2, h3, h4, fun j t es hs => ?_⟩
      rw [List.getElem?_set] at hs ⊢
      by_cases hj : i = j
      · rw [if_pos hj]
        split
        · exact fun z => ne (V.ref.inj (Option.some.inj (Option.some.inj z))).symm
        · exact fun z => nomatch z
      · rw [if_neg hj] at hs ⊢
        exact h5 j t es hs }
theorem rs_lcOwn {i : Nat} (hw : RI K w uw) (hg : RG K g ug js) (ht : RT K tt ut) (he : RE K te ue) (hj : ∀ j ∈ js, j ∈ vs) : RS K (tAsg (tLc w g tt te vs) (gName i)) (dLcOwn i uw ug ut ue vs) := by
  intro c σ G H δ D' E EV h k
  refine hw c σ G H δ _ _ EV h fun ds δ1 J G1 H1 h1 E1 e1 Y => ?_
  intro D hD
  have hn := hid_new E1 hD
  refine lc_turns (Q := fun x H1 => gName i x σ H1 D'.nx) hg ht he hj (E1.hide (xs := []) hD (E1.new0 hD)) hn Y h1 fun acc δ' xs G' H' hR E' e' r' => ?_
  exact k.nx _ G' H' _ hR (E'.give hn r' i) (e1.trans e')
end
end TL

set_option Elab.async false
set_option linter.all false
set_option maxRecDepth 100000
set_option maxHeartbeats 2000000
/-! TL6: calls and defs by data. -/
namespace TL
open PySem PySem.Spec L2

/-- an argument: a datum, or a slot handed on (a list that the callee may change, or what was handed in) -/
inductive CA where
  | d (d : PyData)
  | s (i : Nat)
inductive CAs (K : PySem.W.Frag) (G : Hp) (σ : L2.St) : List V → List CA → Prop
  | nil : CAs K G σ [] []
  | d {v : V} {d : PyData} {vs : List V} {cs : List CA} : Rp K G v d → CAs K G σ vs cs → CAs K G σ (v :: vs) (.d d :: cs)
  | s {v : V} {i : Nat} {vs : List V} {cs : List CA} : σ[i]? = some (some v) → CAs K G σ vs cs → CAs K G σ (v :: vs) (.s i :: cs)
theorem CAs.up {K : PySem.W.Frag} {G G' : Hp} {σ : L2.St} (e : Ex G G') : ∀ {vs : List V} {cs : List CA}, CAs K G σ vs cs → CAs K G' σ vs cs
  | _, _, .nil => .nil
  | _, _, .d r t => .d (r.up e) (CAs.up e t)
  | _, _, .s r t => .s r (CAs.up e t)
theorem CAs.len {K : PySem.W.Frag} {G : Hp} {σ : L2.St} : ∀ {vs : List V} {cs : List CA}, CAs K G σ vs cs → vs.length = cs.length
  | _, _, .nil => rfl
  | _, _, .d r t => by rw [List.length_cons, List.length_cons, CAs.len t]
  | _, _, .s r t => by rw [List.length_cons, List.length_cons, CAs.len t]
abbrev DCA := List Sl → (List CA → List Sl → Prop) → Prop
def RCA (K : PySem.W.Frag) (t : TA) (u : DCA) : Prop := ∀ (c : Cf) (σ : L2.St) (G H : Hp) (δ : List Sl) (Q : List V → Hp → Prop) (R : List CA → List Sl → Prop), EnvOk K c G H σ δ → u δ R →
  (∀ cs δ' vs G' H', R cs δ' → EnvOk K c G' H' σ δ' → Ex G G' → CAs K G' σ vs cs → Q vs H') → t σ H Q
structure DCa (X : Cx) (es : List Expr) (t : TA) (u : DCA) : Prop where
  pa : PA X es t
  ra : RCA X.K t u
def cNil : DCA := fun δ R => R [] δ
def cD (u : DTE) (ur : DCA) : DCA := fun δ R => u δ fun d δ1 => ur δ1 fun cs δ2 => R (.d d :: cs) δ2
def isS : Option Sl → Bool
  | some (.own _ _) => true
  | some (.scr _) => true
  | _ => false
def cS (i : Nat) (ur : DCA) : DCA := fun δ R => isS δ[i]? = true ∧ ur δ fun cs δ2 => R (.s i :: cs) δ2
section
variable {K : PySem.W.Frag} {te : TE} {ue : DTE} {tr : TA} {ur : DCA}
theorem rca_nil : RCA K tNil cNil := fun c σ G H δ Q R E h k => k [] δ [] G H h E (Ex.refl _) .nil
theorem rca_d (ha : RE K te ue) (hr : RCA K tr ur) : RCA K (tCons te tr) (cD ue ur) := by
  intro c σ G H δ Q R E h k
  refine ha c σ G H δ _ _ E h fun d δ1 v1 G1 H1 h1 E1 e1 r1 => ?_
  exact hr c σ G1 H1 δ1 _ _ E1 h1 fun ds δ2 vs G2 H2 h2 E2 e2 r2 => k _ δ2 _ G2 H2 h2 E2 (e1.trans e2) (.d (r1.up e2) r2)
theorem rca_s {i : Nat} (hr : RCA K tr ur) : RCA K (tCons (tVar i) tr) (cS i ur) := by
  intro c σ G H δ Q R E h k
  obtain ⟨h0, h⟩ := h
  have val : ∃ v, σ[i]? = some (some v) := by
    cases hs : δ[i]? with
    | none =>
      rw [hs] at h0
      cases h0
    | some s =>
      rw [hs] at h0
      have z := E.sl i s hs
      cases s with
      | no => cases h0
      | dat d => cases h0
      | scr ds =>
        obtain ⟨a, xs, e, _⟩ := z
        exact ⟨_, e⟩
      | own t ds =>
        obtain ⟨a, xs, e, _⟩ := z
        exact ⟨_, e⟩
  obtain ⟨v, hv⟩ := val
  refine ⟨v, hv, ?_⟩
  exact hr c σ G H δ _ _ E h fun ds δ2 vs G2 H2 h2 E2 e2 r2 => k _ δ2 _ G2 H2 h2 E2 e2 (.s hv r2)
end
/-- the slots that the callee gets -/
def asOf (δ : List Sl) : List CA → Nat → List Sl
  | [], _ => []
  | .d d :: r, j => .dat d :: asOf δ r j
  | .s i :: r, j => match δ[i]? with
    | some (.own _ ds) => .own (some j) ds :: asOf δ r (j + 1)
    | some (.scr ds) => .scr ds :: asOf δ r j
    | _ => .no :: asOf δ r j
/-- the slots whose lists it may change -/
def muts (δ : List Sl) : List CA → List Nat
  | [] => []
  | .d _ :: r => muts δ r
  | .s i :: r => match δ[i]? with
    | some (.own _ _) => i :: muts δ r
    | _ => muts δ r
def setOut (δ : List Sl) (i : Nat) (o : List PyData) : List Sl := match δ[i]? with
  | some (.own t _) => δ.set i (.own t o)
  | _ => δ
def setOuts : List Sl → List Nat → List (List PyData) → List Sl
  | δ, i :: M, o :: os => setOuts (setOut δ i o) M os
  | δ, _, _ => δ
def addr (σ : L2.St) (i : Nat) : Addr := match σ[i]? with
  | some (some (.ref p)) => p
  | _ => 0
abbrev DSp := List Sl → (PyData → List (List PyData) → Prop) → Prop
/-- what is left behind a def -/
structure Fin (K : PySem.W.Frag) (c : Cf) (G H : Hp) (outs : List (List PyData)) : Prop where
  g0 : Ex c.G0 G
  ex : Ex G H
  fr : ∀ a o, c.H0 a = some o → (∀ j, j < c.n → a ≠ c.τ j) → H a = some o
  fs : ∀ a, c.G0 a = none → c.H0 a ≠ none → G a = none
  tg : ∀ j, j < c.n → H (c.τ j) ≠ none ∧ G (c.τ j) = none
  out : ∀ j cs, outs[j]? = some cs → ∃ xs, H (c.τ j) = some (.lst xs) ∧ RpAll K G xs cs
def spD (K : PySem.W.Frag) (S : DSp) : Sp := fun vs H Q _ => ∃ (c : Cf) (as : List Sl) (R : PyData → List (List PyData) → Prop), c.hid = [] ∧ c.H0 = H ∧ EnvOk K c c.G0 H (vs.map some) as ∧ S as R ∧
  ∀ d outs v G' H', R d outs → Fin K c G' H' outs → Rp K G' v d → Q v H'
/-- .. and a new list comes back, the asker's own -/
abbrev DSn := List Sl → (List PyData → List (List PyData) → Prop) → Prop
def spN (K : PySem.W.Frag) (S : DSn) : Sp := fun vs H Q _ => ∃ (c : Cf) (as : List Sl) (R : List PyData → List (List PyData) → Prop), c.hid = [] ∧ c.H0 = H ∧ EnvOk K c c.G0 H (vs.map some) as ∧ S as R ∧
  ∀ ds outs p xs G' H', R ds outs → Fin K c G' H' outs → H p = none → G' p = none → H' p = some (.lst xs) → RpAll K G' xs ds → Q (.ref p) H'
/-- name = f(..), a new list, to change -/
def dCallOwn (i : Nat) (S : DSn) (ua : DCA) (E : List Sl → Prop) (δ : List Sl) : Prop := ua δ fun cs δ1 => (muts δ1 cs).Nodup ∧ S (asOf δ1 cs 0) fun ds outs => outs.length = (muts δ1 cs).length ∧ E ((setOuts δ1 (muts δ1 cs) outs).set i (.own none ds))
def dCall (S : DSp) (ua : DCA) : DTE := fun δ R => ua δ fun cs δ1 => (muts δ1 cs).Nodup ∧ S (asOf δ1 cs 0) fun d outs => outs.length = (muts δ1 cs).length ∧ R d (setOuts δ1 (muts δ1 cs) outs)

/-! ### the slots handed on -/
theorem muts_own {δ : List Sl} : ∀ {cs : List CA} {i : Nat}, i ∈ muts δ cs → ∃ t ds, δ[i]? = some (.own t ds)
  | [], i, h => nomatch h
  | .d _ :: r, i, h => muts_own (cs := r) h
  | .s k :: r, i, h => by
    cases hs : δ[k]? with
    | none =>
      have h : i ∈ (match δ[k]? with
        | some (.own _ _) => k :: muts δ r
        | _ => muts δ r) := h
      rw [hs] at h
      exact muts_own (cs := r) h
    | some s =>
      have h : i ∈ (match δ[k]? with
        | some (.own _ _) => k :: muts δ r
        | _ => muts δ r) := h
      rw [hs] at h
      cases s with
      | own t ds =>
        rcases List.mem_cons.mp h with e | h
        · rw [e]
          exact ⟨t, ds, hs⟩
        · exact muts_own (cs := r) h
      | no => exact muts_own (cs := r) h
      | dat d => exact muts_own (cs := r) h
      | scr d => exact muts_own (cs := r) h
theorem asOf_own {δ : List Sl} : ∀ {cs : List CA} {j0 i : Nat} {t : Option Nat} {ds : List PyData}, (asOf δ cs j0)[i]? = some (.own t ds) → ∃ k i' t', t = some (j0 + k) ∧ (muts δ cs)[k]? = some i' ∧ δ[i']? = some (.own t' ds) ∧ cs[i]? = some (.s i')
  | [], j0, i, t, ds, h => by
    have h : ([] : List Sl)[i]? = some (.own t ds) := h
    simp at h
  | .d x :: r, j0, i, t, ds, h => by
    cases i with
    | zero =>
      have h : some (Sl.dat x) = some (.own t ds) := h
      cases h
    | succ i =>
      have h : (asOf δ r j0)[i]? = some (.own t ds) := h
      exact asOf_own (cs := r) (i := i) (j0 := j0) h
  | .s k :: r, j0, i, t, ds, h => by
    have hm : muts δ (.s k :: r) = (match δ[k]? with
        | some (.own _ _) => k :: muts δ r
        | _ => muts δ r) := rfl
    have ha : asOf δ (.s k :: r) j0 = (match δ[k]? with
        | some (.own _ ds) => .own (some j0) ds :: asOf δ r (j0 + 1)
        | some (.scr ds) => .scr ds :: asOf δ r j0
        | _ => .no :: asOf δ r j0) := rfl
    rw [ha] at h
    rw [hm]
    have rest : ∀ i, (asOf δ r j0)[i]? = some (.own t ds) → ∃ k' i' t', t = some (j0 + k') ∧ (muts δ r)[k']? = some i' ∧ δ[i']? = some (.own t' ds) ∧ (CA.s k :: r)[i + 1]? = some (.s i') := fun i h => asOf_own (cs := r) (i := i) (j0 := j0) h
    cases hs : δ[k]? with
    | none =>
      rw [hs] at h
      cases i with
      | zero => cases (show some Sl.no = some (.own t ds) from h)
      | succ i => exact rest i h
    | some s =>
      rw [hs] at h
      cases s with
      | no =>
        cases i with
        | zero => cases (show some Sl.no = some (.own t ds) from h)
        | succ i => exact rest i h
      | dat d =>
        cases i with
        | zero => cases (show some Sl.no = some (.own t ds) from h)
        | succ i => exact rest i h
      | scr d =>
        cases i with
        | zero => cases (show some (Sl.scr d) = some (.own t ds) from h)
        | succ i => exact rest i h
      | own t0 d =>
        cases i with
        | zero =>
          cases (show some (Sl.own (some j0) d) = some (.own t ds) from h)
          exact ⟨0, k, t0, rfl, rfl, hs, rfl⟩
        | succ i =>
          have h : (asOf δ r (j0 + 1))[i]? = some (.own t ds) := h
          obtain ⟨k', i', t', e, a, b, cc⟩ := asOf_own (cs := r) (i := i) (j0 := j0 + 1) h
          exact ⟨k' + 1, i', t', by rw [e]; congr 1; omega, a, b, cc⟩
theorem asOf_tag {δ : List Sl} {cs : List CA} {i i' j : Nat} {ds ds' : List PyData} (hn : (muts δ cs).Nodup) : ∀ {cs' : List CA} {j0 : Nat}, (asOf δ cs' j0)[i]? = some (.own (some j) ds) → (asOf δ cs' j0)[i']? = some (.own (some j) ds') → i = i' := by
  intro cs'
  induction cs' generalizing i i' with
  | nil =>
    intro j0 h
    simp [asOf] at h
  | cons a r ih =>
    intro j0 h h'
    have ge : ∀ {q : Nat} {es : List PyData} {j1 : Nat}, (asOf δ r j1)[q]? = some (.own (some j) es) → j1 ≤ j := fun {q es j1} h => by
      obtain ⟨k, _, _, e, _⟩ := asOf_own (cs := r) h
      have := Option.some.inj e
      omega
    cases a with
    | d x =>
      cases i with
      | zero => cases (show some (Sl.dat x) = some (.own (some j) ds) from h)
      | succ i =>
        cases i' with
        | zero => cases (show some (Sl.dat x) = some (.own (some j) ds') from h')
        | succ i' => rw [ih (i := i) (i' := i') (j0 := j0) h h']
    | s k =>
      have ha : asOf δ (.s k :: r) j0 = (match δ[k]? with
        | some (.own _ ds) => .own (some j0) ds :: asOf δ r (j0 + 1)
        | some (.scr ds) => .scr ds :: asOf δ r j0
        | _ => .no :: asOf δ r j0) := rfl
      rw [ha] at h h'
      cases hs : δ[k]? with
      | none =>
        rw [hs] at h h'
        cases i with
        | zero => cases (show some Sl.no = some (.own (some j) ds) from h)
        | succ i =>
          cases i' with
          | zero => cases (show some Sl.no = some (.own (some j) ds') from h')
          | succ i' => rw [ih (i := i) (i' := i') (j0 := j0) h h']
      | some s =>
        rw [hs] at h h'
        cases s with
        | no =>
          cases i with
          | zero => cases (show some Sl.no = some (.own (some j) ds) from h)
          | succ i =>
            cases i' with
            | zero => cases (show some Sl.no = some (.own (some j) ds') from h')
            | succ i' => rw [ih (i := i) (i' := i') (j0 := j0) h h']
        | dat d =>
          cases i with
          | zero => cases (show some Sl.no = some (.own (some j) ds) from h)
          | succ i =>
            cases i' with
            | zero => cases (show some Sl.no = some (.own (some j) ds') from h')
            | succ i' => rw [ih (i := i) (i' := i') (j0 := j0) h h']
        | scr d =>
          cases i with
          | zero => cases (show some (Sl.scr d) = some (.own (some j) ds) from h)
          | succ i =>
            cases i' with
            | zero => cases (show some (Sl.scr d) = some (.own (some j) ds') from h')
            | succ i' => rw [ih (i := i) (i' := i') (j0 := j0) h h']
        | own t0 d =>
          cases i with
          | zero =>
            cases (show some (Sl.own (some j0) d) = some (.own (some j) ds) from h)
            cases i' with
            | zero => rfl
            | succ i' =>
              have h' : (asOf δ r (j + 1))[i']? = some (.own (some j) ds') := h'
              have := ge h'
              omega
          | succ i =>
            have h : (asOf δ r (j0 + 1))[i]? = some (.own (some j) ds) := h
            cases i' with
            | zero =>
              cases (show some (Sl.own (some j0) d) = some (.own (some j) ds') from h')
              have := ge h
              omega
            | succ i' => rw [ih (i := i) (i' := i') (j0 := j0 + 1) h h']
theorem asOf_len {δ : List Sl} : ∀ (cs : List CA) (j0 : Nat), (asOf δ cs j0).length = cs.length
  | [], _ => rfl
  | .d x :: r, j0 => by
    show (asOf δ r j0).length + 1 = r.length + 1
    rw [asOf_len r]
  | .s k :: r, j0 => by
    show (match δ[k]? with
        | some (.own _ ds) => Sl.own (some j0) ds :: asOf δ r (j0 + 1)
        | some (.scr ds) => .scr ds :: asOf δ r j0
        | _ => .no :: asOf δ r j0).length = r.length + 1
    split <;> rw [List.length_cons, asOf_len r]
theorem asOf_dat {δ : List Sl} : ∀ {cs : List CA} {j0 i : Nat} {x : PyData}, (asOf δ cs j0)[i]? = some (.dat x) → cs[i]? = some (.d x)
  | [], _, i, _, h => by
    have h : ([] : List Sl)[i]? = some _ := h
    simp at h
  | .d y :: r, j0, i, x, h => by
    cases i with
    | zero =>
      cases (show some (Sl.dat y) = some (.dat x) from h)
      rfl
    | succ i => exact asOf_dat (cs := r) (j0 := j0) h
  | .s k :: r, j0, i, x, h => by
    have h : (match δ[k]? with
        | some (.own _ ds) => Sl.own (some j0) ds :: asOf δ r (j0 + 1)
        | some (.scr ds) => .scr ds :: asOf δ r j0
        | _ => .no :: asOf δ r j0)[i]? = some (.dat x) := h
    split at h
    · cases i with
      | zero => simp at h
      | succ i => exact asOf_dat (cs := r) (j0 := j0 + 1) h
    · cases i with
      | zero => simp at h
      | succ i => exact asOf_dat (cs := r) (j0 := j0) h
    · cases i with
      | zero => simp at h
      | succ i => exact asOf_dat (cs := r) (j0 := j0) h
theorem asOf_scr {δ : List Sl} : ∀ {cs : List CA} {j0 i : Nat} {x : List PyData}, (asOf δ cs j0)[i]? = some (.scr x) → ∃ k, cs[i]? = some (.s k) ∧ δ[k]? = some (.scr x)
  | [], _, i, _, h => by
    have h : ([] : List Sl)[i]? = some _ := h
    simp at h
  | .d y :: r, j0, i, x, h => by
    cases i with
    | zero => cases (show some (Sl.dat y) = some (.scr x) from h)
    | succ i => exact asOf_scr (cs := r) (j0 := j0) h
  | .s k :: r, j0, i, x, h => by
    have h : (match δ[k]? with
        | some (.own _ ds) => Sl.own (some j0) ds :: asOf δ r (j0 + 1)
        | some (.scr ds) => .scr ds :: asOf δ r j0
        | _ => .no :: asOf δ r j0)[i]? = some (.scr x) := h
    split at h
    · cases i with
      | zero => simp at h
      | succ i => exact asOf_scr (cs := r) (j0 := j0 + 1) h
    · rename_i ds hk
      cases i with
      | zero =>
        cases (show some (Sl.scr ds) = some (.scr x) from h)
        exact ⟨k, rfl, hk⟩
      | succ i => exact asOf_scr (cs := r) (j0 := j0) h
    · cases i with
      | zero => simp at h
      | succ i => exact asOf_scr (cs := r) (j0 := j0) h
theorem CAs.get_s {K : PySem.W.Frag} {G : Hp} {σ : L2.St} : ∀ {vs : List V} {cs : List CA} {i k : Nat}, CAs K G σ vs cs → cs[i]? = some (.s k) → ∃ v, vs[i]? = some v ∧ σ[k]? = some (some v)
  | _, _, _, _, .nil, h => by simp at h
  | _, _, 0, k, .d _ _, h => by simp at h
  | _, _, 0, k, .s q _, h => by
    simp at h
    subst h
    exact ⟨_, rfl, q⟩
  | _, _, i + 1, k, .d _ t, h => by
    obtain ⟨v, a, b⟩ := CAs.get_s (i := i) (k := k) t (by simpa using h)
    exact ⟨v, by simpa using a, b⟩
  | _, _, i + 1, k, .s _ t, h => by
    obtain ⟨v, a, b⟩ := CAs.get_s (i := i) (k := k) t (by simpa using h)
    exact ⟨v, by simpa using a, b⟩
theorem CAs.get_d {K : PySem.W.Frag} {G : Hp} {σ : L2.St} : ∀ {vs : List V} {cs : List CA} {i : Nat} {x : PyData}, CAs K G σ vs cs → cs[i]? = some (.d x) → ∃ v, vs[i]? = some v ∧ Rp K G v x
  | _, _, _, _, .nil, h => by simp at h
  | _, _, 0, x, .d q _, h => by
    simp at h
    subst h
    exact ⟨_, rfl, q⟩
  | _, _, 0, x, .s _ _, h => by simp at h
  | _, _, i + 1, x, .d _ t, h => by
    obtain ⟨v, a, b⟩ := CAs.get_d (i := i) (x := x) t (by simpa using h)
    exact ⟨v, by simpa using a, b⟩
  | _, _, i + 1, x, .s _ t, h => by
    obtain ⟨v, a, b⟩ := CAs.get_d (i := i) (x := x) t (by simpa using h)
    exact ⟨v, by simpa using a, b⟩
theorem setOut_len {δ : List Sl} {i : Nat} {o : List PyData} : (setOut δ i o).length = δ.length := by
  unfold setOut
  split
  · rw [List.length_set]
  · rfl
theorem setOut_get {δ : List Sl} {i k : Nat} {o : List PyData} {t : Option Nat} {ds : List PyData} (hi : δ[i]? = some (.own t ds)) : (setOut δ i o)[k]? = if i = k then some (.own t o) else δ[k]? := by
  unfold setOut
  rw [hi]
  show (δ.set i (.own t o))[k]? = _
  rw [List.getElem?_set]
  by_cases h : i = k
  · rw [if_pos h, if_pos h, if_pos (List.getElem?_eq_some_iff.mp hi).1]
  · rw [if_neg h, if_neg h]
theorem setOuts_get : ∀ {M : List Nat} {δ : List Sl} {outs : List (List PyData)} {k : Nat}, M.Nodup → outs.length = M.length → (∀ i ∈ M, ∃ t ds, δ[i]? = some (.own t ds)) →
    (setOuts δ M outs).length = δ.length ∧ (k ∉ M → (setOuts δ M outs)[k]? = δ[k]?) ∧ (∀ (j : Nat) (t : Option Nat) (ds : List PyData), M[j]? = some k → δ[k]? = some (.own t ds) → ∃ o, outs[j]? = some o ∧ (setOuts δ M outs)[k]? = some (.own t o))
  | [], δ, outs, k, _, _, _ => ⟨rfl, fun _ => rfl, fun j t ds h => by simp at h⟩
  | i :: M, δ, [], k, _, hl, _ => by simp at hl
  | i :: M, δ, o :: os, k, hn, hl, ho => by
    obtain ⟨hi, hn'⟩ := List.nodup_cons.mp hn
    obtain ⟨t0, ds0, h0⟩ := ho i List.mem_cons_self
    have ho' : ∀ q ∈ M, ∃ t ds, (setOut δ i o)[q]? = some (.own t ds) := fun q hq => by
      obtain ⟨t, ds, h⟩ := ho q (List.mem_cons_of_mem _ hq)
      rw [setOut_get h0, if_neg (fun z => hi (by rw [z]; exact hq))]
      exact ⟨t, ds, h⟩
    obtain ⟨a, b, cc⟩ := setOuts_get (M := M) (δ := setOut δ i o) (outs := os) (k := k) hn' (by simpa using hl) ho'
    show (setOuts (setOut δ i o) M os).length = δ.length ∧ _ ∧ _
    refine ⟨by rw [a, setOut_len], fun hk => ?_, fun j t ds hj hd => ?_⟩
    · show (setOuts (setOut δ i o) M os)[k]? = δ[k]?
      rw [b fun z => hk (List.mem_cons_of_mem _ z), setOut_get h0, if_neg fun z => hk (by rw [z]; exact List.mem_cons_self)]
    · show ∃ o', (o :: os)[j]? = some o' ∧ (setOuts (setOut δ i o) M os)[k]? = some (.own t o')
      cases j with
      | zero =>
        have e : i = k := by simpa using hj
        subst e
        rw [h0] at hd
        cases hd
        refine ⟨o, rfl, ?_⟩
        rw [b hi, setOut_get h0, if_pos rfl]
      | succ j =>
        have hj' : M[j]? = some k := by simpa using hj
        have ne : ¬ i = k := fun z => hi (by rw [z]; exact List.mem_of_getElem? hj')
        obtain ⟨o', q1, q2⟩ := cc j t ds hj' (by rw [setOut_get h0, if_neg ne]; exact hd)
        exact ⟨o', by simpa using q1, q2⟩
end TL

set_option Elab.async false
set_option linter.all false
set_option maxRecDepth 100000
set_option maxHeartbeats 2000000
/-! TL7: calls and defs by data, the rules. -/
namespace TL
open PySem PySem.Spec L2

theorem map_some_get {vs : List V} {i : Nat} {v : V} (h : vs[i]? = some v) : (vs.map some)[i]? = some (some v) := by
  rw [List.getElem?_map, h]
  rfl
theorem addr_of {σ : L2.St} {i : Nat} {p : Addr} (h : σ[i]? = some (some (.ref p))) : addr σ i = p := by
  unfold addr
  rw [h]
theorem getD_of {M : List Nat} {j i : Nat} (h : M[j]? = some i) : M.getD j 0 = i := by
  rw [List.getD_eq_getElem?_getD, h]
  rfl
section
variable {K : PySem.W.Frag} {c : Cf} {G H G' H' : Hp} {σ : L2.St} {δ : List Sl} {cs : List CA} {vs : List V} {outs : List (List PyData)}
abbrev calleeC (σ : L2.St) (M : List Nat) (G H : Hp) : Cf := ⟨fun j => addr σ (M.getD j 0), M.length, G, H, []⟩
/-- the list in a slot handed on -/
theorem mut_at (E : EnvOk K c G H σ δ) {j : Nat} (hj : j < (muts δ cs).length) : ∃ i t ds p xs, (muts δ cs)[j]? = some i ∧ δ[i]? = some (.own t ds) ∧ σ[i]? = some (some (.ref p)) ∧ G p = none ∧ H p = some (.lst xs) ∧ RpAll K G xs ds ∧ addr σ ((muts δ cs).getD j 0) = p ∧
    (match t with
        | some j => j < c.n ∧ p = c.τ j
        | none => c.H0 p = none ∧ ∀ j, j < c.n → p ≠ c.τ j) := by
  have hi : (muts δ cs)[j]? = some (muts δ cs)[j] := List.getElem?_eq_getElem hj
  obtain ⟨t, ds, h⟩ := muts_own (List.mem_of_getElem? hi)
  obtain ⟨p, xs, e, g, hh, r, q⟩ := E.sl _ _ h
  exact ⟨_, t, ds, p, xs, hi, h, e, g, hh, r, by rw [getD_of hi]; exact addr_of e, q⟩
theorem callee_env (E : EnvOk K c G H σ δ) (r : CAs K G σ vs cs) (hn : (muts δ cs).Nodup) : EnvOk K (calleeC σ (muts δ cs) G H) G H (vs.map some) (asOf δ cs 0) where
  g0 := Ex.refl _
  ex := E.ex
  fr := fun a o h _ => h
  fs := fun a h _ => h
  tg := fun j hj => by
    obtain ⟨i, t, ds, p, xs, _, _, _, g, hh, _, ea, _⟩ := mut_at E hj
    show H (addr σ ((muts δ cs).getD j 0)) ≠ none ∧ G (addr σ ((muts δ cs).getD j 0)) = none
    rw [ea, hh]
    exact ⟨(by intro z; cases z), g⟩
  len := by rw [List.length_map, r.len, asOf_len]
  sl := fun i s h => by
    cases s with
    | no => trivial
    | dat x =>
      obtain ⟨v, hv, rv⟩ := r.get_d (asOf_dat h)
      exact ⟨v, map_some_get hv, rv⟩
    | scr x =>
      obtain ⟨k, h1, h2⟩ := asOf_scr h
      obtain ⟨v, hv, hσ⟩ := r.get_s h1
      obtain ⟨a, xs, e, q, rr⟩ := E.sl k _ h2
      rw [hσ] at e
      have ev := Option.some.inj (Option.some.inj e)
      subst ev
      exact ⟨a, xs, map_some_get hv, q, rr⟩
    | own t ds =>
      obtain ⟨k, i', t', et, hM, hδ, hc⟩ := asOf_own h
      obtain ⟨v, hv, hσ⟩ := r.get_s hc
      obtain ⟨p, xs, e, g, hh, rr, _⟩ := E.sl i' _ hδ
      rw [hσ] at e
      have ev := Option.some.inj (Option.some.inj e)
      subst ev
      refine ⟨p, xs, map_some_get hv, g, hh, rr, ?_⟩
      rw [et, Nat.zero_add]
      refine ⟨(List.getElem?_eq_some_iff.mp hM).1, ?_⟩
      show p = addr σ ((muts δ cs).getD k 0)
      rw [getD_of hM, addr_of hσ]
  ap := fun i j t1 d1 t2 d2 hij h1 h2 => by
    obtain ⟨k1, i1, t1', e1, hM1, hδ1, hc1⟩ := asOf_own h1
    obtain ⟨k2, i2, t2', e2, hM2, hδ2, hc2⟩ := asOf_own h2
    obtain ⟨v1, hv1, hσ1⟩ := r.get_s hc1
    obtain ⟨v2, hv2, hσ2⟩ := r.get_s hc2
    rw [map_some_get hv1, map_some_get hv2]
    intro z
    have ev := Option.some.inj (Option.some.inj z)
    by_cases hk : k1 = k2
    · subst hk
      rw [e1] at h1
      rw [e2] at h2
      exact hij (asOf_tag hn h1 h2)
    · have ne : i1 ≠ i2 := fun q => hk (nd_ix hn hM1 (by rw [q]; exact hM2))
      exact E.ap i1 i2 _ _ _ _ ne hδ1 hδ2 (by rw [hσ1, hσ2, ev])
  hd := fun p xs h => nomatch h
theorem caller_back (E : EnvOk K c G H σ δ) (hn : (muts δ cs).Nodup) (hl : outs.length = (muts δ cs).length) (F : Fin K (calleeC σ (muts δ cs) G H) G' H' outs) : EnvOk K c G' H' σ (setOuts δ (muts δ cs) outs) := by
  have so := fun k => setOuts_get (M := muts δ cs) (δ := δ) (outs := outs) (k := k) hn hl fun i hi => muts_own hi
  -- what is no callee's own list stays
  have far : ∀ a, (∀ (i : Nat) (t : Option Nat) (ds : List PyData), i ∈ muts δ cs → δ[i]? = some (.own t ds) → σ[i]? ≠ some (some (.ref a))) → ∀ o, H a = some o → H' a = some o := fun a ha o h => by
    refine F.fr a o h fun j hj z => ?_
    obtain ⟨i, t, ds, p, xs, hi, hd, hσ, _, _, _, ea, _⟩ := mut_at E hj
    have z : a = addr σ ((muts δ cs).getD j 0) := z
    rw [ea] at z
    exact ha i t ds (List.mem_of_getElem? hi) hd (by rw [hσ, z])
  have gno : ∀ a, G a = none → H a ≠ none → G' a = none := F.fs
  have back : ∀ (k : Nat) (t : Option Nat) (ds : List PyData), (setOuts δ (muts δ cs) outs)[k]? = some (.own t ds) → ∃ ds', δ[k]? = some (.own t ds') := fun k t ds h => by
    by_cases hk : k ∈ muts δ cs
    · obtain ⟨j, hj, e⟩ := List.mem_iff_getElem.mp hk
      obtain ⟨t', ds', hd⟩ := muts_own hk
      obtain ⟨o, _, q⟩ := (so k).2.2 j t' ds' (by rw [List.getElem?_eq_getElem hj, e]) hd
      rw [h] at q
      cases q
      exact ⟨ds', hd⟩
    · rw [(so k).2.1 hk] at h
      exact ⟨ds, h⟩
  have tagH : ∀ j, j < c.n → H' (c.τ j) ≠ none := fun j hj => by
    by_cases hk : ∃ j', j' < (muts δ cs).length ∧ c.τ j = addr σ ((muts δ cs).getD j' 0)
    · obtain ⟨j', hj', e⟩ := hk
      rw [e]
      exact (F.tg j' hj').1
    · cases q : H (c.τ j) with
      | none => exact absurd q (E.tg j hj).1
      | some o =>
        rw [F.fr _ o q fun j' hj' z => hk ⟨j', hj', z⟩]
        exact fun z => nomatch z
  exact {
    g0 := E.g0.trans F.g0
    ex := F.ex
    fr := fun a o h k => by
      refine far a (fun i t ds _ hd hσ => ?_) o (E.fr a o h k)
      obtain ⟨p, xs, e, _, _, _, q⟩ := E.sl i _ hd
      rw [hσ] at e
      have ev := V.ref.inj (Option.some.inj (Option.some.inj e))
      subst ev
      cases t with
      | none =>
        rw [q.1] at h
        cases h
      | some j => exact k j q.1 q.2
    fs := fun a h1 h2 => by
      by_cases ht : ∃ j, j < c.n ∧ a = c.τ j
      · obtain ⟨j, hj, rfl⟩ := ht
        exact gno _ (E.tg j hj).2 (E.tg j hj).1
      · refine gno a (E.fs a h1 h2) ?_
        cases q : c.H0 a with
        | none => exact absurd q h2
        | some o =>
          rw [E.fr a o q fun j hj z => ht ⟨j, hj, z⟩]
          exact fun z => nomatch z
    tg := fun j hj => ⟨tagH j hj, gno _ (E.tg j hj).2 (E.tg j hj).1⟩
    len := by rw [E.len, (so 0).1]
    sl := fun k s h => by
      by_cases hk : k ∈ muts δ cs
      · obtain ⟨j, hj, e⟩ := List.mem_iff_getElem.mp hk
        have hj' : (muts δ cs)[j]? = some k := by rw [List.getElem?_eq_getElem hj, e]
        obtain ⟨i, t, ds, p, xs, hi, hd, hσ, g, hh, _, ea, q⟩ := mut_at E hj
        rw [hj'] at hi
        cases hi
        obtain ⟨o, ho, so'⟩ := (so k).2.2 j t ds hj' hd
        rw [h] at so'
        cases so'
        obtain ⟨ys, f1, f2⟩ := F.out j o ho
        have f1 : H' (addr σ ((muts δ cs).getD j 0)) = some (.lst ys) := f1
        rw [ea] at f1
        exact ⟨p, ys, hσ, gno p g (by rw [hh]; exact fun z => nomatch z), f1, f2, q⟩
      · rw [(so k).2.1 hk] at h
        have z := E.sl k s h
        cases s with
        | no => trivial
        | dat d =>
          obtain ⟨x, e, r⟩ := z
          exact ⟨x, e, r.up F.g0⟩
        | scr d =>
          obtain ⟨a, xs, e, q, r⟩ := z
          exact ⟨a, xs, e, ex_l F.g0 q, r.up F.g0⟩
        | own t ds =>
          obtain ⟨p, xs, e, g, hh, r, q⟩ := z
          refine ⟨p, xs, e, gno p g (by rw [hh]; exact fun z => nomatch z), far p (fun i t' ds' hi hd hσ => ?_) _ hh, r.up F.g0, q⟩
          exact E.ap k i _ _ _ _ (fun z => hk (by rw [z]; exact hi)) h hd (by rw [e, hσ])
    ap := fun i j t1 d1 t2 d2 hij h1 h2 => by
      obtain ⟨e1, b1⟩ := back i t1 d1 h1
      obtain ⟨e2, b2⟩ := back j t2 d2 h2
      exact E.ap i j _ _ _ _ hij b1 b2
    hd := fun p xs hm => by
      obtain ⟨a1, a2, a3, a4, a5⟩ := E.hd p xs hm
      refine ⟨far p (fun i t ds _ hd => a5 i t ds hd) _ a1, gno p a2 (by rw [a1]; exact fun z => nomatch z), a3, a4, fun i t ds hs => ?_⟩
      obtain ⟨ds', b⟩ := back i t ds hs
      exact a5 i t ds' b }
theorem re_call {S : DSp} {t : TA} {ua : DCA} (ha : RCA K t ua) : RE K (tCall (spD K S) [] E0 t) (dCall S ua) := by
  intro c σ G H δ Q R E h k
  refine ha c σ G H δ _ _ E h fun cs δ1 vs G1 H1 h1 E1 e1 r1 => ?_
  obtain ⟨hn, hS⟩ := h1
  show spD K S (vs ++ []) H1 Q E0
  rw [List.append_nil]
  refine ⟨calleeC σ (muts δ1 cs) G1 H1, asOf δ1 cs 0, _, rfl, rfl, callee_env E1 r1 hn, hS, fun d outs v G' H' hR F rv => ?_⟩
  exact k d _ v G' H' hR.2 (caller_back E1 hn hR.1 F) (e1.trans F.g0) rv
theorem rs_callOwn {S : DSn} {t : TA} {ua : DCA} {i : Nat} (ha : RCA K t ua) : RS K (tAsg (tCall (spN K S) [] E0 t) (gName i)) (fun E δ => dCallOwn i S ua E.nx δ) := by
  intro c σ G H δ D E EV h k
  refine ha c σ G H δ _ _ EV h fun cs δ1 vs G1 H1 h1 E1 e1 r1 => ?_
  obtain ⟨hn, hS⟩ := h1
  show spN K S (vs ++ []) H1 _ E0
  rw [List.append_nil]
  refine ⟨calleeC σ (muts δ1 cs) G1 H1, asOf δ1 cs 0, _, rfl, rfl, callee_env E1 r1 hn, hS, fun ds outs p xs G' H' hR F hp gp hh rr => ?_⟩
  have EB := caller_back E1 hn hR.1 F
  have old : ∀ (j : Nat) (t : Option Nat) (es : List PyData), (setOuts δ1 (muts δ1 cs) outs)[j]? = some (Sl.own t es) → σ[j]? ≠ some (some (V.ref p)) := fun j t es hs z => by
    have so := setOuts_get (M := muts δ1 cs) (δ := δ1) (outs := outs) (k := j) hn hR.1 fun i hi => muts_own hi
    have hd : ∃ t' ds', δ1[j]? = some (Sl.own t' ds') := by
      by_cases hj : j ∈ muts δ1 cs
      · exact muts_own hj
      · rw [so.2.1 hj] at hs
        exact ⟨_, _, hs⟩
    obtain ⟨t', ds', hd⟩ := hd
    obtain ⟨q, ys, e, _, q1, _⟩ := E1.sl j _ hd
    rw [z] at e
    rw [← V.ref.inj (Option.some.inj (Option.some.inj e)), hp] at q1
    cases q1
  have n0 : ∀ zs, (p, zs) ∉ c.hid := fun zs z => by
    have q := (E1.hd p zs z).1
    rw [hp] at q
    cases q
  have EH : EnvOk K { c with hid := (p, xs) :: c.hid } G' H' σ (setOuts δ1 (muts δ1 cs) outs) := {
    g0 := EB.g0, ex := EB.ex, fr := EB.fr, fs := EB.fs, tg := EB.tg, len := EB.len
    sl := fun i s h => by
      have z := EB.sl i s h
      cases s with
      | no => trivial
      | dat d => exact z
      | scr d => exact z
      | own t d => exact z
    ap := EB.ap
    hd := fun q ys hm => by
      rcases List.mem_cons.mp hm with e | hm
      · cases e
        exact ⟨hh, gp, E1.new0 hp, fun j hj z => (E1.tg j hj).1 (by rw [← z]; exact hp), old⟩
      · exact EB.hd q ys hm }
  exact k.nx _ G' H' _ hR.2 (EH.give n0 rr i) (e1.trans F.g0)
end

/-! ### a def -/
def OutsIn (δ : List Sl) (outs : List (List PyData)) : Prop := ∀ (j : Nat) (cs : List PyData), outs[j]? = some cs → ∃ i : Nat, δ[i]? = some (Sl.own (some j) cs)
theorem outs0 {δ : List Sl} : OutsIn δ [] := fun j cs h => by simp at h
def endsOf (R : PyData → List (List PyData) → Prop) : DEnds where
  nx := fun δ => ∃ outs, R .none outs ∧ OutsIn δ outs
  rt := fun d δ => ∃ outs, R d outs ∧ OutsIn δ outs
section
variable {P : Program} {w : World} {K : PySem.W.Frag} {mg : Str → Option Value} {base : Heap}
theorem EnvOk.more {c : Cf} {G H : Hp} {σ : L2.St} {δ : List Sl} (E : EnvOk K c G H σ δ) (n : Nat) : EnvOk K c G H (σ ++ List.replicate n none) (δ ++ List.replicate n .no) := by
  have g1 : ∀ (i : Nat) (s : Sl), (δ ++ List.replicate n Sl.no)[i]? = some s → s ≠ Sl.no → δ[i]? = some s ∧ (σ ++ List.replicate n none)[i]? = σ[i]? := fun i s h hs => by
    by_cases hi : i < δ.length
    · rw [List.getElem?_append_left hi] at h
      exact ⟨h, List.getElem?_append_left (by rw [E.len]; exact hi)⟩
    · rw [List.getElem?_append_right (by omega), List.getElem?_replicate] at h
      split at h
      · exact absurd (Option.some.inj h).symm hs
      · cases h
  exact {
    g0 := E.g0, ex := E.ex, fr := E.fr, fs := E.fs, tg := E.tg
    len := by rw [List.length_append, List.length_append, List.length_replicate, List.length_replicate, E.len]
    sl := fun i s h => by
      cases s with
      | no => trivial
      | dat d =>
        obtain ⟨a, b⟩ := g1 i _ h (by intro z; cases z)
        rw [b]
        exact E.sl i _ a
      | scr d =>
        obtain ⟨a, b⟩ := g1 i _ h (by intro z; cases z)
        rw [b]
        exact E.sl i _ a
      | own t d =>
        obtain ⟨a, b⟩ := g1 i _ h (by intro z; cases z)
        rw [b]
        exact E.sl i _ a
    ap := fun i j t1 d1 t2 d2 hij h1 h2 => by
      obtain ⟨a, b⟩ := g1 i _ h1 (by intro z; cases z)
      obtain ⟨a', b'⟩ := g1 j _ h2 (by intro z; cases z)
      rw [b, b']
      exact E.ap i j _ _ _ _ hij a a'
    hd := fun p xs h => by
      obtain ⟨a1, a2, a3, a4, a5⟩ := E.hd p xs h
      refine ⟨a1, a2, a3, a4, fun i t ds hs => ?_⟩
      obtain ⟨a, b⟩ := g1 i _ hs (by intro z; cases z)
      rw [b]
      exact a5 i t ds a }
theorem fnD {x qual : Str} {st : Stmt} {f : Addr} {fd : FuncData} {N ps : List Str} {k : Nat} {S : DSp} (F : Fun K x qual st f fd) (sc : FnScope N ps (defScope st)) (len : ∀ as R, S as R → as.length = ps.length)
    (hbody : ∀ (cdv : Value) (A : Around) (outer : List Env) (s : Shared) (H : Hp) (E : XK), Room k (A.deeper (PyProof.Rows.envOfC qual (defScope st) s.heap.objs.size f cdv)) →
      ∃ t u, DSs (cxOf CX0 P w K mg base N qual (defScope st) f cdv A outer s H E).nox (defBody st) t u ∧ ∀ as R, S as R → u (endsOf R) (as ++ List.replicate (N.length - ps.length) .no)) : FnOk P w K mg base CX0 (k + 1) f fd ps (spD K S) := by
  refine F.ok sc (fun vs H Q E h => ?_) (fun cdv A outer s H vs Q E hr h => ?_)
  · obtain ⟨c, as, R, _, _, EV, hS, _⟩ := h
    have := EV.len
    rw [List.length_map] at this
    rw [this]
    exact len as R hS
  · obtain ⟨c, as, R, hh, h0, EV, hS, k⟩ := h
    obtain ⟨t, u, D, red⟩ := hbody cdv A outer s H E hr
    refine ⟨t, D.ps, ?_⟩
    have l1 : vs.length = ps.length := by
      have := EV.len
      rw [List.length_map] at this
      rw [this]
      exact len as R hS
    have EV' : EnvOk K c c.G0 H (L2.start N vs) (as ++ List.replicate (N.length - ps.length) .no) := by
      have z := EV.more (N.length - ps.length)
      unfold L2.start
      rw [l1]
      exact z
    have fin : ∀ {σ' : L2.St} {G' H' : Hp} {δ' : List Sl} {outs : List (List PyData)}, EnvOk K c G' H' σ' δ' → OutsIn δ' outs → Fin K c G' H' outs := fun {σ' G' H' δ' outs} E ho =>
      ⟨E.g0, E.ex, E.fr, E.fs, E.tg, fun j cs hj => by
        obtain ⟨i, hi⟩ := ho j cs hj
        obtain ⟨p, xs, _, _, hh, r, q⟩ := E.sl i _ hi
        exact ⟨xs, by rw [← q.2]; exact hh, r⟩⟩
    refine D.rs c (L2.start N vs) c.G0 H _ _ (endsOf R) EV' (red as R hS) ⟨?_, ?_, ?_, ?_, ?_⟩
    · rintro σ' G' H' δ' ⟨outs, hR, ho⟩ E' e
      exact k .none outs .non G' H' hR (fin E' ho) .non
    · rintro d δ' v σ' G' H' ⟨outs, hR, ho⟩ E' e r
      exact k d outs v G' H' hR (fin E' ho) r
    · exact fun σ' G' H' δ' a _ _ => False.elim a
    · exact fun σ' G' H' δ' a _ _ => False.elim a
    · exact fun ds δ' p xs σ' G' H' a _ _ _ _ => False.elim a
def endsNew (R : List PyData → List (List PyData) → Prop) : DEnds where
  nx := fun _ => False
  rt := fun _ _ => False
  rn := fun ds δ => ∃ outs, R ds outs ∧ OutsIn δ outs
/-- a def that hands back a new list -/
theorem fnN {x qual : Str} {st : Stmt} {f : Addr} {fd : FuncData} {N ps : List Str} {k : Nat} {S : DSn} (F : Fun K x qual st f fd) (sc : FnScope N ps (defScope st)) (len : ∀ as R, S as R → as.length = ps.length)
    (hbody : ∀ (cdv : Value) (A : Around) (outer : List Env) (s : Shared) (H : Hp) (E : XK), Room k (A.deeper (PyProof.Rows.envOfC qual (defScope st) s.heap.objs.size f cdv)) →
      ∃ t u, DSs (cxOf CX0 P w K mg base N qual (defScope st) f cdv A outer s H E).nox (defBody st) t u ∧ ∀ as R, S as R → u (endsNew R) (as ++ List.replicate (N.length - ps.length) .no)) : FnOk P w K mg base CX0 (k + 1) f fd ps (spN K S) := by
  refine F.ok sc (fun vs H Q E h => ?_) (fun cdv A outer s H vs Q E hr h => ?_)
  · obtain ⟨c, as, R, _, _, EV, hS, _⟩ := h
    have := EV.len
    rw [List.length_map] at this
    rw [this]
    exact len as R hS
  · obtain ⟨c, as, R, hh, h0, EV, hS, k⟩ := h
    obtain ⟨t, u, D, red⟩ := hbody cdv A outer s H E hr
    refine ⟨t, D.ps, ?_⟩
    have l1 : vs.length = ps.length := by
      have := EV.len
      rw [List.length_map] at this
      rw [this]
      exact len as R hS
    have EV' : EnvOk K c c.G0 H (L2.start N vs) (as ++ List.replicate (N.length - ps.length) .no) := by
      have z := EV.more (N.length - ps.length)
      unfold L2.start
      rw [l1]
      exact z
    refine D.rs c (L2.start N vs) c.G0 H _ _ (endsNew R) EV' (red as R hS) ⟨fun σ' G' H' δ' a _ _ => False.elim a, fun d δ' v σ' G' H' a _ _ _ => False.elim a, fun σ' G' H' δ' a _ _ => False.elim a, fun σ' G' H' δ' a _ _ => False.elim a, ?_⟩
    rintro ds δ' p xs σ' G' H' ⟨outs, hR, ho⟩ E' hn e r
    obtain ⟨q1, q2, q3, q4, q5⟩ := E'.hd p xs List.mem_cons_self
    refine k ds outs p xs G' H' hR ⟨E'.g0, E'.ex, E'.fr, E'.fs, E'.tg, fun j cs hj => ?_⟩ (by rw [← h0]; exact q3) q2 q1 r
    obtain ⟨i, hi⟩ := ho j cs hj
    obtain ⟨p', ys, _, _, hh', r', q⟩ := E'.sl i _ hi
    exact ⟨ys, by rw [← q.2]; exact hh', r'⟩
end
end TL

set_option Elab.async false
set_option linter.all false
set_option maxRecDepth 100000
set_option maxHeartbeats 2000000
/-! TL8: the rules by syntax. -/
namespace TL
open PySem PySem.Spec L2

/-- a def that may be called by its name -/
structure Kn (P : Program) (w : World) (K : PySem.W.Frag) (mg : Str → Option Value) (base : Heap) (k : Nat) (x : Str) (S : DSp) : Prop where
  ex : ∃ (f : Addr) (fd : FuncData) (ps : List Str), FnOk P w K mg base CX0 k f fd ps (spD K S) ∧ mg x = some (.ref f) ∧ PySem.W.keepIn K (.ref f) = true ∧ Binds K fd ps []
section
variable {X : Cx} {a b c e : Expr} {es : List Expr} {ta tb tc te : TE} {ua ub uc ue : DTE} {pos p p2 : Pos} {t t' : TS} {u u' : DTS} {tt : TT} {ut : DTT} {tr : TA} {ur : DTA} {tca : TA} {uca : DCA}
theorem de_chain {op op' : CmpOp} {r r' : R2} {rd rd' : R2D} (ho : OpR X (compareOp op) r) (hr : RO X.K r rd) (ho' : OpR X (compareOp op') r') (hr' : RO X.K r' rd') (ha : DE X a ta ua) (hb : DE X b tb ub) (hc : DE X c tc uc)
    (hm : lastMarks [op, op'] [b, c] = false := by with_unfolding_all rfl) : DE X (.Compare a [op, op'] [b, c] pos) (tChain r r' ta tb tc) (dChain rd rd' ua ub uc) := ⟨pe_chain ho ho' ha.pe hb.pe hc.pe hm, re_chain ha.re hb.re hc.re hr hr'⟩
theorem dt_chain {op op' : CmpOp} {r r' : R2} {rd rd' : R2D} (ho : OpR X (compareOp op) r) (hr : RO X.K r rd) (ho' : OpR X (compareOp op') r') (hr' : RO X.K r' rd') (ha : DE X a ta ua) (hb : DE X b tb ub) (hc : DE X c tc uc)
    (hm : lastMarks [op, op'] [b, c] = false := by with_unfolding_all rfl) : DT X (.Compare a [op, op'] [b, c] pos) (tTest (tChain r r' ta tb tc)) (dTest (dChain rd rd' ua ub uc)) := ⟨pt_chain ho ho' ha.pe hb.pe hc.pe hm, rt_test (re_chain ha.re hb.re hc.re hr hr')⟩
theorem de_ixV (i : Nat) {x : Str} (hb : DE X b tb ub) (hN : X.N[i]? = some x := by rfl) (hv : Vis X.env.scope x := by first | exact Or.inl rfl | exact Or.inr (Or.inl rfl) | exact Or.inr (Or.inr rfl)) (hd : (x == ("__debug__" : Str)) = false := by decide)
    (hcd : (x == ("__classdict__" : Str)) = false := by decide) (hs : PlainIx b := by exact fun _ _ => rfl) : DE X (.Subscript (.Name x p) b pos) (tOp (rIxL X.K) (tVar i) tb) (dIxV i ub) := ⟨pe_ix ix_list (pe_var hN hv hd hcd) hb.pe hs, re_ixV hb.re⟩
theorem de_len {ps : Pos} (hm : X.mg "len" = none) (ha : DE X e te ue) (hg : Gl X "len" := by rfl) (hs : starEach [e] X.env = (false, eval e X.env) :: starEach [] X.env := by rfl) (hpl : (backTo pos (starEach [] X.env)).any (·.1) = false := by rfl) :
    DE X (.Call (.Name "len" p) [e] [] pos) (tCB (rLen X.K) (tCons te tNil)) (dLen ue) := ⟨pe_callB call_len hg hm PySem.boot_len (pa_cons ha.pe pa_nil hs) (by decide) (by decide) hs hpl, re_len ha.re⟩
theorem de_lenV (i : Nat) {x : Str} (hm : X.mg "len" = none) (hN : X.N[i]? = some x := by rfl) (hv : Vis X.env.scope x := by first | exact Or.inl rfl | exact Or.inr (Or.inl rfl) | exact Or.inr (Or.inr rfl)) (hd : (x == ("__debug__" : Str)) = false := by decide)
    (hcd : (x == ("__classdict__" : Str)) = false := by decide) (hg : Gl X "len" := by rfl) (hs : starEach [.Name x p2] X.env = (false, eval (.Name x p2) X.env) :: starEach [] X.env := by rfl) (hpl : (backTo pos (starEach [] X.env)).any (·.1) = false := by rfl) :
    DE X (.Call (.Name "len" p) [.Name x p2] [] pos) (tCB (rLen X.K) (tCons (tVar i) tNil)) (dLenV i) := ⟨pe_callB call_len hg hm PySem.boot_len (pa_cons (pe_var hN hv hd hcd) pa_nil hs) (by decide) (by decide) hs hpl, re_lenV⟩
theorem de_isi {T : String} {Tn : Str} (hm : X.mg "isinstance" = none) (hT : X.mg Tn = none) (hv : bootBuiltins Tn = some (.type T)) (ha : DE X e te ue) (hg : Gl X "isinstance" := by rfl) (hgT : Gl X Tn := by rfl) (hb : bootBuiltins "isinstance" = some (.builtin "isinstance") := by decide +kernel)
    (hn : Tn ≠ "__name__" := by decide) (hd : (Tn == ("__debug__" : Str)) = false := by decide)
    (hs : starEach [e, .Name Tn p2] X.env = (false, eval e X.env) :: starEach [.Name Tn p2] X.env := by rfl) (hs2 : starEach [.Name Tn p2] X.env = (false, eval (.Name Tn p2) X.env) :: starEach [] X.env := by rfl) (hpl : (backTo pos (starEach [.Name Tn p2] X.env)).any (·.1) = false := by rfl) :
    DE X (.Call (.Name "isinstance" p) [e, .Name Tn p2] [] pos) (tCB (rIsi X.K) (tCons te (tCons (tC (.ty T)) tNil))) (dIsi T ue) :=
  ⟨pe_callB call_isi hg hm hb (pa_cons ha.pe (pa_cons (pe_bltn (v := .ty T) hgT hT hv rfl hn hd) pa_nil hs2) hs) (by decide) (by decide) hs hpl, re_isi ha.re⟩
theorem de_int1 (hm : X.mg "int" = none) (ha : DE X e te ue) (hg : Gl X "int" := by rfl) (hb : bootBuiltins "int" = some (.type "int") := by decide +kernel) (hs : starEach [e] X.env = (false, eval e X.env) :: starEach [] X.env := by rfl) (hpl : (backTo pos (starEach [] X.env)).any (·.1) = false := by rfl) :
    DE X (.Call (.Name "int" p) [e] [] pos) (tCB rInt1 (tCons te tNil)) (dInt1 ue) := ⟨pe_callTy call_int1 hg hm hb (pa_cons ha.pe pa_nil hs) (by decide) (by decide) hs hpl, re_int1 ha.re⟩
theorem de_join {apos : Pos} (ha : DE X a ta ua) (hb : DE X b tb ub) (hs : starEach [b] X.env = [(false, eval b X.env)] := by rfl) (hbase : attributeBase a "join" X.env (eval a X.env) = eval a X.env := by rfl) (hline : (apos.endLine == pos.line) = true := by rfl) :
    DE X (.Call (.Attribute a "join" apos) [b] [] pos) (tM1 (rJoin X.K) ta tb) (dJoin ua ub) := ⟨pe_join ha.pe hb.pe hs hbase hline, re_join ha.re hb.re⟩
theorem dca_nil : DCa X [] tNil cNil := ⟨pa_nil, rca_nil⟩
theorem dca_d (ha : DE X e te ue) (hr : DCa X es tca uca) (hs : starEach (e :: es) X.env = (false, eval e X.env) :: starEach es X.env := by rfl) : DCa X (e :: es) (tCons te tca) (cD ue uca) := ⟨pa_cons ha.pe hr.pa hs, rca_d ha.re hr.ra⟩
theorem dca_s (i : Nat) {x : Str} (hr : DCa X es tca uca) (hN : X.N[i]? = some x := by rfl) (hv : Vis X.env.scope x := by first | exact Or.inl rfl | exact Or.inr (Or.inl rfl) | exact Or.inr (Or.inr rfl)) (hd : (x == ("__debug__" : Str)) = false := by decide)
    (hcd : (x == ("__classdict__" : Str)) = false := by decide) (hs : starEach (.Name x p :: es) X.env = (false, eval (.Name x p) X.env) :: starEach es X.env := by rfl) : DCa X (.Name x p :: es) (tCons (tVar i) tca) (cS i uca) := ⟨pa_cons (pe_var hN hv hd hcd) hr.pa hs, rca_s hr.ra⟩
theorem de_call {x : Str} {S : DSp} {k j : Nat} (kn : Kn X.prog X.w X.K X.mg X.base k x S) (hr : Room j X.A) (hk : k ≤ j) (ha : DCa X (e :: es) tca uca) (hg : Gl X x := by rfl) (hdb : (x == ("__debug__" : Str)) = false := by decide)
    (he : starEach (e :: es) X.env = (false, eval e X.env) :: starEach es X.env := by rfl) (hpl : (backTo pos (starEach es X.env)).any (·.1) = false := by rfl) : DE X (.Call (.Name x p) (e :: es) [] pos) (tCall (spD X.K S) [] E0 tca) (dCall S uca) := by
  obtain ⟨f, fd, ps, F, hm, kp, b⟩ := kn.ex
  exact ⟨pe_call F (hr.mono hk) hg hm kp b .nil pass0 ha.pa hdb he hpl, re_call ha.ra⟩
theorem de_call0 {x : Str} {S : DSp} {k j : Nat} (kn : Kn X.prog X.w X.K X.mg X.base k x S) (hr : Room j X.A) (hk : k ≤ j) (hg : Gl X x := by rfl) (hdb : (x == ("__debug__" : Str)) = false := by decide) :
    DE X (.Call (.Name x p) [] [] pos) (tCall (spD X.K S) [] E0 tNil) (dCall S cNil) := by
  obtain ⟨f, fd, ps, F, hm, kp, b⟩ := kn.ex
  exact ⟨pe_call0 F (hr.mono hk) hg hm kp b .nil pass0 hdb, re_call rca_nil⟩

/-- a def that hands back a new list -/
structure KnN (P : Program) (w : World) (K : PySem.W.Frag) (mg : Str → Option Value) (base : Heap) (k : Nat) (x : Str) (S : DSn) : Prop where
  ex : ∃ (f : Addr) (fd : FuncData) (ps : List Str), FnOk P w K mg base CX0 k f fd ps (spN K S) ∧ mg x = some (.ref f) ∧ PySem.W.keepIn K (.ref f) = true ∧ Binds K fd ps []
theorem ds_callOwn (i : Nat) {x y : Str} {cpos : Pos} {S : DSn} {k j : Nat} (hN : X.N.Nodup) (kn : KnN X.prog X.w X.K X.mg X.base k x S) (hr : Room j X.A) (hk : k ≤ j) (ha : DCa X (e :: es) tca uca) (hi : X.N[i]? = some y := by rfl) (hx : Loc X.env.scope y := by first | exact Or.inl rfl | exact Or.inr rfl)
    (hs : swapsWith (.Call (.Name x p) (e :: es) [] cpos) (some (.Name y p2)) pos.line X.env = pure false := by rfl) (hf : X.fn y = true ∨ X.env.scope.names.lookup y = some .local := by first | exact .inl rfl | exact .inr rfl | assumption)
    (hg : Gl X x := by rfl) (hdb : (x == ("__debug__" : Str)) = false := by decide)
    (he : starEach (e :: es) X.env = (false, eval e X.env) :: starEach es X.env := by rfl) (hpl : (backTo cpos (starEach es X.env)).any (·.1) = false := by rfl) :
    DS X (.Assign [.Name y p2] (.Call (.Name x p) (e :: es) [] cpos) pos) (tAsg (tCall (spN X.K S) [] E0 tca) (gName i)) (fun E δ => dCallOwn i S uca E.nx δ) := by
  obtain ⟨f, fd, ps, F, hm, kp, b⟩ := kn.ex
  exact ⟨ps_set hN hi hx (pe_call F (hr.mono hk) hg hm kp b .nil pass0 ha.pa hdb he hpl) hs hf, rs_callOwn ha.ra⟩
theorem ds_retNew (he : DA X es tr ur) : DS X (.Return (some (.List es p)) pos) (tRet (tLst tr)) (dRetNew ur) := ⟨ps_ret (pe_lst he.pa), rs_retNew he.ra⟩
/-! ### statements -/
theorem dss_nil : DSs X [] tNext dNext := ⟨pss_nil, rs_next⟩
theorem dss_cons {st : Stmt} {rest : List Stmt} (h1 : DS X st t u) (h2 : DSs X rest t' u') : DSs X (st :: rest) (tSeq t t') (dSeq u u') := ⟨pss_cons h1.ps h2.ps, rs_seq h1.rs h2.rs⟩
theorem dss_one {st : Stmt} (h1 : DS X st t u) : DSs X [st] t u := ⟨pss_one h1.ps, h1.rs⟩
theorem ds_pass : DS X (.Pass pos) tNext dNext := ⟨ps_pass, rs_next⟩
theorem ds_break : DS X (.Break pos) tBreak dBreak := ⟨ps_break, rs_break⟩
theorem ds_cont : DS X (.Continue pos) tCont dCont := ⟨ps_continue, rs_cont⟩
theorem ds_expr (he : DE X e te ue) (hs : swapsWith e none pos.line X.env = pure false := by rfl) : DS X (.Expr e pos) (tDrop te) (dDrop ue) := ⟨ps_expr he.pe hs, rs_drop he.re⟩
theorem ds_ret (he : DE X e te ue) : DS X (.Return (some e) pos) (tRet te) (dRet ue) := ⟨ps_ret he.pe, rs_ret he.re⟩
theorem ds_retN : DS X (.Return none pos) tRetN dRetN := ⟨ps_retN, rs_retN⟩
theorem ds_if {st st' : List Stmt} (hc : DT X c tt ut) (h1 : DSs X st t u) (h2 : DSs X st' t' u') : DS X (.If c st st' pos) (tIfS tt t t') (dIfS ut u u') := ⟨ps_if hc.pt h1.ps h2.ps, rs_if hc.rt h1.rs h2.rs⟩
theorem dg_name (i : Nat) {x : Str} (hN : X.N.Nodup) (hi : X.N[i]? = some x := by rfl) (hx : Loc X.env.scope x := by first | exact Or.inl rfl | exact Or.inr rfl) (hf : X.fn x = true ∨ X.env.scope.names.lookup x = some .local := by first | exact .inl rfl | exact .inr rfl | assumption) :
    DG X (.Name x pos) (gName i) (dgName i) [i] := ⟨pg_name hN hi hx hf, rg_name⟩
theorem dgs_nil : DGs X [] gNil dgNil [] := ⟨pgs_nil, rgs_nil⟩
theorem dgs_cons {g : TG} {ug : DTG} {gs : TGs} {ugs : DTGs} {js js' : List Nat} (h1 : DG X e g ug js) (h2 : DGs X es gs ugs js') (hs : (assignEach (e :: es) X.env).map (·.2) = assign e X.env :: (assignEach es X.env).map (·.2) := by rfl) :
    DGs X (e :: es) (gCons g gs) (dgCons ug ugs) (js ++ js') := ⟨pgs_cons h1.pg h2.pg hs, rgs_cons h1.rg h2.rg⟩
theorem dg_tup {gs : TGs} {ugs : DTGs} {js : List Nat} {k n : Nat} (hc : X.calm = true) (h : DGs X es gs ugs js) (hn : (assignEach es X.env).length = n := by rfl) (hst : (assignEach es X.env).findIdx? (·.1) = none := by rfl) : DG X (.Tuple es k pos) (gTup X.K n gs) (dgTup n ugs) js :=
  ⟨pg_tup hc h.pg hn hst, rg_tup h.rg⟩
theorem ds_set (i : Nat) {x : Str} (hN : X.N.Nodup) (he : DE X e te ue) (hi : X.N[i]? = some x := by rfl) (hx : Loc X.env.scope x := by first | exact Or.inl rfl | exact Or.inr rfl) (hs : swapsWith e (some (.Name x p)) pos.line X.env = pure false := by rfl)
    (hf : X.fn x = true ∨ X.env.scope.names.lookup x = some .local := by first | exact .inl rfl | exact .inr rfl | assumption) : DS X (.Assign [.Name x p] e pos) (tAsg te (gName i)) (dAsg ue (dgName i)) := ⟨ps_set hN hi hx he.pe hs hf, rs_asg he.re rg_name⟩
theorem ds_setTup {g : TG} {ug : DTG} {js : List Nat} (he : DE X e te ue) (hg : DG X a g ug js) (hs : swapsWithSole [a] e pos.line X.env = pure false := by rfl) (hw : swappedStores [a] e X.env = pure none := by rfl)
    (h1 : (assignEach [a] X.env).map (·.2) = [assign a X.env] := by rfl) : DS X (.Assign [a] e pos) (tAsg te g) (dAsg ue ug) := ⟨ps_asg he.pe hg.pg hs hw h1, rs_asg he.re hg.rg⟩
/-- xs = [..], to change -/
theorem ds_own (i : Nat) {x : Str} (hN : X.N.Nodup) (he : DA X es tr ur) (hi : X.N[i]? = some x := by rfl) (hx : Loc X.env.scope x := by first | exact Or.inl rfl | exact Or.inr rfl) (hs : swapsWith (.List es p2) (some (.Name x p)) pos.line X.env = pure false := by rfl)
    (hf : X.fn x = true ∨ X.env.scope.names.lookup x = some .local := by first | exact .inl rfl | exact .inr rfl | assumption) : DS X (.Assign [.Name x p] (.List es p2) pos) (tAsg (tLst tr) (gName i)) (dAsgOwn i ur) := ⟨ps_set hN hi hx (pe_lst he.pa) hs hf, rs_asgOwn he.ra⟩
theorem ds_setI (i : Nat) {x : Str} (he : DE X e te ue) (hb : DE X b tb ub) (hN : X.N[i]? = some x := by rfl) (hv : Vis X.env.scope x := by first | exact Or.inl rfl | exact Or.inr (Or.inl rfl) | exact Or.inr (Or.inr rfl)) (hd : (x == ("__debug__" : Str)) = false := by decide)
    (hcd : (x == ("__classdict__" : Str)) = false := by decide)
    (hs : swapsWithSole [.Subscript (.Name x p) b p2] e pos.line X.env = pure false := by rfl) (hw : swappedStores [.Subscript (.Name x p) b p2] e X.env = pure none := by rfl) (h1 : (assignEach [.Subscript (.Name x p) b p2] X.env).map (·.2) = [assign (.Subscript (.Name x p) b p2) X.env] := by rfl)
    (ha : ∀ v, assign (.Subscript (.Name x p) b p2) X.env v = (do
      let ov ← holding [v] (eval (.Name x p) X.env)
      let iv ← holding [v, ov] (eval b X.env)
      standAt p2
      holding [v, ov, iv] (setItem ov iv v)
      release [v, ov, iv] []) := by intro _; rfl) :
    DS X (.Assign [.Subscript (.Name x p) b p2] e pos) (tAsg te (gSub (tVar i) tb rSetL)) (dSetI i ue ub) := ⟨ps_asg he.pe (pg_sub (pe_var hN hv hd hcd) hb.pe set_list ha) hs hw h1, rs_setI he.re hb.re⟩
theorem ds_aug (i : Nat) {x : Str} {op : Operator} {f : Int → Int → Int} (hN : X.N.Nodup) (ho : PIp X op (ipI f)) (he : DE X e te ue) (hi : X.N[i]? = some x := by rfl) (hx : Loc X.env.scope x := by first | exact Or.inl rfl | exact Or.inr rfl)
    (hf : X.fn x = true ∨ X.env.scope.names.lookup x = some .local := by first | exact .inl rfl | exact .inr rfl | assumption) : DS X (.AugAssign (.Name x p) op e pos) (tAug i te (ipI f)) (dAug f i ue) := ⟨ps_aug hN hi hx he.pe ho hf, rs_aug he.re⟩
theorem di_list (h : DE X e te ue) : DI X a e (iList X.K te) (diL ue) := ⟨pi_list h.pe, ri_list h.re⟩
theorem di_tup (h : DE X e te ue) : DI X a e (iTup X.K te) (diT ue) := ⟨pi_tup h.pe, ri_tup h.re⟩
theorem di_str (h : DE X e te ue) : DI X a e (iStr te) (diS ue) := ⟨pi_str h.pe, ri_str h.re⟩
theorem di_r1 (hm : X.mg "range" = none) (h : DE X e te ue) (hg : Gl X "range" := by rfl) (hs : starEach [e] X.env = [(false, eval e X.env)] := by rfl) : DI X a (.Call (.Name "range" p) [e] [] pos) (iRng1 (tCons te tNil)) (diR1 ue) := ⟨pi_range1 hg hm (pa_cons h.pe pa_nil hs) hs, ri_r1 h.re⟩
theorem di_r2 (hm : X.mg "range" = none) (h : DE X e te ue) (h' : DE X b tb ub) (hg : Gl X "range" := by rfl) (hs : starEach [e, b] X.env = [(false, eval e X.env), (false, eval b X.env)] := by rfl) (hs2 : starEach [b] X.env = [(false, eval b X.env)] := by rfl) :
    DI X a (.Call (.Name "range" p) [e, b] [] pos) (iRng2 (tCons te (tCons tb tNil))) (diR2 ue ub) := ⟨pi_range2 hg hm (pa_cons h.pe (pa_cons h'.pe pa_nil hs2) (by rw [hs, hs2])) hs hs2, ri_r2 h.re h'.re⟩
theorem ds_for {g : TG} {ug : DTG} {js : List Nat} {w : TI} {uw : DTI} {body : List Stmt} (hp : PassesOwn (model X.prog X.w) X.A X.env X.xe) (hc : X.calm = true) (hi : DI X a e w uw) (hg : DG X a g ug js) (hb : DSs X body t u) (hs : ∀ x, foldedSetIterable e X.env x = pure x := by intro _; rfl) :
    DS X (.For a e body [] pos) (tFor w g t) (dFor uw ug u) := ⟨ps_for hp hc hi.pi hg.pg hb.ps hs, rs_for hi.ri hg.rg hb.rs⟩
theorem ds_while {body : List Stmt} (hp : PassesOwn (model X.prog X.w) X.A X.env X.xe) (hc : DT X c tt ut) (hb : DSs X body t u) : DS X (.While c body [] pos) (tWhile tt t) (dWhile ut u) := ⟨ps_while hp hc.pt hb.ps, rs_while hc.rt hb.rs⟩
theorem ds_app (i : Nat) {x : Str} {apos cpos : Pos} (he : DE X e te ue) (pb : PE X (.Call (.Attribute (.Name x p) "append" apos) [e] [] cpos) (tBM X.K "list" rAppend (tVar i) (tCons te tNil))) (hs : swapsWith (.Call (.Attribute (.Name x p) "append" apos) [e] [] cpos) none pos.line X.env = pure false := by rfl) :
    DS X (.Expr (.Call (.Attribute (.Name x p) "append" apos) [e] [] cpos) pos) (tDrop (tBM X.K "list" rAppend (tVar i) (tCons te tNil))) (dApp i ue) := ⟨ps_expr pb hs, rs_app he.re⟩
/-! ### comprehensions -/
structure DTs (X : Cx) (ifs : List Expr) (t : TT) (u : DTT) : Prop where
  pt : PTs X ifs t
  rt : RT X.K t u
theorem dts_nil : DTs X [] tYes dYes := ⟨pts_nil, rt_yes⟩
theorem dts_one (h : DT X c tt ut) : DTs X [c] tt ut := ⟨pts_one h.pt, h.rt⟩
theorem de_lc {elt tg iter : Expr} {ifs : List Expr} {scope : Scope} (own : List (Str × Nat)) {w : TI} {uw : DTI} {g : TG} {ug : DTG} {js : List Nat} (hc : X.calm = true) (hN : X.N.Nodup) (hi : DI X tg iter w uw) (ok : BlkOk X.N X.env.scope scope own)
    (hg : ∀ (s : Shared) (H : Hp) (C : Addr) (cl : List (Str × Addr)) (fp : List Addr), DG (X.blk s H scope (compEnvC scope cl C X.env) fp) tg g ug js) (ht : ∀ (s : Shared) (H : Hp) (C : Addr) (cl : List (Str × Addr)) (fp : List Addr), DTs (X.blk s H scope (compEnvC scope cl C X.env) fp) ifs tt ut)
    (he : ∀ (s : Shared) (H : Hp) (C : Addr) (cl : List (Str × Addr)) (fp : List Addr), DE (X.blk s H scope (compEnvC scope cl C X.env) fp) elt te ue) (hj : ∀ j ∈ js, j ∈ own.map (·.2)) (hs : ∀ x, foldedSetIterable iter X.env x = pure x := by intro _; rfl) :
    DE X (.ListComp elt [⟨tg, iter, ifs, 0⟩] scope pos) (tLc w g tt te (own.map (·.2))) (dLc uw ug ut ue (own.map (·.2))) :=
  ⟨pe_lc hc hN hi.pi ok (fun a b c d e => (hg a b c d e).pg) (fun a b c d e => (ht a b c d e).pt) (fun a b c d e => (he a b c d e).pe) hs,
   re_lc hi.ri (hg X.s_0 X.H_0 0 [] []).rg (ht X.s_0 X.H_0 0 [] []).rt (he X.s_0 X.H_0 0 [] []).re hj⟩
theorem ds_setLc (i : Nat) {y : Str} {py spos : Pos} {elt tg iter : Expr} {ifs : List Expr} {scope : Scope} (own : List (Str × Nat)) {w : TI} {uw : DTI} {g : TG} {ug : DTG} {js : List Nat} (hc : X.calm = true) (hN : X.N.Nodup) (hi : DI X tg iter w uw) (ok : BlkOk X.N X.env.scope scope own)
    (hg : ∀ (s : Shared) (H : Hp) (C : Addr) (cl : List (Str × Addr)) (fp : List Addr), DG (X.blk s H scope (compEnvC scope cl C X.env) fp) tg g ug js) (ht : ∀ (s : Shared) (H : Hp) (C : Addr) (cl : List (Str × Addr)) (fp : List Addr), DTs (X.blk s H scope (compEnvC scope cl C X.env) fp) ifs tt ut)
    (he : ∀ (s : Shared) (H : Hp) (C : Addr) (cl : List (Str × Addr)) (fp : List Addr), DE (X.blk s H scope (compEnvC scope cl C X.env) fp) elt te ue) (hj : ∀ j ∈ js, j ∈ own.map (·.2))
    (hsw : swapsWith (.ListComp elt [⟨tg, iter, ifs, 0⟩] scope pos) (some (.Name y py)) spos.line X.env = pure true) (hy : X.N[i]? = some y := by rfl) (hyl : X.env.scope.names.lookup y = some .local := by rfl) (hs : ∀ x, foldedSetIterable iter X.env x = pure x := by intro _; rfl) :
    DS X (.Assign [.Name y py] (.ListComp elt [⟨tg, iter, ifs, 0⟩] scope pos) spos) (tAsg (tLc w g tt te (own.map (·.2))) (gName i)) (dAsg (dLc uw ug ut ue (own.map (·.2))) (dgName i)) :=
  ⟨ps_setLc hc hN hy hyl hsw hi.pi ok (fun a b c d e => (hg a b c d e).pg) (fun a b c d e => (ht a b c d e).pt) (fun a b c d e => (he a b c d e).pe) hs,
   rs_asg (re_lc hi.ri (hg X.s_0 X.H_0 0 [] []).rg (ht X.s_0 X.H_0 0 [] []).rt (he X.s_0 X.H_0 0 [] []).re hj) rg_name⟩
end
end TL

set_option Elab.async false
set_option linter.all false
set_option maxRecDepth 100000
set_option maxHeartbeats 2000000
/-! TL9: small dicts, min, max; what stands of texts; a look at what is shaped. -/
namespace TL
open PySem PySem.Spec L2

section
variable {K : PySem.W.Frag} {ta tb : TE} {ua ub : DTE}
theorem re_dict0 : RE K tDNewK (dC (.dict [])) := fun c σ G H δ Q R E h k p hp => by
  have A := Al.new (o := .dK []) E.ex hp
  exact k _ δ _ _ _ h (E.al A) A.g (.dic upd_same rfl)
theorem re_dict1 {x : Str} {v : V} {d : PyData} (hv : ∀ G, Rp K G v d) : RE K (tDisp [(tC (.str x), tC v)]) (dC (.dict [(.str x, d)])) := fun c σ G H δ Q R E h k p hp => by
  refine ⟨upd_same, [(.inr x, v)], rfl, by show 1 ≤ 15; decide, ?_⟩
  have e : upd (upd H p (.dK [])) p (.dK (mergeK [] [(.inr x, v)])) = upd H p (.dK (mergeK [] [(.inr x, v)])) := upd_upd
  rw [e]
  have A := Al.new (o := .dK (mergeK [] [((.inr x : Key), v)])) E.ex hp
  exact k _ δ _ _ _ h (E.al A) A.g (.dic upd_same rfl)
def rMax2 : List V → Hp → VK → Prop := fun xs H Q => ∃ i j, xs = [.int i, .int j] ∧ Q (.int (if j > i then j else i)) H
def rMin2 : List V → Hp → VK → Prop := fun xs H Q => ∃ i j, xs = [.int i, .int j] ∧ Q (.int (if j < i then j else i)) H
def dII (f : Int → Int → Int) (ua ub : DTE) : DTE := fun δ R => ua δ fun d1 δ1 => ub δ1 fun d2 δ2 => match d1, d2 with
  | .int i, .int j => R (.int (f i j)) δ2
  | _, _ => False
theorem re_max2 (ha : RE K ta ua) (hb : RE K tb ub) : RE K (tCB rMax2 (tCons ta (tCons tb tNil))) (dII (fun i j => if j > i then j else i) ua ub) := by
  intro c σ G H δ Q R E h k
  refine ha c σ G H δ _ _ E h fun d1 δ1 v1 G1 H1 h1 E1 e1 r1 => ?_
  refine hb c σ G1 H1 δ1 _ _ E1 h1 fun d2 δ2 v2 G2 H2 h2 E2 e2 r2 => ?_
  cases d1 <;> cases d2 <;> first
    | exact False.elim h2
    | exact ⟨_, _, by rw [r1.int_of, r2.int_of], k _ δ2 _ G2 H2 h2 E2 (e1.trans e2) (.int _)⟩
theorem re_min2 (ha : RE K ta ua) (hb : RE K tb ub) : RE K (tCB rMin2 (tCons ta (tCons tb tNil))) (dII (fun i j => if j < i then j else i) ua ub) := by
  intro c σ G H δ Q R E h k
  refine ha c σ G H δ _ _ E h fun d1 δ1 v1 G1 H1 h1 E1 e1 r1 => ?_
  refine hb c σ G1 H1 δ1 _ _ E1 h1 fun d2 δ2 v2 G2 H2 h2 E2 e2 r2 => ?_
  cases d1 <;> cases d2 <;> first
    | exact False.elim h2
    | exact ⟨_, _, by rw [r1.int_of, r2.int_of], k _ δ2 _ G2 H2 h2 E2 (e1.trans e2) (.int _)⟩
theorem r1_neg : R1 K (rU fun i => .int (-i)) (fun d R => match d with
  | .int i => R (.int (-i))
  | _ => False) := by
  intro G H x d Q R e r h k
  cases d <;> first
    | exact False.elim h
    | exact ⟨_, r.int_of, k _ _ G H h (Al.refl e) (.int _)⟩
end
section
variable {X : Cx} {a b e v : Expr} {ta tb te tv : TE} {ua ub ue uv : DTE} {pos p : Pos}
theorem de_dict0 : DE X (.Dict [] [] pos) tDNewK (dC (.dict [])) := ⟨pe_dnewK, re_dict0⟩
theorem de_dict1 {x : Str} {j : Nat} {q : Pos} {y : V} {d : PyData} (hv : PE X v (tC y)) (hr : ∀ G, Rp X.K G y d) : DE X (.Dict [some (.Constant (.str x) j q)] [v] pos) (tDisp [(tC (.str x), tC y)]) (dC (.dict [(.str x, d)])) :=
  ⟨pe_disp (pps_cons pe_str hv pps_nil) rfl rfl (by simp) (by show 1 ≤ 15; decide), re_dict1 hr⟩
theorem de_un {op : UnaryOp} {r : V → Hp → VK → Prop} {rd : R1D} (ho : UnR X (unaryOp op) r) (hr : R1 X.K r rd) (ha : DE X a ta ua) : DE X (.UnaryOp op a pos) (tUn r ta) (dUn rd ua) := ⟨pe_un ho ha.pe, re_un ha.re hr⟩
theorem de_max2 (hm : X.mg "max" = none) (ha : DE X a ta ua) (hb : DE X b tb ub) (hc : X.calm = true := by rfl) (hg : Gl X "max" := by rfl) (hs : starEach [a, b] X.env = (false, eval a X.env) :: starEach [b] X.env := by rfl) (hs2 : starEach [b] X.env = (false, eval b X.env) :: starEach [] X.env := by rfl) (hpl : (backTo pos (starEach [b] X.env)).any (·.1) = false := by rfl) :
    DE X (.Call (.Name "max" p) [a, b] [] pos) (tCB rMax2 (tCons ta (tCons tb tNil))) (dII (fun i j => if j > i then j else i) ua ub) := ⟨pe_callB (call_max2 hc) hg hm PyProof.Rows.boot_max (pa_cons ha.pe (pa_cons hb.pe pa_nil hs2) hs) (by decide) (by decide) hs hpl, re_max2 ha.re hb.re⟩
theorem de_min2 (hm : X.mg "min" = none) (ha : DE X a ta ua) (hb : DE X b tb ub) (hc : X.calm = true := by rfl) (hg : Gl X "min" := by rfl) (hs : starEach [a, b] X.env = (false, eval a X.env) :: starEach [b] X.env := by rfl) (hs2 : starEach [b] X.env = (false, eval b X.env) :: starEach [] X.env := by rfl) (hpl : (backTo pos (starEach [b] X.env)).any (·.1) = false := by rfl) :
    DE X (.Call (.Name "min" p) [a, b] [] pos) (tCB rMin2 (tCons ta (tCons tb tNil))) (dII (fun i j => if j < i then j else i) ua ub) := ⟨pe_callB (call_min2 hc) hg hm PyProof.Rows.boot_min (pa_cons ha.pe (pa_cons hb.pe pa_nil hs2) hs) (by decide) (by decide) hs hpl, re_min2 ha.re hb.re⟩
end

/-! ### the law's own run -/
def spLaw (K : PySem.W.Frag) : Sp := fun vs H Q _ => ∃ (a : Addr) (ns : List Int), vs = [.ref a] ∧ SqL K H a (ns.map V.int) ∧ ns.length ≤ 63 ∧ ∀ H', Q (.bl true) H'
/-- by data: handed in are at most 63 ints, True comes out -/
def S_law : DSp := fun as R => ∃ ns : List Int, ns.length ≤ 63 ∧ as = [.scr (ns.map PyData.int)] ∧ R (.bool true) []
theorem ints_rp {K : PySem.W.Frag} {G : Hp} : ∀ ns : List Int, RpAll K G (ns.map V.int) (ns.map PyData.int)
  | [] => .nil
  | n :: r => .cons (.int n) (ints_rp r)
theorem law_by {P : Program} {w : World} {K : PySem.W.Frag} {mg : Str → Option Value} {base : Heap} {k : Nat} {f : Addr} {fd : FuncData} {ps : List Str} (F : FnOk P w K mg base CX0 k f fd ps (spD K S_law)) : FnOk P w K mg base CX0 k f fd ps (spLaw K) :=
  F.imp fun vs H Q E h => by
    obtain ⟨a, ns, rfl, hS, hl, q⟩ := h
    refine ⟨⟨fun _ => 0, 0, H, H, []⟩, [.scr (ns.map PyData.int)], fun d outs => d = .bool true, rfl, rfl, ?_, ⟨ns, hl, rfl, rfl⟩, fun d outs v G' H' hd _ r => ?_⟩
    · exact {
        g0 := Ex.refl _, ex := Ex.refl _, fr := fun a o h _ => h, fs := fun a h _ => h
        tg := fun j hj => absurd hj (Nat.not_lt_zero j)
        len := rfl
        sl := fun i s h => by
          cases i with
          | zero =>
            cases (show some (Sl.scr (ns.map PyData.int)) = some s from h)
            exact ⟨a, _, rfl, hS, ints_rp ns⟩
          | succ i => simp at h
        ap := fun i j t1 d1 t2 d2 hij h1 h2 => by
          cases i with
          | zero => cases (show some (Sl.scr (ns.map PyData.int)) = some (.own t1 d1) from h1)
          | succ i => simp at h1
        hd := fun p xs h => nomatch h }
    · subst hd
      rw [r.bl_of]
      exact q H'
end TL

set_option Elab.async false
set_option linter.all false
set_option maxRecDepth 100000
set_option maxHeartbeats 4000000
/-! TLs: what the readings are reckoned with. -/
namespace TL
open PySem PySem.Spec L2
theorem kb_ss : kitB "str" "str" = some true := by decide +kernel
theorem kb_ns : kitB "NoneType" "str" = some false := by decide +kernel
theorem kb_bs : kitB "bool" "str" = some false := by decide +kernel
theorem kb_is : kitB "int" "str" = some false := by decide +kernel
theorem kb_ls : kitB "list" "str" = some false := by decide +kernel
theorem kb_ts : kitB "tuple" "str" = some false := by decide +kernel
theorem kb_ds : kitB "dict" "str" = some false := by decide +kernel
theorem kb_bb : kitB "bool" "bool" = some true := by decide +kernel
theorem sh_int (i : Int) : SeqAt.shaped (.int i) = true := rfl
theorem sh_bool (b : Bool) : SeqAt.shaped (.bool b) = true := rfl
theorem sh_none : SeqAt.shaped .none = true := rfl
theorem sh_str {x : Str} (h : PyData.strOk x = true) : SeqAt.shaped (.str x) = true := by
  unfold SeqAt.shaped
  rw [Bool.and_eq_true]
  exact ⟨by simpa [PyData.canLay0] using h, rfl⟩
theorem ev_ii (i j : Int) : PyData.eqv (.int i) (.int j) = (i == j) := by simp [PyData.eqv]
theorem ev_bb (i j : Bool) : PyData.eqv (.bool i) (.bool j) = (i == j) := by simp [PyData.eqv]
theorem ev_ss (i j : Str) : PyData.eqv (.str i) (.str j) = (i == j) := by simp [PyData.eqv]
/-- codes that a text may have -/
def okC (z : Str) : Prop := ∀ c ∈ z.cps.toList, c < 1114112
theorem strOk_of {z : Str} (h : okC z) : PyData.strOk z = true := by
  unfold PyData.strOk
  rw [← Array.all_toList, List.all_eq_true]
  intro c hc
  exact decide_eq_true (h c hc)
/-- one sign below another -/
theorem lt_one {a b : Nat} : decide (([a] : List Nat) < [b]) = decide (a < b) := by
  apply decide_eq_decide.mpr
  constructor
  · intro h
    cases h with
    | rel h => exact h
    | cons h => cases h
  · intro h
    exact List.Lex.rel h
theorem lt_one' {a b : Nat} : ([a] : List Nat) < [b] ↔ a < b := by
  have := lt_one (a := a) (b := b)
  simpa using this
theorem le_one' {a b : Nat} : ([a] : List Nat) ≤ [b] ↔ a ≤ b := by
  show ¬ (([b] : List Nat) < [a]) ↔ _
  rw [lt_one']
  omega
theorem cps_a : (Str.ofString "a").cps.toList = [97] := by decide +kernel
theorem cps_z : (Str.ofString "z").cps.toList = [122] := by decide +kernel
theorem cps_one (c : Nat) : (Str.mk #[c]).cps.toList = [c] := rfl
theorem len_one (c : Nat) : (Str.mk #[c]).length = 1 := rfl

end TL
namespace L2
theorem Room.units1 {k : Nat} {A : PySem.Around} (r : Room k A) : A.units + 65 < PySem.cLine := by
  have := r.un
  omega
end L2

set_option Elab.async false
set_option linter.all false
set_option maxRecDepth 100000
set_option maxHeartbeats 4000000
/-! TLd: the drawing hand; comprehensions by filter and map. -/
namespace TL
open PySem PySem.Spec L2
def S_hand : DSn := fun as R => ∃ (ns : List Int) (k : Int), as = [.scr (ns.map PyData.int), .dat (.int k)] ∧ ns.length ≤ 63 ∧ (0 ≤ k ∧ k ≤ 63) ∧ ∀ x y : Int, 0 ≤ x → 0 ≤ y → y < 2147483648 → R [.int x, .int y] []
/-- a hand -/
def okH (x y : Int) : Prop := 0 ≤ x ∧ 0 ≤ y ∧ y < 2147483648
def S_draw : DSp := fun as R => ∃ x y n : Int, as = [.own (some 0) [.int x, .int y], .dat (.int n)] ∧ okH x y ∧ (0 < n ∧ n < 1073741824) ∧
  ∀ r x' y' : Int, (0 ≤ r ∧ r < n) → okH x' y' → R (.int r) [[.int x', .int y']]
theorem call_draw {i : Nat} {u : DTE} {δ : List Sl} {R : DQ} {t : Option Nat} {x y n : Int} (hs : δ[i]? = some (.own t [.int x, .int y])) (hv : okH x y) (hn : 0 < n ∧ n < 1073741824) (hu : ∀ Q : DQ, Q (.int n) δ → u δ Q)
    (k : ∀ r x' y' : Int, (0 ≤ r ∧ r < n) → okH x' y' → R (.int r) (δ.set i (.own t [.int x', .int y']))) : dCall S_draw (cS i (cD u cNil)) δ R := by
  refine ⟨by rw [hs]; rfl, hu _ ?_⟩
  have hm : muts δ [.s i, .d (.int n)] = [i] := by
    show (match δ[i]? with
      | some (.own _ _) => i :: muts δ [.d (.int n)]
      | _ => muts δ [.d (.int n)]) = [i]
    rw [hs]
    rfl
  have ha : asOf δ [.s i, .d (.int n)] 0 = [.own (some 0) [.int x, .int y], .dat (.int n)] := by
    show (match δ[i]? with
      | some (.own _ ds) => Sl.own (some 0) ds :: asOf δ [.d (.int n)] 1
      | some (.scr ds) => .scr ds :: asOf δ [.d (.int n)] 0
      | _ => .no :: asOf δ [.d (.int n)] 0) = _
    rw [hs]
    rfl
  show (muts δ [.s i, .d (.int n)]).Nodup ∧ S_draw (asOf δ [.s i, .d (.int n)] 0) fun d outs => outs.length = (muts δ [.s i, .d (.int n)]).length ∧ R d (setOuts δ (muts δ [.s i, .d (.int n)]) outs)
  rw [hm, ha]
  refine ⟨by simp, x, y, n, rfl, hv, hn, fun r x' y' hr hv' => ⟨rfl, ?_⟩⟩
  have e : setOuts δ [i] [[.int x', .int y']] = δ.set i (.own t [.int x', .int y']) := by
    show setOut δ i [.int x', .int y'] = _
    unfold setOut
    rw [hs]
  rw [e]
  exact k r x' y' hr hv'
theorem outs1 {δ : List Sl} {cs : List PyData} (i : Nat) (h : δ[i]? = some (.own (some 0) cs)) : OutsIn δ [cs] := fun j ds hj => by
  cases j with
  | zero =>
    have e : cs = ds := by simpa using hj
    exact ⟨i, by rw [← e]; exact h⟩
  | succ j => simp at hj
/-- a comprehension that changes nothing -/
theorem lc_fm {vs : List Nat} {g : DTG} {t : DTT} {u : DTE} {R : List PyData → List Sl → Prop} (p : PyData → Bool) (f : PyData → PyData) {δ0 : List Sl} : ∀ (ds acc : List PyData) (δ : List Sl), wipeS δ vs = δ0 → acc.length + ds.length ≤ 16777216 →
    (∀ d ∈ ds, ∀ (Y : PyData → List Sl → Prop) (N : List Sl → Prop), (p d = true → ∀ δ3, wipeS δ3 vs = δ0 → Y (f d) δ3) → (p d = false → ∀ δ2, wipeS δ2 vs = δ0 → N δ2) → g d δ0 (fun δ1 => t δ1 fun b δ2 => if b = true then u δ2 Y else N δ2)) →
    wipeS δ0 vs = δ0 → (∀ δ', wipeS δ' vs = δ0 → R (acc ++ (ds.filter p).map f) δ') → lcW vs g t u R ds acc δ
  | [], acc, δ, h0, hl, hs, h00, k => by
    have z := k δ h0
    simp at z
    exact z
  | d :: r, acc, δ, h0, hl, hs, h00, k => by
    show g d (wipeS δ vs) fun δ1 => t δ1 fun b δ2 => if b = true then u δ2 fun y δ3 => acc.length < sizeLine ∧ lcW vs g t u R r (acc ++ [y]) (wipeS δ3 vs) else lcW vs g t u R r acc (wipeS δ2 vs)
    rw [h0]
    have hl' : acc.length + r.length + 1 ≤ 16777216 := by
      rw [List.length_cons] at hl
      omega
    refine hs d List.mem_cons_self (fun y δ3 => acc.length < sizeLine ∧ lcW vs g t u R r (acc ++ [y]) (wipeS δ3 vs)) _ (fun hp δ3 h3 => ⟨by rw [sizeLine_eq]; omega, ?_⟩) (fun hp δ2 h2 => ?_)
    · rw [h3]
      refine lc_fm p f r (acc ++ [f d]) δ0 h00 (by rw [List.length_append, List.length_singleton]; omega) (fun d' hd' => hs d' (List.mem_cons_of_mem _ hd')) h00 fun δ' h' => ?_
      have z := k δ' h'
      rw [List.filter_cons, if_pos hp, List.map_cons] at z
      rw [List.append_assoc]
      exact z
    · rw [h2]
      refine lc_fm p f r acc δ0 h00 (by omega) (fun d' hd' => hs d' (List.mem_cons_of_mem _ hd')) h00 fun δ' h' => ?_
      have z := k δ' h'
      rw [List.filter_cons, if_neg (by rw [hp]; decide)] at z
      exact z
theorem at0 {α : Type} (a : α) (l : List α) : atI (a :: l) 0 = some a := by
  unfold atI ixN
  rw [if_pos (by decide), if_pos (by simp only [List.length_cons]; omega)]
  rfl
theorem at1 {α : Type} (a b : α) (l : List α) : atI (a :: b :: l) 1 = some b := by
  unfold atI ixN
  rw [if_pos (by decide), if_pos (by simp only [List.length_cons]; omega)]
  rfl
theorem ix20 : ixN 2 0 = some 0 := rfl
theorem ix21 : ixN 2 1 = some 1 := rfl
theorem cutP_map (ns : List Int) (lo hi : Option Int) : ∃ ms : List Int, cutP (ns.map PyData.int) lo hi = ms.map PyData.int ∧ ms.length ≤ ns.length := by
  refine ⟨(ns.drop (HT.sIx ns.length 0 lo)).take (HT.sIx ns.length ns.length hi - HT.sIx ns.length 0 lo), ?_, ?_⟩
  · unfold cutP
    rw [List.length_map, List.map_take, List.map_drop]
  · rw [List.length_take, List.length_drop]
    omega
theorem cell_at (ns : List Int) (lo hi : Option Int) : ∃ z : Int, atI (cutP (ns.map PyData.int) lo hi ++ [PyData.int 0]) 0 = some (.int z) := by
  obtain ⟨ms, e, _⟩ := cutP_map ns lo hi
  rw [e]
  cases ms with
  | nil => exact ⟨0, rfl⟩
  | cons m r => exact ⟨m, at0 _ _⟩
theorem nat_le_size {n : Nat} (h : n ≤ 16777216) : n ≤ sizeLine := by
  rw [sizeLine_eq]
  exact h
end TL

set_option Elab.async false
set_option linter.all false
set_option maxRecDepth 100000
set_option maxHeartbeats 4000000
/-! TLe: calls by their kinds; loops by an invariant; texts. -/
namespace TL
open PySem PySem.Spec L2
theorem asOf_d (δ : List Sl) : ∀ (ds : List PyData) (j : Nat), asOf δ (ds.map CA.d) j = ds.map Sl.dat
  | [], _ => rfl
  | d :: r, j => by
    show Sl.dat d :: asOf δ (r.map CA.d) j = _
    rw [asOf_d δ r j]
    rfl
theorem muts_d (δ : List Sl) : ∀ ds : List PyData, muts δ (ds.map CA.d) = []
  | [] => rfl
  | d :: r => muts_d δ r
/-- a call by data alone -/
theorem call_pure {S : DSp} {ua : DCA} {δ : List Sl} {R : DQ} (ds : List PyData) (hu : ∀ Q : List CA → List Sl → Prop, Q (ds.map CA.d) δ → ua δ Q) (k : S (ds.map Sl.dat) fun d outs => outs = [] ∧ R d δ) (mono : ∀ R R' : PyData → List (List PyData) → Prop, (∀ d o, R d o → R' d o) → S (ds.map Sl.dat) R → S (ds.map Sl.dat) R') : dCall S ua δ R := by
  refine hu _ ?_
  rw [muts_d, asOf_d]
  refine ⟨List.nodup_nil, mono _ _ (fun d o h => ?_) k⟩
  obtain ⟨rfl, h⟩ := h
  exact ⟨rfl, h⟩
/-- a call that may change the list in slot i, its first argument -/
theorem call_own1 {S : DSp} {ua : DCA} {δ : List Sl} {R : DQ} {i : Nat} {t : Option Nat} {cs : List PyData} (hs : δ[i]? = some (.own t cs)) (ds : List PyData) (hu : ∀ Q : List CA → List Sl → Prop, Q (ds.map CA.d) δ → ua δ Q)
    (k : S (.own (some 0) cs :: ds.map Sl.dat) fun d outs => ∃ o, outs = [o] ∧ R d (δ.set i (.own t o))) (mono : ∀ R R' : PyData → List (List PyData) → Prop, (∀ d o, R d o → R' d o) → S (.own (some 0) cs :: ds.map Sl.dat) R → S (.own (some 0) cs :: ds.map Sl.dat) R') : dCall S (cS i ua) δ R := by
  refine ⟨by rw [hs]; rfl, hu _ ?_⟩
  have hm : muts δ (.s i :: ds.map CA.d) = [i] := by
    show (match δ[i]? with
      | some (.own _ _) => i :: muts δ (ds.map CA.d)
      | _ => muts δ (ds.map CA.d)) = [i]
    rw [hs, muts_d]
  have ha : asOf δ (.s i :: ds.map CA.d) 0 = .own (some 0) cs :: ds.map Sl.dat := by
    show (match δ[i]? with
      | some (.own _ ds') => Sl.own (some 0) ds' :: asOf δ (ds.map CA.d) 1
      | some (.scr ds') => .scr ds' :: asOf δ (ds.map CA.d) 0
      | _ => .no :: asOf δ (ds.map CA.d) 0) = _
    rw [hs, asOf_d]
  show (muts δ (.s i :: ds.map CA.d)).Nodup ∧ S (asOf δ (.s i :: ds.map CA.d) 0) fun d outs => outs.length = (muts δ (.s i :: ds.map CA.d)).length ∧ R d (setOuts δ (muts δ (.s i :: ds.map CA.d)) outs)
  rw [hm, ha]
  refine ⟨by simp, mono _ _ (fun d o h => ?_) k⟩
  obtain ⟨o, rfl, h⟩ := h
  refine ⟨rfl, ?_⟩
  have e : setOuts δ [i] [o] = δ.set i (.own t o) := by
    show setOut δ i o = _
    unfold setOut
    rw [hs]
  rw [e]
  exact h
/-- a new hand -/
theorem call_hand {i j q : Nat} {δ : List Sl} {E : List Sl → Prop} {ns : List Int} {k : Int} (hs : δ[j]? = some (.scr (ns.map PyData.int))) (hk : δ[q]? = some (.dat (.int k))) (hl : ns.length ≤ 63) (hb : 0 ≤ k ∧ k ≤ 63)
    (h : ∀ x y : Int, okH x y → E (δ.set i (.own none [.int x, .int y]))) : dCallOwn i S_hand (cS j (cD (dVar q) cNil)) E δ := by
  refine ⟨by rw [hs]; rfl, ?_⟩
  show dVar q δ _
  unfold dVar
  rw [hk]
  have hm : muts δ [.s j, .d (.int k)] = [] := by
    show (match δ[j]? with
      | some (.own _ _) => j :: muts δ [.d (.int k)]
      | _ => muts δ [.d (.int k)]) = []
    rw [hs]
    rfl
  have ha : asOf δ [.s j, .d (.int k)] 0 = [.scr (ns.map PyData.int), .dat (.int k)] := by
    show (match δ[j]? with
      | some (.own _ ds) => Sl.own (some 0) ds :: asOf δ [.d (.int k)] 1
      | some (.scr ds) => .scr ds :: asOf δ [.d (.int k)] 0
      | _ => .no :: asOf δ [.d (.int k)] 0) = _
    rw [hs]
    rfl
  show (muts δ [.s j, .d (.int k)]).Nodup ∧ S_hand (asOf δ [.s j, .d (.int k)] 0) fun ds outs => outs.length = (muts δ [.s j, .d (.int k)]).length ∧ E ((setOuts δ (muts δ [.s j, .d (.int k)]) outs).set i (.own none ds))
  rw [hm, ha]
  exact ⟨List.nodup_nil, ns, k, rfl, hl, hb, fun x y a b c => ⟨rfl, h x y ⟨a, b, c⟩⟩⟩
theorem for_inv {g : DTG} {u : DTS} {E : DEnds} (I : List Sl → Prop) (he : ∀ δ, I δ → E.nx δ) : ∀ (ds : List PyData) (δ : List Sl), I δ →
    (∀ d ∈ ds, ∀ δ, I δ → ∀ N : List Sl → Prop, (∀ δ', I δ' → N δ') → g d δ fun δ1 => u { E with nx := N, ct := N, bk := E.nx } δ1) → forW g u E ds δ
  | [], δ, hi, _ => he δ hi
  | d :: r, δ, hi, hs => hs d List.mem_cons_self δ hi _ fun δ' h' => for_inv I he r δ' h' fun d' hd' => hs d' (List.mem_cons_of_mem _ hd')
/-- texts -/
theorem okC_cut {z : Str} (h : okC z) (lo hi : Option Int) : okC (cutS z lo hi) := fun c hc => by
  have hc : c ∈ (z.cps.toList.drop (HT.sIx z.length 0 lo)).take (HT.sIx z.length z.length hi - HT.sIx z.length 0 lo) := hc
  exact h c (List.mem_of_mem_drop (List.mem_of_mem_take hc))
theorem tl_app (x y : Str) : (x ++ y).cps.toList = x.cps.toList ++ y.cps.toList := TL.tl_append x y
theorem okC_app {x y : Str} (hx : okC x) (hy : okC y) : okC (x ++ y) := fun c hc => by
  rw [tl_app, List.mem_append] at hc
  exact hc.elim (hx c) (hy c)
theorem len_app (x y : Str) : (x ++ y).length = x.length + y.length := PySem.Str.length_append x y
theorem okC_one {c : Nat} (h : c < 1114112) : okC ⟨#[c]⟩ := fun d hd => by
  have e : d = c := by simpa using hd
  rw [e]
  exact h
theorem mul01 {x : Str} {i : Int} (h0 : 0 ≤ i) (h1 : i < 2) : (Txt.mul x i = Str.empty) ∨ Txt.mul x i = x := by
  have hi : i = 0 ∨ i = 1 := by omega
  rcases hi with rfl | rfl
  · left
    unfold Txt.mul
    rw [if_pos (by decide)]
  · right
    unfold Txt.mul
    rw [if_neg (by decide), if_pos (by simp)]
theorem join_ones : ∀ cs : List Nat, Txt.join (Str.ofString "") (cs.map fun c => (⟨#[c]⟩ : Str)) = ⟨cs.toArray⟩ := fun cs => by
  apply TL.ext_tl
  rw [TL.join_eq]
  show TL.tl (Str.join _ _) = cs
  rw [TL.tl_join]
  have e0 : TL.tl (Str.ofString "") = [] := by decide +kernel
  rw [e0]
  induction cs with
  | nil => rfl
  | cons c r ih =>
    cases r with
    | nil => rfl
    | cons d r =>
      show [c] ++ ([] ++ TL.joinL [] _) = c :: d :: r
      rw [List.nil_append]
      exact congrArg (c :: ·) ih
theorem strsOf_ones : ∀ cs : List Nat, strsOf (cs.map fun c => PyData.str ⟨#[c]⟩) = some (cs.map fun c => (⟨#[c]⟩ : Str))
  | [] => rfl
  | c :: r => by
    show (strsOf (r.map fun c => PyData.str ⟨#[c]⟩)).map _ = _
    rw [strsOf_ones r]
    rfl
end TL

set_option Elab.async false
set_option linter.all false
set_option maxRecDepth 100000
set_option maxHeartbeats 4000000
namespace K01
open PySem PySem.Spec L2 TL
def top (i : Nat) : Stmt := PySem.Challenge.pw_triesgrow_k01_words.main.body.getD i (.Pass ⟨0, 0, 0, 0⟩)
abbrev s_is_sign : Stmt := top 2
theorem sc_is_sign : FnScope ["thing"] ["thing"] (defScope s_is_sign) := ⟨rfl, rfl, rfl, by decide +kernel, rfl, by decide +kernel, by decide +kernel⟩
abbrev s_signs_ahead : Stmt := top 3
theorem sc_signs_ahead : FnScope ["text", "ahead"] ["text"] (defScope s_signs_ahead) := ⟨rfl, rfl, rfl, by decide +kernel, rfl, by decide +kernel, by decide +kernel⟩
abbrev s_is_word : Stmt := top 5
theorem sc_is_word : FnScope ["thing"] ["thing"] (defScope s_is_word) := ⟨rfl, rfl, rfl, by decide +kernel, rfl, by decide +kernel, by decide +kernel⟩
abbrev s_law_hand : Stmt := top 7
theorem sc_law_hand : FnScope ["_law_script", "_law_k", "_law_cell", "_law_seed"] ["_law_script", "_law_k"] (defScope s_law_hand) := ⟨rfl, rfl, rfl, by decide +kernel, rfl, by decide +kernel, by decide +kernel⟩
abbrev s_law_draw : Stmt := top 8
theorem sc_law_draw : FnScope ["_law_hand_here", "_law_many", "_law_found"] ["_law_hand_here", "_law_many"] (defScope s_law_draw) := ⟨rfl, rfl, rfl, by decide +kernel, rfl, by decide +kernel, by decide +kernel⟩
abbrev s_law_word : Stmt := top 9
theorem sc_law_word : FnScope ["_law_hand_here", "_law_letters", "_law_many", "_law_start", "_law_step", "_law_k"] ["_law_hand_here"] (defScope s_law_word) := ⟨rfl, rfl, rfl, by decide +kernel, rfl, by decide +kernel, by decide +kernel⟩
abbrev s_law_spoilt : Stmt := top 10
theorem sc_law_spoilt : FnScope ["_law_hand_here", "_law_word_here", "_law_odd", "_law_at", "_law_sign"] ["_law_hand_here", "_law_word_here"] (defScope s_law_spoilt) := ⟨rfl, rfl, rfl, by decide +kernel, rfl, by decide +kernel, by decide +kernel⟩
abbrev s_law_right : Stmt := top 11
theorem sc_law_right : FnScope ["_law_thing", "_law_due", "_law_found", "_law_sign"] ["_law_thing"] (defScope s_law_right) := ⟨rfl, rfl, rfl, by decide +kernel, rfl, by decide +kernel, by decide +kernel⟩
abbrev s_law : Stmt := top 12
theorem sc_law : FnScope ["_law_script", "_law_thing", "_law_k", "_law_hand_here", "_law_word_here"] ["_law_script"] (defScope s_law) := ⟨rfl, rfl, rfl, by decide +kernel, rfl, by decide +kernel, by decide +kernel⟩
def small (c : Nat) : Bool := decide (97 ≤ c) && decide (c ≤ 122)
def S_is_sign : DSp := fun as R => ∃ c, as = [.dat (.str ⟨#[c]⟩)] ∧ R (.bool (small c)) []
/-- how many small letters stand ahead, at most n -/
def sa : Nat → List Nat → Nat
  | 0, _ => 0
  | _, [] => 0
  | n + 1, c :: r => if small c then sa n r + 1 else 0
def S_signs : DSp := fun as R => ∃ z : Str, as = [.dat (.str z)] ∧ z.length ≤ sizeLine ∧ R (.int (sa 400 z.cps.toList : Nat)) []
def isWord : PyData → Bool
  | .str z => decide (z.length ≤ 400) && z.cps.toList.all small
  | _ => false
def okD : PyData → Prop
  | .str z => z.length ≤ 1000 ∧ okC z
  | _ => True
def S_is_word : DSp := fun as R => ∃ d, as = [.dat d] ∧ okD d ∧ R (.bool (isWord d)) []
def S_word : DSp := fun as R => ∃ x y : Int, as = [.own (some 0) [.int x, .int y]] ∧ okH x y ∧
  ∀ (z : Str) (x' y' : Int), z.length ≤ 402 → okC z → okH x' y' → R (.str z) [[.int x', .int y']]
def S_spoilt : DSp := fun as R => ∃ (x y : Int) (w : Str), as = [.own (some 0) [.int x, .int y], .dat (.str w)] ∧ okH x y ∧ (w.length ≤ 402 ∧ okC w) ∧
  ∀ (z : Str) (x' y' : Int), z.length ≤ 1000 → okC z → okH x' y' → R (.str z) [[.int x', .int y']]
def S_right : DSp := fun as R => ∃ d, as = [.dat d] ∧ okD d ∧ R (.bool true) []
theorem sa_word : ∀ (n : Nat) (l : List Nat), (sa n l = l.length) ↔ (l.length ≤ n ∧ l.all small = true)
  | 0, [] => by simp [sa]
  | 0, c :: r => by simp [sa]
  | n + 1, [] => by simp [sa]
  | n + 1, c :: r => by
    have ih := sa_word n r
    show (if small c = true then sa n r + 1 else 0) = r.length + 1 ↔ r.length + 1 ≤ n + 1 ∧ (small c && r.all small) = true
    by_cases h : small c = true
    · rw [if_pos h, h, Bool.true_and]
      constructor
      · intro e
        obtain ⟨a, b⟩ := ih.mp (by omega)
        exact ⟨by omega, b⟩
      · rintro ⟨a, b⟩
        have := ih.mpr ⟨by omega, b⟩
        omega
    · rw [if_neg h]
      constructor
      · intro e
        omega
      · rintro ⟨_, b⟩
        rw [Bool.and_eq_true] at b
        exact absurd b.1 h
theorem sa_is (z : Str) : (((sa 400 z.cps.toList : Nat) : Int) == (z.length : Int)) = isWord (.str z) := by
  have e := sa_word 400 z.cps.toList
  have hl : z.cps.toList.length = z.length := by rw [Array.length_toList]; rfl
  rw [hl] at e
  show _ = (decide (z.length ≤ 400) && z.cps.toList.all small)
  rw [Bool.eq_iff_iff, beq_iff_eq, Bool.and_eq_true, decide_eq_true_iff]
  constructor
  · intro q
    exact e.mp (by omega)
  · intro q
    have := e.mpr q
    omega
theorem getD_at {l : List Nat} {i d : Nat} (h : i < l.length) : l.getD i d = l[i] := by
  rw [List.getD_eq_getElem?_getD, List.getElem?_eq_getElem h]
  rfl
theorem var_go {i : Nat} {δ : List Sl} {R : DQ} {d : PyData} (h : δ[i]? = some (.dat d)) (k : R d δ) : dVar i δ R := by
  unfold dVar
  rw [h]
  exact k
def odd : Str := Str.ofString " !\"#$&'()*+,-./0123456789:;<=>?@ABCDEFGHIJKLMNOPQRSTUVWXYZ[\\]^_`{|}~\t\nabc"
theorem odd_len : odd.length = odd.cps.toList.length := rfl
theorem odd_lo : 0 < odd.cps.toList.length ∧ odd.cps.toList.length < 200 := by decide +kernel
theorem odd_ok : ∀ c ∈ odd.cps.toList, c < 1114112 := by decide +kernel
theorem eqv_nil (L : List PyData) : PyData.eqv (.list L) (.list []) = L.isEmpty := by
  cases L <;> simp [PyData.eqv, PyData.eqvAll]
theorem shaped_ones : ∀ cs : List Nat, (∀ c ∈ cs, c < 1114112) → SeqAt.shaped (.list (cs.map fun c => PyData.str ⟨#[c]⟩)) = true := fun cs h => by
  unfold SeqAt.shaped
  rw [Bool.and_eq_true]
  have a : ∀ cs : List Nat, (∀ c ∈ cs, c < 1114112) → PyData.canLayAll0 (cs.map fun c => PyData.str ⟨#[c]⟩) = true ∧ PyData.depthAll (cs.map fun c => PyData.str ⟨#[c]⟩) = 0 := fun cs => by
    induction cs with
    | nil => exact fun _ => ⟨rfl, rfl⟩
    | cons c r ih =>
      intro h
      obtain ⟨i1, i2⟩ := ih fun d hd => h d (List.mem_cons_of_mem _ hd)
      have hc := h c List.mem_cons_self
      constructor
      · show (PyData.canLay0 (.str ⟨#[c]⟩) && PyData.canLayAll0 _) = true
        rw [i1, Bool.and_true]
        show PyData.strOk ⟨#[c]⟩ = true
        exact strOk_of (okC_one hc)
      · show max (PyData.depth (.str ⟨#[c]⟩)) (PyData.depthAll _) = 0
        rw [i2]
        rfl
  obtain ⟨h1, h2⟩ := a cs h
  refine ⟨h1, decide_eq_true ?_⟩
  show PyData.depthAll _ + 1 ≤ 64
  rw [h2]
  decide
theorem right_mono (as : List Sl) (R R' : PyData → List (List PyData) → Prop) (h : ∀ d o, R d o → R' d o) : S_is_word as R → S_is_word as R' := fun ⟨d, a, b, k⟩ => ⟨d, a, b, h _ _ k⟩
section
variable {P : Program} {w : World} {K : PySem.W.Frag} {mg : Str → Option Value} {base : Heap}
variable (m_len : mg "len" = none) (m_isinstance : mg "isinstance" = none) (m_str : mg "str" = none) (m_bool : mg "bool" = none) (m_range : mg "range" = none) (m_int : mg "int" = none) (m_max : mg "max" = none) (m_min : mg "min" = none)
  (g_WORD_MOST : ∃ tk, mg "WORD_MOST" = some (.int 400 tk))
include m_len m_isinstance m_str m_bool m_range m_int m_max m_min g_WORD_MOST
theorem ok_is_sign {f : Addr} {fd : FuncData} (F : Fun K "is_sign" "is_sign" s_is_sign f fd)  : FnOk P w K mg base CX0 1 f fd ["thing"] (spD K S_is_sign) := by
  refine fnD F sc_is_sign (fun as R h => by obtain ⟨_, rfl, _⟩ := h; rfl) fun cdv A outer s H E hr => ?_
  have nd := sc_is_sign.nd
  have hu := hr.units
  have hu1 := hr.units1
  refine ⟨_, _, (dss_one (ds_ret (de_and (de_isi (T := "str") m_isinstance m_str (by decide +kernel) (de_var 0)) (de_and (de_cmp (op_eqD hu) ro_eq (nomark _) (de_len (ps := default) m_len (de_var 0)) de_int) (de_one (de_chain op_le_str ro_S op_le_str ro_S de_str (de_var 0) de_str)))))), ?_⟩
  rintro as R ⟨c, rfl, hR⟩
  simp [dRet, dRetNew, dAndV, dIsi, dVar, dOp, dEq, dNe, dLen, dC, dChain, dS, dI, dIC, dB, dIxV, slL, dSlScr, dCat, dLst, dCons, dNil, dPart, dNoPart, dIxL, dIxS, dAsg, dgName, dSeq, dIfS, dSetI, dTest, dInt1, cS, cD, cNil, dNext, tyD, kb_ss, kb_bb, sh_int, sh_bool, ev_ii, ev_bb, endsOf, endsNew, dAnd, dOr, dNot, cps_a, cps_z, lt_one', le_one', cps_one, at0, at1, ix20, ix21]
  refine ⟨nat_le_size (by show 1 ≤ 16777216; decide), ?_⟩
  have e1 : ((Str.mk #[c]).length : Int) = 1 := rfl
  rw [if_pos e1]
  unfold small at hR
  by_cases h1 : 97 ≤ c
  · rw [if_pos h1]
    rw [decide_eq_true h1, Bool.true_and] at hR
    have e2 : (!decide (122 < c)) = decide (c ≤ 122) := by
      by_cases h2 : c ≤ 122
      · rw [decide_eq_true h2, decide_eq_false (by omega)]
        rfl
      · rw [decide_eq_false h2, decide_eq_true (by omega)]
        rfl
    rw [e2]
    exact ⟨[], hR, outs0⟩
  · rw [if_neg h1]
    rw [decide_eq_false h1, Bool.false_and] at hR
    exact ⟨[], hR, outs0⟩
theorem ok_signs_ahead {f : Addr} {fd : FuncData} (F : Fun K "signs_ahead" "signs_ahead" s_signs_ahead f fd) (k_is_sign : Kn P w K mg base 1 "is_sign" S_is_sign) : FnOk P w K mg base CX0 2 f fd ["text"] (spD K S_signs) := by
  refine fnD F sc_signs_ahead (fun as R h => by obtain ⟨_, rfl, _⟩ := h; rfl) fun cdv A outer s H E hr => ?_
  have nd := sc_signs_ahead.nd
  have hu := hr.units
  have hu1 := hr.units1
  refine ⟨_, _, (dss_cons (ds_set 1 nd de_int)
    (dss_cons (ds_while PassesOwn.never (dt_w (dw_and (dt_cmp op_lt ro_B (nomark _) (de_var 1) (de_len (ps := default) m_len (de_var 0))) (dw_and (dt_cmp op_lt ro_B (nomark _) (de_var 1) (de_gint rfl g_WORD_MOST)) (dw_and1 (dt_val (de_call k_is_sign hr (by decide) (dca_d (de_ix ix_str ro_ixS (de_var 0) (de_var 1)) dca_nil))))))) (dss_one (ds_aug 1 nd ip_add de_int)))
    (dss_one (ds_ret (de_var 1))))), ?_⟩
  rintro as R ⟨z, rfl, hz, hR⟩
  have hl : z.cps.toList.length = z.length := by rw [Array.length_toList]; rfl
  have fin : ∀ (a : Nat) , sa 400 z.cps.toList = a → (endsOf R).rt (PyData.int a) [Sl.dat (PyData.str z), Sl.dat (PyData.int a)] := fun a e => ⟨[], by rw [← e]; exact hR, outs0⟩
  have key : ∀ (m a : Nat), a ≤ 400 → a ≤ z.length → min 400 z.length - a = m → sa 400 z.cps.toList = a + sa (400 - a) (z.cps.toList.drop a) →
      whW (dAnd (dTest (dOp (dB fun i j => decide (i < j)) (dVar 1) (dLen (dVar 0)))) (dAnd (dTest (dOp (dB fun i j => decide (i < j)) (dVar 1) (dC (.int 400)))) (dTest (dCall S_is_sign (cD (dOp dIxS (dVar 0) (dVar 1)) cNil))))) (dAug (fun i j => i + j) 1 (dC (.int 1)))
        { endsOf R with nx := dRet (dVar 1) (endsOf R) } (m + 1) [.dat (.str z), .dat (.int a)] := by
    intro m
    induction m with
    | zero =>
      intro a h1 h2 h3 h4
      simp [whW, dAnd, dTest, dOp, dB, dVar, dLen, dC, dIxS, dCall, cD, cNil, muts, asOf, S_is_sign, setOuts, hz, dRet, dAug]
      have e0 : sa (400 - a) (z.cps.toList.drop a) = 0 := by
        by_cases ha : a = 400
        · rw [ha]
          rfl
        · have : z.cps.toList.drop a = [] := by
            apply List.drop_eq_nil_of_le
            rw [hl]
            omega
          rw [this]
          cases 400 - a <;> rfl
      by_cases c1 : a < z.length
      · rw [if_pos c1, if_neg (by omega)]
        exact fin a (by omega)
      · rw [if_neg c1]
        exact fin a (by omega)
    | succ m ih =>
      intro a h1 h2 h3 h4
      rw [whW]
      simp [dAnd, dTest, dOp, dB, dVar, dLen, dC, dIxS, dCall, cD, cNil, muts, asOf, S_is_sign, setOuts, hz, dRet, dAug]
      have c1 : a < z.length := by omega
      have c2 : (a : Int) < 400 := by omega
      have hla : a < z.cps.toList.length := by rw [hl]; exact c1
      have hc : z.cps.toList[a]? = some z.cps.toList[a] := List.getElem?_eq_getElem hla
      rw [if_pos c1, if_pos c2, atI_nat hc]
      show if small z.cps.toList[a] = true then _ else _
      rw [List.drop_eq_getElem_cons hla, show 400 - a = (400 - (a + 1)) + 1 by omega] at h4
      have h4 : sa 400 z.cps.toList = a + (if small z.cps.toList[a] = true then sa (400 - (a + 1)) (z.cps.toList.drop (a + 1)) + 1 else 0) := h4
      by_cases hs : small z.cps.toList[a] = true
      · rw [if_pos hs] at h4 ⊢
        exact ih (a + 1) (by omega) (by omega) (by omega) (by omega)
      · rw [if_neg hs] at h4 ⊢
        exact fin a h4
  exact ⟨_, key _ 0 (by omega) (by omega) rfl (by simp)⟩
theorem ok_is_word {f : Addr} {fd : FuncData} (F : Fun K "is_word" "is_word" s_is_word f fd) (k_signs_ahead : Kn P w K mg base 2 "signs_ahead" S_signs) : FnOk P w K mg base CX0 3 f fd ["thing"] (spD K S_is_word) := by
  refine fnD F sc_is_word (fun as R h => by obtain ⟨_, rfl, _⟩ := h; rfl) fun cdv A outer s H E hr => ?_
  have nd := sc_is_word.nd
  have hu := hr.units
  have hu1 := hr.units1
  refine ⟨_, _, (dss_one (ds_ret (de_and (de_isi (T := "str") m_isinstance m_str (by decide +kernel) (de_var 0)) (de_one (de_cmp (op_eqD hu) ro_eq (nomark _) (de_call k_signs_ahead hr (by decide) (dca_d (de_var 0) dca_nil)) (de_len (ps := default) m_len (de_var 0))))))), ?_⟩
  rintro as R ⟨d, rfl, hd, hR⟩
  cases d with
  | str z =>
    obtain ⟨hz, hc⟩ := hd
    have hz' := nat_le_size (n := z.length) (by omega)
    simp [dRet, dRetNew, dAndV, dIsi, dVar, dOp, dEq, dNe, dLen, dC, dChain, dS, dI, dIC, dB, dIxV, slL, dSlScr, dCat, dLst, dCons, dNil, dPart, dNoPart, dIxL, dIxS, dAsg, dgName, dSeq, dIfS, dSetI, dTest, dInt1, cS, cD, cNil, dNext, tyD, kb_ss, kb_bb, sh_int, sh_bool, ev_ii, ev_bb, endsOf, endsNew, dAnd, dOr, dNot, cps_a, cps_z, lt_one', le_one', cps_one, at0, at1, ix20, ix21, dCall, muts, asOf, S_signs, setOuts]
    refine ⟨hz', [], ?_, outs0⟩
    rw [sa_is]
    exact hR
  | none =>
    simp [dRet, dRetNew, dAndV, dIsi, dVar, dOp, dEq, dNe, dLen, dC, dChain, dS, dI, dIC, dB, dIxV, slL, dSlScr, dCat, dLst, dCons, dNil, dPart, dNoPart, dIxL, dIxS, dAsg, dgName, dSeq, dIfS, dSetI, dTest, dInt1, cS, cD, cNil, dNext, tyD, kb_ss, kb_bb, sh_int, sh_bool, ev_ii, ev_bb, endsOf, endsNew, dAnd, dOr, dNot, cps_a, cps_z, lt_one', le_one', cps_one, at0, at1, ix20, ix21, kb_ns]
    exact ⟨[], hR, outs0⟩
  | bool b =>
    simp [dRet, dRetNew, dAndV, dIsi, dVar, dOp, dEq, dNe, dLen, dC, dChain, dS, dI, dIC, dB, dIxV, slL, dSlScr, dCat, dLst, dCons, dNil, dPart, dNoPart, dIxL, dIxS, dAsg, dgName, dSeq, dIfS, dSetI, dTest, dInt1, cS, cD, cNil, dNext, tyD, kb_ss, kb_bb, sh_int, sh_bool, ev_ii, ev_bb, endsOf, endsNew, dAnd, dOr, dNot, cps_a, cps_z, lt_one', le_one', cps_one, at0, at1, ix20, ix21, kb_bs]
    exact ⟨[], hR, outs0⟩
  | int b =>
    simp [dRet, dRetNew, dAndV, dIsi, dVar, dOp, dEq, dNe, dLen, dC, dChain, dS, dI, dIC, dB, dIxV, slL, dSlScr, dCat, dLst, dCons, dNil, dPart, dNoPart, dIxL, dIxS, dAsg, dgName, dSeq, dIfS, dSetI, dTest, dInt1, cS, cD, cNil, dNext, tyD, kb_ss, kb_bb, sh_int, sh_bool, ev_ii, ev_bb, endsOf, endsNew, dAnd, dOr, dNot, cps_a, cps_z, lt_one', le_one', cps_one, at0, at1, ix20, ix21, kb_is]
    exact ⟨[], hR, outs0⟩
  | list b =>
    simp [dRet, dRetNew, dAndV, dIsi, dVar, dOp, dEq, dNe, dLen, dC, dChain, dS, dI, dIC, dB, dIxV, slL, dSlScr, dCat, dLst, dCons, dNil, dPart, dNoPart, dIxL, dIxS, dAsg, dgName, dSeq, dIfS, dSetI, dTest, dInt1, cS, cD, cNil, dNext, tyD, kb_ss, kb_bb, sh_int, sh_bool, ev_ii, ev_bb, endsOf, endsNew, dAnd, dOr, dNot, cps_a, cps_z, lt_one', le_one', cps_one, at0, at1, ix20, ix21, kb_ls]
    exact ⟨[], hR, outs0⟩
  | tuple b =>
    simp [dRet, dRetNew, dAndV, dIsi, dVar, dOp, dEq, dNe, dLen, dC, dChain, dS, dI, dIC, dB, dIxV, slL, dSlScr, dCat, dLst, dCons, dNil, dPart, dNoPart, dIxL, dIxS, dAsg, dgName, dSeq, dIfS, dSetI, dTest, dInt1, cS, cD, cNil, dNext, tyD, kb_ss, kb_bb, sh_int, sh_bool, ev_ii, ev_bb, endsOf, endsNew, dAnd, dOr, dNot, cps_a, cps_z, lt_one', le_one', cps_one, at0, at1, ix20, ix21, kb_ts]
    exact ⟨[], hR, outs0⟩
  | dict b =>
    simp [dRet, dRetNew, dAndV, dIsi, dVar, dOp, dEq, dNe, dLen, dC, dChain, dS, dI, dIC, dB, dIxV, slL, dSlScr, dCat, dLst, dCons, dNil, dPart, dNoPart, dIxL, dIxS, dAsg, dgName, dSeq, dIfS, dSetI, dTest, dInt1, cS, cD, cNil, dNext, tyD, kb_ss, kb_bb, sh_int, sh_bool, ev_ii, ev_bb, endsOf, endsNew, dAnd, dOr, dNot, cps_a, cps_z, lt_one', le_one', cps_one, at0, at1, ix20, ix21, kb_ds]
    exact ⟨[], hR, outs0⟩
theorem ok_law_hand {f : Addr} {fd : FuncData} (F : Fun K "_law_hand" "_law_hand" s_law_hand f fd)  : FnOk P w K mg base CX0 1 f fd ["_law_script", "_law_k"] (spN K S_hand) := by
  refine fnN F sc_law_hand (fun as R h => by obtain ⟨_, _, rfl, _⟩ := h; rfl) fun cdv A outer s H E hr => ?_
  have nd := sc_law_hand.nd
  have hu := hr.units
  have hu1 := hr.units1
  refine ⟨_, _, (dss_cons (ds_set 2 nd (de_ix ix_list ro_ixL (de_op op_cat ro_cat (de_slScr 0 (do_some (de_var 1)) (do_some (de_op op_add ro_I (de_var 1) de_int))) (de_lst (da_cons de_int da_nil))) de_int))
    (dss_cons (ds_set 3 nd (de_op op_mod ro_IC (de_op op_mul ro_IC (de_op op_add ro_I (de_op op_add ro_I (de_op op_mod ro_IC (de_var 2) de_int) (de_op op_mul ro_IC de_int (de_var 1))) de_int) de_int) de_int))
    (dss_one (ds_retNew (da_cons (de_op op_mul ro_IC (de_int1 m_int (de_cmp op_ge ro_B (nomark _) (de_var 2) (de_op op_pow ro_IC de_int de_int))) (de_var 2)) (da_cons (de_var 3) da_nil)))))), ?_⟩
  rintro as R ⟨ns, k, rfl, hl, hk, hR⟩
  obtain ⟨z, hz⟩ := cell_at ns (some k) (some (k + 1))
  obtain ⟨ms, he, hm⟩ := cutP_map ns (some k) (some (k + 1))
  have hlen : (cutP (List.map PyData.int ns) (some k) (some (k + 1))).length ≤ 63 := by
    rw [he, List.length_map]
    omega
  simp [dRet, dRetNew, dAndV, dIsi, dVar, dOp, dEq, dNe, dLen, dC, dChain, dS, dI, dIC, dB, dIxV, slL, dSlScr, dCat, dLst, dCons, dNil, dPart, dNoPart, dIxL, dIxS, dAsg, dgName, dSeq, dIfS, dSetI, dTest, dInt1, cS, cD, cNil, dNext, tyD, kb_ss, kb_bb, sh_int, sh_bool, ev_ii, ev_bb, endsOf, endsNew, dAnd, dOr, dNot, cps_a, cps_z, lt_one', le_one', cps_one, at0, at1, ix20, ix21, hz]
  refine ⟨nat_le_size (by decide), nat_le_size (by omega), .inl ⟨by decide, by decide⟩, .inr ⟨by decide, by decide⟩, ⟨by decide, by decide, by decide⟩, ?_, nat_le_size (by decide), [], ?_, outs0⟩
  · left
    split <;> exact ⟨by decide, by decide⟩
  · refine hR _ _ ?_ (Int.emod_nonneg _ (by decide)) (Int.lt_of_lt_of_le (Int.emod_lt_of_pos _ (by decide)) (by decide))
    split
    · rw [Int.one_mul]
      omega
    · rw [Int.zero_mul]
      exact Int.le_refl _
theorem ok_law_draw {f : Addr} {fd : FuncData} (F : Fun K "_law_draw" "_law_draw" s_law_draw f fd)  : FnOk P w K mg base CX0 1 f fd ["_law_hand_here", "_law_many"] (spD K S_draw) := by
  refine fnD F sc_law_draw (fun as R h => by obtain ⟨_, _, _, rfl, _⟩ := h; rfl) fun cdv A outer s H E hr => ?_
  have nd := sc_law_draw.nd
  have hu := hr.units
  have hu1 := hr.units1
  refine ⟨_, _, (dss_cons (ds_if (dt_cmp op_gt ro_B (nomark _) (de_ixV 0 de_int) de_int) (dss_cons (ds_set 2 nd (de_op op_mod ro_IC (de_ixV 0 de_int) (de_var 1)))
    (dss_cons (ds_setI 0 (de_op op_fdiv ro_IC (de_ixV 0 de_int) (de_var 1)) de_int)
    (dss_one (ds_ret (de_var 2))))) dss_nil)
    (dss_cons (ds_setI 0 (de_op op_mod ro_IC (de_op op_add ro_I (de_op op_mul ro_IC (de_ixV 0 de_int) de_int) de_int) de_int) de_int)
    (dss_one (ds_ret (de_op op_mod ro_IC (de_op op_fdiv ro_IC (de_op op_mod ro_IC (de_op op_mul ro_IC (de_ixV 0 de_int) (de_ixV 0 de_int)) de_int) de_int) (de_var 1)))))), ?_⟩
  rintro as R ⟨x, y, n, rfl, hv, hn, hR⟩
  simp [dRet, dRetNew, dAndV, dIsi, dVar, dOp, dEq, dNe, dLen, dC, dChain, dS, dI, dIC, dB, dIxV, slL, dSlScr, dCat, dLst, dCons, dNil, dPart, dNoPart, dIxL, dIxS, dAsg, dgName, dSeq, dIfS, dSetI, dTest, dInt1, cS, cD, cNil, dNext, tyD, kb_ss, kb_bb, sh_int, sh_bool, ev_ii, ev_bb, endsOf, endsNew, dAnd, dOr, dNot, cps_a, cps_z, lt_one', le_one', cps_one, at0, at1, ix20, ix21]
  obtain ⟨h1, h2, h3⟩ := hv
  split
  · refine ⟨hn.1, ⟨hn.1, hn.2⟩, _, hR _ _ _ ⟨Int.emod_nonneg _ (by omega), Int.emod_lt_of_pos _ hn.1⟩ ⟨Int.ediv_nonneg h1 (by omega), h2, h3⟩, outs1 0 rfl⟩
  · have a1 := Int.emod_nonneg (y * 48271 + 11) (by decide : (2147483647 : Int) ≠ 0)
    have a2 := Int.emod_lt_of_pos (y * 48271 + 11) (by decide : (0 : Int) < 2147483647)
    refine ⟨.inr ⟨by decide, by decide⟩, .inl ⟨by omega, by omega⟩, ⟨by decide, by decide⟩, hn.1, _, hR _ _ _ ⟨Int.emod_nonneg _ (by omega), Int.emod_lt_of_pos _ hn.1⟩ ⟨h1, a1, by omega⟩, outs1 0 rfl⟩
theorem ok_law_word {f : Addr} {fd : FuncData} (F : Fun K "_law_word" "_law_word" s_law_word f fd) (k_law_draw : Kn P w K mg base 1 "_law_draw" S_draw) : FnOk P w K mg base CX0 2 f fd ["_law_hand_here"] (spD K S_word) := by
  refine fnD F sc_law_word (fun as R h => by obtain ⟨_, _, rfl, _⟩ := h; rfl) fun cdv A outer s H E hr => ?_
  have nd := sc_law_word.nd
  have hu := hr.units
  have hu1 := hr.units1
  refine ⟨_, _, (dss_cons (ds_set 1 nd de_str)
    (dss_cons (ds_set 2 nd (de_call k_law_draw hr (by decide) (dca_s 0 (dca_d de_int dca_nil))))
    (dss_cons (ds_if (dt_cmp (op_eqD hu) ro_eq (nomark _) (de_call k_law_draw hr (by decide) (dca_s 0 (dca_d de_int dca_nil))) de_int) (dss_one (ds_set 2 nd (de_op op_add ro_I de_int (de_call k_law_draw hr (by decide) (dca_s 0 (dca_d de_int dca_nil)))))) dss_nil)
    (dss_cons (ds_set 3 nd (de_call k_law_draw hr (by decide) (dca_s 0 (dca_d de_int dca_nil))))
    (dss_cons (ds_set 4 nd (de_call k_law_draw hr (by decide) (dca_s 0 (dca_d de_int dca_nil))))
    (dss_one (ds_ret (de_join de_str (de_lc [("_law_k", 5)] rfl nd (di_r1 m_range (de_var 2)) (blkOk_by (N := ["_law_hand_here", "_law_letters", "_law_many", "_law_start", "_law_step", "_law_k"]) (sc := defScope s_law_word) (by decide +kernel)) (fun _ _ _ _ _ => (dg_name 5 nd)) (fun _ _ _ _ _ => dts_nil) (fun _ _ _ _ _ => (de_ix ix_str ro_ixS (de_var 1) (de_op op_mod ro_IC (de_op op_add ro_I (de_var 3) (de_op op_mul ro_IC (de_var 4) (de_var 5))) de_int))) (by decide)))))))))), ?_⟩
  rintro as R ⟨x, y, rfl, hv, hR⟩
  dsimp only [dSeq, dAsg, dgName, dRet, dC]
  refine call_draw (i := 0) (t := some 0) (n := 10) ?_ hv ⟨by decide, by decide⟩ ?_ ?_
  · rfl
  · exact fun Q q => q
  intro m x1 y1 hm hv1
  dsimp only [dIfS, dTest, dOp]
  refine call_draw (i := 0) (t := some 0) (n := 4) ?_ hv1 ⟨by decide, by decide⟩ ?_ ?_
  · rfl
  · exact fun Q q => q
  intro q x2 y2 hq hv2
  refine ⟨rfl, rfl, ?_⟩
  have rest : ∀ (mm x y : Int) (s0 : Sl), 0 ≤ mm → mm ≤ 402 → okH x y → dSeq (dAsg (dCall S_draw (cS 0 (cD (dC (PyData.int 26)) cNil))) (dgName 3))
            (dSeq (dAsg (dCall S_draw (cS 0 (cD (dC (PyData.int 26)) cNil))) (dgName 4))
              (dRet
                (dJoin (dC (PyData.str (Str.ofString "")))
                  (dLc (diR1 (dVar 2)) (dgName 5) dYes
                    (dOp dIxS (dVar 1)
                      (dOp (dIC (fun x j => 0 < j) fun i j => i % j)
                        (dOp (dI fun i j => i + j) (dVar 3) (dOp (dIC CMul fun i j => i * j) (dVar 4) (dVar 5)))
                        (dC (PyData.int 26))))
                    [5]))))
            (endsOf R) [.own (some 0) [.int x, .int y], .dat (.str (Str.ofString "abcdefghijklmnopqrstuvwxyz")), .dat (.int mm), .no, .no, .no] := by
    intro mm x y s0 h0 h1 hv
    dsimp only [dSeq, dAsg, dgName, dRet, dC]
    refine call_draw (i := 0) (t := some 0) (n := 26) ?_ hv ⟨by decide, by decide⟩ ?_ ?_
    · rfl
    · exact fun Q q => q
    intro st x3 y3 hst hv3
    refine call_draw (i := 0) (t := some 0) (n := 26) ?_ hv3 ⟨by decide, by decide⟩ ?_ ?_
    · rfl
    · exact fun Q q => q
    intro sp x4 y4 hsp hv4
    dsimp only [dJoin, dLc, diR1]
    refine ⟨⟨by omega, by omega⟩, ?_⟩
    have len26 : (Str.ofString "abcdefghijklmnopqrstuvwxyz").cps.toList.length = 26 := by decide +kernel
    have ok26 : ∀ c ∈ (Str.ofString "abcdefghijklmnopqrstuvwxyz").cps.toList, c < 1114112 := by decide +kernel
    refine lc_fm (fun _ => true) (fun d => match d with
      | .int k => .str ⟨#[((Str.ofString "abcdefghijklmnopqrstuvwxyz").cps.toList.getD ((st + sp * k) % 26).toNat 97)]⟩
      | _ => .none) (δ0 := [.own (some 0) [.int x4, .int y4], .dat (.str (Str.ofString "abcdefghijklmnopqrstuvwxyz")), .dat (.int mm), .dat (.int st), .dat (.int sp), .no]) _ _ _ rfl ?_ ?_ rfl ?_
    · have e1 : (iotaD 0 mm.toNat).length = mm.toNat := by
        unfold iotaD
        rw [List.length_map, List.length_range]
      show 0 + _ ≤ 16777216
      omega
    · intro d hd Y N hy hn
      obtain ⟨k, hk, rfl⟩ := List.mem_map.mp hd
      have a1 := Int.emod_nonneg (st + sp * ((0 : Int) + (k : Int))) (by decide : (26 : Int) ≠ 0)
      have a2 := Int.emod_lt_of_pos (st + sp * ((0 : Int) + (k : Int))) (by decide : (0 : Int) < 26)
      have hi : ((st + sp * ((0 : Int) + (k : Int))) % 26).toNat < (Str.ofString "abcdefghijklmnopqrstuvwxyz").cps.toList.length := by
        rw [len26]
        omega
      have ei : atI (Str.ofString "abcdefghijklmnopqrstuvwxyz").cps.toList ((st + sp * ((0 : Int) + (k : Int))) % 26) = some ((Str.ofString "abcdefghijklmnopqrstuvwxyz").cps.toList.getD ((st + sp * ((0 : Int) + (k : Int))) % 26).toNat 97) := by
        have e0 : (st + sp * ((0 : Int) + (k : Int))) % 26 = ((((st + sp * ((0 : Int) + (k : Int))) % 26).toNat : Nat) : Int) := by omega
        rw [e0]
        refine atI_nat ?_
        rw [Int.toNat_natCast, List.getElem?_eq_getElem hi, getD_at hi]
      show CMul sp ((0 : Int) + (k : Int)) ∧ (0 < (26 : Int)) ∧ ((Str.ofString "abcdefghijklmnopqrstuvwxyz").length ≤ sizeLine ∧ (match atI (Str.ofString "abcdefghijklmnopqrstuvwxyz").cps.toList ((st + sp * ((0 : Int) + (k : Int))) % 26) with
        | some c => Y (.str ⟨#[c]⟩) _
        | none => False))
      rw [ei]
      refine ⟨.inl ⟨by omega, by omega⟩, by decide, nat_le_size (by decide +kernel), hy rfl _ rfl⟩
    · intro δ' h'
      have hδ : ∃ s5, δ' = [.own (some 0) [.int x4, .int y4], .dat (.str (Str.ofString "abcdefghijklmnopqrstuvwxyz")), .dat (.int mm), .dat (.int st), .dat (.int sp), s5] := by
        rcases δ' with _ | ⟨a, _ | ⟨b, _ | ⟨c, _ | ⟨d, _ | ⟨e, _ | ⟨f, _ | ⟨g, r⟩⟩⟩⟩⟩⟩⟩ <;> simp [wipeS] at h'
        obtain ⟨rfl, rfl, rfl, rfl, rfl⟩ := h'
        exact ⟨f, rfl⟩
      obtain ⟨s5, rfl⟩ := hδ
      have ef : (iotaD 0 mm.toNat).filter (fun _ => true) = iotaD 0 mm.toNat := List.filter_eq_self.mpr fun _ _ => rfl
      rw [List.nil_append, ef]
      have el : ∃ cs : List Nat, cs.length = mm.toNat ∧ (∀ c ∈ cs, c < 1114112) ∧ ((iotaD 0 mm.toNat).map fun d => match d with
          | .int k => PyData.str ⟨#[((Str.ofString "abcdefghijklmnopqrstuvwxyz").cps.toList.getD ((st + sp * k) % 26).toNat 97)]⟩
          | _ => .none) = cs.map fun c => PyData.str ⟨#[c]⟩ := by
        refine ⟨(List.range mm.toNat).map fun (k : Nat) => ((Str.ofString "abcdefghijklmnopqrstuvwxyz").cps.toList.getD ((st + sp * ((0 : Int) + (k : Int))) % 26).toNat 97), by rw [List.length_map, List.length_range], fun c hc => ?_, ?_⟩
        · obtain ⟨k, _, rfl⟩ := List.mem_map.mp hc
          have a1 := Int.emod_nonneg (st + sp * ((0 : Int) + (k : Int))) (by decide : (26 : Int) ≠ 0)
          have a2 := Int.emod_lt_of_pos (st + sp * ((0 : Int) + (k : Int))) (by decide : (0 : Int) < 26)
          have hi : ((st + sp * ((0 : Int) + (k : Int))) % 26).toNat < (Str.ofString "abcdefghijklmnopqrstuvwxyz").cps.toList.length := by
            rw [len26]
            omega
          rw [getD_at hi]
          exact ok26 _ (List.getElem_mem hi)
        · unfold iotaD
          rw [List.map_map, List.map_map]
          rfl
      obtain ⟨cs, hcs, hok, ecs⟩ := el
      rw [ecs]
      show (match strsOf (cs.map fun c => PyData.str ⟨#[c]⟩) with
        | some ys => (ys.map (·.length)).sum + ys.length * (Str.ofString "").length ≤ 16777216 ∧ (endsOf R).rt (.str (Txt.join (Str.ofString "") ys)) _
        | none => False)
      rw [strsOf_ones]
      have sum1 : ∀ cs : List Nat, ((cs.map fun c => (⟨#[c]⟩ : Str)).map (·.length)).sum = cs.length := fun cs => by
        induction cs with
        | nil => rfl
        | cons c r ih =>
          rw [List.map_cons, List.map_cons, List.sum_cons, ih, List.length_cons]
          show 1 + r.length = r.length + 1
          omega
      have z0 : (Str.ofString "").length = 0 := by decide +kernel
      refine ⟨?_, _, ?_, outs1 0 rfl⟩
      · rw [sum1, z0, Nat.mul_zero]
        omega
      · rw [join_ones]
        refine hR _ x4 y4 ?_ ?_ hv4
        · show cs.toArray.size ≤ 402
          rw [List.size_toArray]
          omega
        · intro c hc
          exact hok c (by simpa using hc)
  show if PyData.eqv (.int q) (.int 0) = true then _ else _
  split
  · dsimp only [dAsg, dOp, dC, dgName]
    refine call_draw (i := 0) (t := some 0) (n := 5) ?_ hv2 ⟨by decide, by decide⟩ ?_ ?_
    · rfl
    · exact fun Q q => q
    intro p x3 y3 hp hv3
    exact rest _ _ _ .no (by omega) (by omega) hv3
  · exact rest _ _ _ .no (by omega) (by omega) hv2
theorem ok_law_spoilt {f : Addr} {fd : FuncData} (F : Fun K "_law_spoilt" "_law_spoilt" s_law_spoilt f fd) (k_law_draw : Kn P w K mg base 1 "_law_draw" S_draw) : FnOk P w K mg base CX0 2 f fd ["_law_hand_here", "_law_word_here"] (spD K S_spoilt) := by
  refine fnD F sc_law_spoilt (fun as R h => by obtain ⟨_, _, _, rfl, _⟩ := h; rfl) fun cdv A outer s H E hr => ?_
  have nd := sc_law_spoilt.nd
  have hu := hr.units
  have hu1 := hr.units1
  refine ⟨_, _, (dss_cons (ds_set 2 nd de_str)
    (dss_cons (ds_set 3 nd (de_call k_law_draw hr (by decide) (dca_s 0 (dca_d (de_op op_add ro_I (de_len (ps := default) m_len (de_var 1)) de_int) dca_nil))))
    (dss_cons (ds_set 4 nd (de_ix ix_str ro_ixS (de_var 2) (de_call k_law_draw hr (by decide) (dca_s 0 (dca_d (de_len (ps := default) m_len (de_var 2)) dca_nil)))))
    (dss_one (ds_ret (de_op op_add_str ro_addS (de_op op_add_str ro_addS (de_sl sl_str rsl_str (de_var 1) do_none (do_some (de_var 3))) (de_op op_mulS ro_mulS (de_var 4) (de_call k_law_draw hr (by decide) (dca_s 0 (dca_d de_int dca_nil))))) (de_sl sl_str rsl_str (de_var 1) (do_some (de_op op_add ro_I (de_var 3) (de_call k_law_draw hr (by decide) (dca_s 0 (dca_d de_int dca_nil))))) do_none))))))), ?_⟩
  rintro as R ⟨x, y, w, rfl, hv, hw, hR⟩
  obtain ⟨hw1, hw2⟩ := hw
  have hsz := nat_le_size (n := w.length) (by omega)
  dsimp only [dSeq, dAsg, dgName, dRet, dC]
  refine call_draw (i := 0) (t := some 0) (n := (w.length : Int) + 1) ?_ hv ⟨by omega, by omega⟩ ?_ ?_
  · rfl
  · exact fun Q q => ⟨hsz, q⟩
  intro p x1 y1 hp hv1
  dsimp only [dOp]
  refine var_go (i := 2) (d := .str odd) rfl ?_
  obtain ⟨o1, o2⟩ := odd_lo
  have o3 := odd_len
  refine call_draw (i := 0) (t := some 0) (n := (odd.length : Int)) ?_ hv1 ⟨by omega, by omega⟩ ?_ ?_
  · rfl
  · exact fun Q q => ⟨nat_le_size (by show odd.length ≤ _; omega), q⟩
  intro r x2 y2 hr hv2
  have hi : r.toNat < odd.cps.toList.length := by omega
  have ei : atI odd.cps.toList r = some odd.cps.toList[r.toNat] := by
    have z := atI_nat (List.getElem?_eq_getElem hi)
    rw [show ((r.toNat : Nat) : Int) = r by omega] at z
    exact z
  have hc : odd.cps.toList[r.toNat] < 1114112 := odd_ok _ (List.getElem_mem hi)
  generalize odd.cps.toList[r.toNat] = c at ei hc
  show odd.length ≤ sizeLine ∧ (match atI odd.cps.toList r with
    | some c => _
    | none => False)
  rw [ei]
  refine ⟨nat_le_size (by omega), ?_⟩
  dsimp only [dSl, dNoPart, dPart]
  refine var_go (i := 1) (d := .str w) rfl ?_
  refine var_go (i := 3) (d := .int p) rfl ?_
  refine ⟨hsz, ?_⟩
  refine var_go (i := 4) (d := .str ⟨#[c]⟩) rfl ?_
  refine call_draw (i := 0) (t := some 0) (n := 2) ?_ hv2 ⟨by decide, by decide⟩ ?_ ?_
  · rfl
  · exact fun Q q => q
  intro q x3 y3 hq hv3
  have hm : okC (Txt.mul ⟨#[c]⟩ q) ∧ (Txt.mul ⟨#[c]⟩ q).length ≤ 1 := by
    rcases mul01 (x := ⟨#[c]⟩) hq.1 hq.2 with e | e
    · rw [e]
      exact ⟨fun d hd => (by cases hd), Nat.zero_le _⟩
    · rw [e]
      exact ⟨okC_one hc, Nat.le_refl _⟩
  refine ⟨⟨by omega, by omega, by show 1 ≤ 800; decide⟩, ?_⟩
  have l1 := cutS_length w none (some p)
  refine ⟨nat_le_size (by omega), ?_⟩
  refine var_go (i := 1) (d := .str w) rfl ?_
  refine var_go (i := 3) (d := .int p) rfl ?_
  refine call_draw (i := 0) (t := some 0) (n := 2) ?_ hv3 ⟨by decide, by decide⟩ ?_ ?_
  · rfl
  · exact fun Q q => q
  intro q2 x4 y4 hq2 hv4
  have l2 := cutS_length w (some (p + q2)) none
  refine ⟨hsz, nat_le_size (by rw [len_app]; omega), _, hR _ x4 y4 ?_ ?_ hv4, outs1 0 rfl⟩
  · rw [len_app, len_app]
    omega
  · exact okC_app (okC_app (okC_cut hw2 _ _) hm.1) (okC_cut hw2 _ _)
theorem ok_law_right {f : Addr} {fd : FuncData} (F : Fun K "_law_right" "_law_right" s_law_right f fd) (k_is_word : Kn P w K mg base 3 "is_word" S_is_word) : FnOk P w K mg base CX0 4 f fd ["_law_thing"] (spD K S_right) := by
  refine fnD F sc_law_right (fun as R h => by obtain ⟨_, rfl, _⟩ := h; rfl) fun cdv A outer s H E hr => ?_
  have nd := sc_law_right.nd
  have hu := hr.units
  have hu1 := hr.units1
  refine ⟨_, _, (dss_cons (ds_set 1 nd (de_and (de_isi (T := "str") m_isinstance m_str (by decide +kernel) (de_var 0)) (de_one (de_cmp op_lt ro_B (nomark _) (de_len (ps := default) m_len (de_var 0)) de_int))))
    (dss_cons (ds_if (dt_w (dw_and (dt_val (de_var 1)) (dw_and1 (dt_cmp (op_neD hu) ro_ne (nomark _) (de_lc [("_law_sign", 3)] rfl nd (di_str (de_var 0)) (blkOk_by (N := ["_law_thing", "_law_due", "_law_found", "_law_sign"]) (sc := defScope s_law_right) (by decide +kernel)) (fun _ _ _ _ _ => (dg_name 3 nd)) (fun _ _ _ _ _ => (dts_one (dt_not (dt_chain op_le_str ro_S op_le_str ro_S de_str (de_var 3) de_str)))) (fun _ _ _ _ _ => (de_var 3)) (by decide)) (de_lst da_nil))))) (dss_one (ds_set 1 nd de_bl)) dss_nil)
    (dss_cons (ds_set 2 nd (de_call k_is_word hr (by decide) (dca_d (de_var 0) dca_nil)))
    (dss_one (ds_ret (de_and (de_isi (T := "bool") m_isinstance m_bool (by decide +kernel) (de_var 2)) (de_one (de_cmp (op_eqD hu) ro_eq (nomark _) (de_var 2) (de_var 1))))))))), ?_⟩
  rintro as R ⟨d, rfl, hd, hR⟩
  have tail : ∀ (b : Bool) (s3 : Sl), b = isWord d → dSeq (dAsg (dCall S_is_word (cD (dVar 0) cNil)) (dgName 2)) (dRet (dAndV (dIsi "bool" (dVar 2)) (dOp dEq (dVar 2) (dVar 1)))) (endsOf R) [.dat d, .dat (.bool b), .no, s3] := by
    intro b s3 e
    subst e
    dsimp only [dSeq, dAsg, dgName]
    refine call_pure (ua := cD (dVar 0) cNil) [d] ?_ ⟨d, rfl, hd, rfl, ?_⟩ (right_mono _)
    · exact fun Q q => q
    simp [dRet, dRetNew, dAndV, dIsi, dVar, dOp, dEq, dNe, dLen, dC, dChain, dS, dI, dIC, dB, dIxV, slL, dSlScr, dCat, dLst, dCons, dNil, dPart, dNoPart, dIxL, dIxS, dAsg, dgName, dSeq, dIfS, dSetI, dTest, dInt1, cS, cD, cNil, dNext, tyD, kb_ss, kb_bb, sh_int, sh_bool, ev_ii, ev_bb, endsOf, endsNew, dAnd, dOr, dNot, cps_a, cps_z, lt_one', le_one', cps_one, at0, at1, ix20, ix21]
    exact ⟨[], hR, outs0⟩
  generalize dSeq (dAsg (dCall S_is_word (cD (dVar 0) cNil)) (dgName 2)) (dRet (dAndV (dIsi "bool" (dVar 2)) (dOp dEq (dVar 2) (dVar 1)))) = C at tail ⊢
  cases d with
  | str z =>
    obtain ⟨hz, hc⟩ := hd
    have hz' := nat_le_size (n := z.length) (by omega)
    simp [dRet, dRetNew, dAndV, dIsi, dVar, dOp, dEq, dNe, dLen, dC, dChain, dS, dI, dIC, dB, dIxV, slL, dSlScr, dCat, dLst, dCons, dNil, dPart, dNoPart, dIxL, dIxS, dAsg, dgName, dSeq, dIfS, dSetI, dTest, dInt1, cS, cD, cNil, dNext, tyD, kb_ss, kb_bb, sh_int, sh_bool, ev_ii, ev_bb, dAnd, dOr, dNot, cps_a, cps_z, lt_one', le_one', cps_one, at0, at1, ix20, ix21, dLc, diS, -Array.lt_toList, -Array.le_toList]
    refine ⟨hz', ?_⟩
    by_cases h4 : (z.length : Int) < 401
    · rw [if_pos h4]
      have h400 : z.length ≤ 400 := by omega
      have big : z.length ≤ 400 := h400
      refine lc_fm (fun d => match d with
        | .str x => !(x.cps.toList.all small)
        | _ => false) id (δ0 := [Sl.dat (PyData.str z), Sl.dat (PyData.bool (decide ((z.length : Int) < 401))), Sl.no, Sl.no]) _ _ _ rfl ?_ ?_ rfl ?_
      · have e1 : (List.map (fun c => PyData.str { cps := #[c] }) z.cps.toList).length = z.length := by
          rw [List.length_map, Array.length_toList]
          rfl
        show 0 + _ ≤ 16777216
        omega
      · intro d hd Y N hy hn
        obtain ⟨c, hcm, rfl⟩ := List.mem_map.mp hd
        have ea : ([c] : List Nat).all small = small c := by simp
        simp [dRet, dRetNew, dAndV, dIsi, dVar, dOp, dEq, dNe, dLen, dC, dChain, dS, dI, dIC, dB, dIxV, slL, dSlScr, dCat, dLst, dCons, dNil, dPart, dNoPart, dIxL, dIxS, dAsg, dgName, dSeq, dIfS, dSetI, dTest, dInt1, cS, cD, cNil, dNext, tyD, kb_ss, kb_bb, sh_int, sh_bool, ev_ii, ev_bb, dAnd, dOr, dNot, cps_a, cps_z, lt_one', le_one', cps_one, at0, at1, ix20, ix21, -Array.lt_toList, -Array.le_toList]
        by_cases h1 : 97 ≤ c
        · rw [if_pos h1]
          by_cases h2 : 122 < c
          · rw [if_pos h2]
            refine hy ?_ _ rfl
            show (!([c] : List Nat).all small) = true
            rw [ea]
            unfold small
            rw [decide_eq_true h1, decide_eq_false (show ¬ c ≤ 122 by omega)]
            rfl
          · rw [if_neg h2]
            refine hn ?_ _ rfl
            show (!([c] : List Nat).all small) = false
            rw [ea]
            unfold small
            rw [decide_eq_true h1, decide_eq_true (show c ≤ 122 by omega)]
            rfl
        · rw [if_neg h1]
          refine hy ?_ _ rfl
          show (!([c] : List Nat).all small) = true
          rw [ea]
          unfold small
          rw [decide_eq_false h1]
          rfl
      · intro δ' h'
        have hδ : ∃ x, δ' = [Sl.dat (PyData.str z), Sl.dat (PyData.bool (decide ((z.length : Int) < 401))), Sl.no, x] := by
          rcases δ' with _ | ⟨a, _ | ⟨b, _ | ⟨c, _ | ⟨x, _ | ⟨y, r⟩⟩⟩⟩⟩ <;> simp [wipeS] at h'
          obtain ⟨rfl, rfl, rfl⟩ := h'
          exact ⟨x, by simp⟩
        obtain ⟨x, rfl⟩ := hδ
        have el : ([] ++ List.map id (List.filter (fun d => match d with
              | PyData.str x => !x.cps.toList.all small
              | x => false) (List.map (fun c => PyData.str { cps := #[c] }) z.cps.toList)) : List PyData) = (z.cps.toList.filter fun c => !small c).map fun c => PyData.str ⟨#[c]⟩ := by
          rw [List.nil_append, List.map_id, List.filter_map]
          congr 1
          apply List.filter_congr
          intro c _
          simp
        rw [el, eqv_nil]
        refine ⟨shaped_ones _ fun c hc' => hc c (List.mem_filter.mp hc').1, rfl, ?_⟩
        by_cases ha : z.cps.toList.all small = true
        · have : (z.cps.toList.filter fun c => !small c) = [] := by
            rw [List.filter_eq_nil_iff]
            intro c hc'
            rw [List.all_eq_true] at ha
            rw [ha c hc']
            decide
          rw [this]
          show C (endsOf R) _
          refine tail _ _ ?_
          show decide ((z.length : Int) < 401) = (decide (z.length ≤ 400) && z.cps.toList.all small)
          rw [ha, decide_eq_true h4, decide_eq_true h400]
          rfl
        · have : ¬ (z.cps.toList.filter fun c => !small c) = [] := by
            intro e
            rw [List.filter_eq_nil_iff] at e
            apply ha
            rw [List.all_eq_true]
            intro c hc'
            have q := e c hc'
            cases hs : small c
            · rw [hs] at q
              exact absurd rfl q
            · rfl
          rw [if_neg (by rw [List.isEmpty_iff]; simpa using this)]
          refine tail false x ?_
          show false = (decide (z.length ≤ 400) && z.cps.toList.all small)
          rw [Bool.eq_false_iff.mpr ha, Bool.and_false]
    · rw [if_neg h4]
      refine tail _ _ ?_
      show decide ((z.length : Int) < 401) = (decide (z.length ≤ 400) && z.cps.toList.all small)
      rw [decide_eq_false h4, decide_eq_false (by omega)]
      rfl
  | none =>
    simp [dRet, dRetNew, dAndV, dIsi, dVar, dOp, dEq, dNe, dLen, dC, dChain, dS, dI, dIC, dB, dIxV, slL, dSlScr, dCat, dLst, dCons, dNil, dPart, dNoPart, dIxL, dIxS, dAsg, dgName, dSeq, dIfS, dSetI, dTest, dInt1, cS, cD, cNil, dNext, tyD, kb_ss, kb_bb, sh_int, sh_bool, ev_ii, ev_bb, endsOf, endsNew, dAnd, dOr, dNot, cps_a, cps_z, lt_one', le_one', cps_one, at0, at1, ix20, ix21, kb_ns]
    exact tail false .no rfl
  | bool b =>
    simp [dRet, dRetNew, dAndV, dIsi, dVar, dOp, dEq, dNe, dLen, dC, dChain, dS, dI, dIC, dB, dIxV, slL, dSlScr, dCat, dLst, dCons, dNil, dPart, dNoPart, dIxL, dIxS, dAsg, dgName, dSeq, dIfS, dSetI, dTest, dInt1, cS, cD, cNil, dNext, tyD, kb_ss, kb_bb, sh_int, sh_bool, ev_ii, ev_bb, endsOf, endsNew, dAnd, dOr, dNot, cps_a, cps_z, lt_one', le_one', cps_one, at0, at1, ix20, ix21, kb_bs]
    exact tail false .no rfl
  | int b =>
    simp [dRet, dRetNew, dAndV, dIsi, dVar, dOp, dEq, dNe, dLen, dC, dChain, dS, dI, dIC, dB, dIxV, slL, dSlScr, dCat, dLst, dCons, dNil, dPart, dNoPart, dIxL, dIxS, dAsg, dgName, dSeq, dIfS, dSetI, dTest, dInt1, cS, cD, cNil, dNext, tyD, kb_ss, kb_bb, sh_int, sh_bool, ev_ii, ev_bb, endsOf, endsNew, dAnd, dOr, dNot, cps_a, cps_z, lt_one', le_one', cps_one, at0, at1, ix20, ix21, kb_is]
    exact tail false .no rfl
  | list b =>
    simp [dRet, dRetNew, dAndV, dIsi, dVar, dOp, dEq, dNe, dLen, dC, dChain, dS, dI, dIC, dB, dIxV, slL, dSlScr, dCat, dLst, dCons, dNil, dPart, dNoPart, dIxL, dIxS, dAsg, dgName, dSeq, dIfS, dSetI, dTest, dInt1, cS, cD, cNil, dNext, tyD, kb_ss, kb_bb, sh_int, sh_bool, ev_ii, ev_bb, endsOf, endsNew, dAnd, dOr, dNot, cps_a, cps_z, lt_one', le_one', cps_one, at0, at1, ix20, ix21, kb_ls]
    exact tail false .no rfl
  | tuple b =>
    simp [dRet, dRetNew, dAndV, dIsi, dVar, dOp, dEq, dNe, dLen, dC, dChain, dS, dI, dIC, dB, dIxV, slL, dSlScr, dCat, dLst, dCons, dNil, dPart, dNoPart, dIxL, dIxS, dAsg, dgName, dSeq, dIfS, dSetI, dTest, dInt1, cS, cD, cNil, dNext, tyD, kb_ss, kb_bb, sh_int, sh_bool, ev_ii, ev_bb, endsOf, endsNew, dAnd, dOr, dNot, cps_a, cps_z, lt_one', le_one', cps_one, at0, at1, ix20, ix21, kb_ts]
    exact tail false .no rfl
  | dict b =>
    simp [dRet, dRetNew, dAndV, dIsi, dVar, dOp, dEq, dNe, dLen, dC, dChain, dS, dI, dIC, dB, dIxV, slL, dSlScr, dCat, dLst, dCons, dNil, dPart, dNoPart, dIxL, dIxS, dAsg, dgName, dSeq, dIfS, dSetI, dTest, dInt1, cS, cD, cNil, dNext, tyD, kb_ss, kb_bb, sh_int, sh_bool, ev_ii, ev_bb, endsOf, endsNew, dAnd, dOr, dNot, cps_a, cps_z, lt_one', le_one', cps_one, at0, at1, ix20, ix21, kb_ds]
    exact tail false .no rfl
theorem ok_law {f : Addr} {fd : FuncData} (F : Fun K "law" "law" s_law f fd) (k_law_right : Kn P w K mg base 4 "_law_right" S_right) (k_law_hand : KnN P w K mg base 1 "_law_hand" S_hand) (k_law_word : Kn P w K mg base 2 "_law_word" S_word) (k_law_spoilt : Kn P w K mg base 2 "_law_spoilt" S_spoilt) : FnOk P w K mg base CX0 5 f fd ["_law_script"] (spD K S_law) := by
  refine fnD F sc_law (fun as R h => by obtain ⟨_, _, rfl, _⟩ := h; rfl) fun cdv A outer s H E hr => ?_
  have nd := sc_law.nd
  have hu := hr.units
  have hu1 := hr.units1
  refine ⟨_, _, (dss_cons (ds_for PassesOwn.never rfl (di_list (de_lst (da_cons de_non (da_cons de_bl (da_cons de_int (da_cons de_int (da_cons (de_lst (da_cons de_str da_nil)) (da_cons (de_tup (da_cons de_str da_nil)) (da_cons de_dict0 (da_cons (de_dict1 pe_int fun _ => .int _) (da_cons (de_tup da_nil) (da_cons (de_lst da_nil) (da_cons de_str (da_cons (de_op op_mulS ro_mulS de_str de_int) (da_cons (de_op op_mulS ro_mulS de_str de_int) da_nil))))))))))))))) (dg_name 1 nd)
    (dss_one (ds_if (dt_not (dt_val (de_call k_law_right hr (by decide) (dca_d (de_var 1) dca_nil)))) (dss_one (ds_ret de_bl)) dss_nil)))
    (dss_cons (ds_for PassesOwn.never rfl (di_r1 m_range (de_max2 m_max de_int (de_min2 m_min (de_lenV 0 m_len) de_int))) (dg_name 2 nd)
    (dss_cons (ds_callOwn 3 nd k_law_hand hr (by decide) (dca_s 0 (dca_d (de_var 2) dca_nil)))
    (dss_cons (ds_set 4 nd (de_call k_law_word hr (by decide) (dca_s 3 dca_nil)))
    (dss_one (ds_if (dt_w (dw_or (dt_not (dt_val (de_call k_law_right hr (by decide) (dca_d (de_var 4) dca_nil)))) (dw_or (dt_not (dt_val (de_call k_law_right hr (by decide) (dca_d (de_call k_law_spoilt hr (by decide) (dca_s 3 (dca_d (de_var 4) dca_nil))) dca_nil)))) (dw_or1 (dt_not (dt_val (de_call k_law_right hr (by decide) (dca_d (de_lst (da_cons (de_var 4) da_nil)) dca_nil)))))))) (dss_one (ds_ret de_bl)) dss_nil)))))
    (dss_one (ds_ret de_bl)))), ?_⟩
  rintro as R ⟨ns, hl, rfl, hR⟩
  have right_ok : ∀ (d : PyData) (R : DQ) (u : DCA) (δ : List Sl), okD d → (∀ Q : List CA → List Sl → Prop, Q [CA.d d] δ → u δ Q) → R (.bool true) δ → dCall S_right u δ R := fun d R u δ hd hu hR =>
    call_pure [d] hu ⟨d, rfl, hd, rfl, hR⟩ fun R R' h ⟨d, a, b, k⟩ => ⟨d, a, b, h _ _ k⟩
  have ok400 : okC (Txt.mul (Str.ofString "a") 400) ∧ (Txt.mul (Str.ofString "a") 400).length = 400 := ⟨by unfold okC; decide +kernel, by decide +kernel⟩
  have ok401 : okC (Txt.mul (Str.ofString "a") 401) ∧ (Txt.mul (Str.ofString "a") 401).length = 401 := ⟨by unfold okC; decide +kernel, by decide +kernel⟩
  simp only [dSeq, dFor, diL, dLst, dTup, dCons, dNil, dC, dOp, dMulS]
  refine ⟨nat_le_size (by decide), nat_le_size (by decide), nat_le_size (by decide), nat_le_size (by decide), ⟨by decide, by decide, by decide +kernel⟩, ⟨by decide, by decide, by decide +kernel⟩, nat_le_size (by decide), ?_⟩
  refine for_inv (fun δ => ∃ s1, δ = [.scr (ns.map PyData.int), s1, .no, .no, .no]) ?_ _ _ ⟨.no, rfl⟩ ?_
  · rintro δ ⟨s1, rfl⟩
    dsimp only [dSeq, dFor, diR1, dII, dC]
    show (-(2 ^ 62 : Int) ≤ (if (if (60 : Int) < ((ns.map PyData.int).length : Int) then 60 else ((ns.map PyData.int).length : Int)) > 2 then (if (60 : Int) < ((ns.map PyData.int).length : Int) then 60 else ((ns.map PyData.int).length : Int)) else 2) ∧ (if (if (60 : Int) < ((ns.map PyData.int).length : Int) then 60 else ((ns.map PyData.int).length : Int)) > 2 then (if (60 : Int) < ((ns.map PyData.int).length : Int) then 60 else ((ns.map PyData.int).length : Int)) else 2) < 2 ^ 62) ∧ _
    have hn : (if (if (60 : Int) < ((ns.map PyData.int).length : Int) then 60 else ((ns.map PyData.int).length : Int)) > 2 then (if (60 : Int) < ((ns.map PyData.int).length : Int) then 60 else ((ns.map PyData.int).length : Int)) else 2) ≤ 60 ∧ 2 ≤ (if (if (60 : Int) < ((ns.map PyData.int).length : Int) then 60 else ((ns.map PyData.int).length : Int)) > 2 then (if (60 : Int) < ((ns.map PyData.int).length : Int) then 60 else ((ns.map PyData.int).length : Int)) else 2) := by
      split <;> split <;> omega
    generalize (if (if (60 : Int) < ((ns.map PyData.int).length : Int) then 60 else ((ns.map PyData.int).length : Int)) > 2 then (if (60 : Int) < ((ns.map PyData.int).length : Int) then 60 else ((ns.map PyData.int).length : Int)) else 2) = n at hn ⊢
    refine ⟨⟨by omega, by omega⟩, ?_⟩
    refine for_inv (fun δ => ∃ s1 s2 s3 s4, δ = [.scr (ns.map PyData.int), s1, s2, s3, s4]) ?_ _ _ ⟨_, _, _, _, rfl⟩ ?_
    · rintro δ ⟨s1, s2, s3, s4, rfl⟩
      exact ⟨[], hR, outs0⟩
    · rintro d hd δ ⟨s1, s2, s3, s4, rfl⟩ N hN
      obtain ⟨k, hk, rfl⟩ := List.mem_map.mp hd
      have hk := List.mem_range.mp hk
      dsimp only [dgName]
      refine call_hand (i := 3) (j := 0) (q := 2) (ns := ns) (k := (0 : Int) + (k : Int)) ?_ ?_ hl ⟨by omega, by omega⟩ ?_
      · rfl
      · rfl
      intro x y hv
      dsimp only [dSeq, dAsg, dgName]
      refine call_own1 (i := 3) (t := none) (cs := [.int x, .int y]) ?_ [] ?_ ⟨x, y, rfl, hv, ?_⟩ ?_
      · rfl
      · exact fun Q q => q
      · intro z x1 y1 hz hz2 hv1
        refine ⟨_, rfl, ?_⟩
        dsimp only [dIfS, dOr, dNot, dTest]
        refine right_ok (.str z) _ _ _ ⟨by omega, hz2⟩ (fun Q q => q) ?_
        show (if (!true) = true then _ else _)
        rw [if_neg (by decide)]
        have sp : ∀ Q : List CA → List Sl → Prop, (∀ (z2 : Str) (x2 y2 : Int), z2.length ≤ 1000 → okC z2 → okH x2 y2 → Q [CA.d (.str z2)] [.scr (ns.map PyData.int), s1, .dat (.int ((0 : Int) + (k : Int))), .own none [.int x2, .int y2], .dat (.str z)]) → cD (dCall S_spoilt (cS 3 (cD (dVar 4) cNil))) cNil [.scr (ns.map PyData.int), s1, .dat (.int ((0 : Int) + (k : Int))), .own none [.int x1, .int y1], .dat (.str z)] Q := fun Q h => by
          dsimp only [cD]
          refine call_own1 (i := 3) (t := none) (cs := [.int x1, .int y1]) ?_ [.str z] ?_ ⟨x1, y1, z, rfl, hv1, ⟨hz, hz2⟩, ?_⟩ ?_
          · rfl
          · exact fun Q q => q
          · exact fun z2 x2 y2 a b c => ⟨_, rfl, h z2 x2 y2 a b c⟩
          · exact fun R R' h ⟨x, y, w, a, b, c, k⟩ => ⟨x, y, w, a, b, c, fun z x' y' e f g => h _ _ (k z x' y' e f g)⟩
        refine sp _ fun z2 x2 y2 a b c => ?_
        refine ⟨List.nodup_nil, .str z2, rfl, ⟨a, b⟩, rfl, ?_⟩
        show (if (!true) = true then _ else _)
        rw [if_neg (by decide)]
        refine right_ok (.list [.str z]) _ _ _ trivial (fun Q q => ⟨nat_le_size (by show 1 ≤ 16777216; decide), q⟩) ?_
        show (if (!true) = true then _ else _)
        rw [if_neg (by decide)]
        exact hN _ ⟨_, _, _, _, rfl⟩
      · exact fun R R' h ⟨x, y, a, b, k⟩ => ⟨x, y, a, b, fun z x' y' e f g => h _ _ (k z x' y' e f g)⟩
  · rintro d hd δ ⟨s1, rfl⟩ N hN
    have okd : okD d := by
      simp only [List.mem_cons, List.not_mem_nil, or_false] at hd
      rcases hd with rfl | rfl | rfl | rfl | rfl | rfl | rfl | rfl | rfl | rfl | rfl | rfl | rfl <;> first
        | trivial
        | exact ⟨by decide +kernel, by unfold okC; decide +kernel⟩
        | exact ⟨by rw [ok400.2]; decide, ok400.1⟩
        | exact ⟨by rw [ok401.2]; decide, ok401.1⟩
    dsimp only [dgName, dIfS, dNot, dTest]
    refine right_ok d _ _ _ okd (fun Q q => q) ?_
    exact hN _ ⟨_, rfl⟩
end
theorem all_mk {l : PySem.W.OpenLaw} {w : World} {K : PySem.W.Frag} {h : Heap} {mg : Str → Option Value} {fa f1 f2 f3 f4 f5 f6 f7 f8 f9 : Addr} (X : K.In h) (G : h.Ns mainGlobals mg) (hfa : mg "law" = some (.ref fa))
    {od1 an1 od2 an2 od3 an3 od4 an4 od5 an5 od6 an6 od7 an7 od8 an8 od9 an9 : Option Addr} {sl1 sl2 sl3 sl4 sl5 sl6 sl7 sl8 sl9 : Array (Option Value)} {oc1 kV1 dc1 pm1 cd1 ct1 oc2 kV2 dc2 pm2 cd2 ct2 oc3 kV3 dc3 pm3 cd3 ct3 oc4 kV4 dc4 pm4 cd4 ct4 oc5 kV5 dc5 pm5 cd5 ct5 oc6 kV6 dc6 pm6 cd6 ct6 oc7 kV7 dc7 pm7 cd7 ct7 oc8 kV8 dc8 pm8 cd8 ct8 oc9 kV9 dc9 pm9 cd9 ct9 : Value}
    (a1 : PySem.W.nsIn K mainGlobals "is_sign" = some (some (.ref f1))) (l1 : K.lookup f1 = some ⟨oc1, od1, .func (PySem.W.fnOf "is_sign" "is_sign" (defArgs s_is_sign) (defBody s_is_sign) (defScope s_is_sign) .none kV1 dc1 pm1 an1 cd1 ct1), sl1⟩) (c1 : PySem.W.codeIn K cd1 "is_sign" = true) (k1 : PySem.W.keepIn K (.ref f1) = true)
    (a2 : PySem.W.nsIn K mainGlobals "signs_ahead" = some (some (.ref f2))) (l2 : K.lookup f2 = some ⟨oc2, od2, .func (PySem.W.fnOf "signs_ahead" "signs_ahead" (defArgs s_signs_ahead) (defBody s_signs_ahead) (defScope s_signs_ahead) .none kV2 dc2 pm2 an2 cd2 ct2), sl2⟩) (c2 : PySem.W.codeIn K cd2 "signs_ahead" = true) (k2 : PySem.W.keepIn K (.ref f2) = true)
    (a3 : PySem.W.nsIn K mainGlobals "is_word" = some (some (.ref f3))) (l3 : K.lookup f3 = some ⟨oc3, od3, .func (PySem.W.fnOf "is_word" "is_word" (defArgs s_is_word) (defBody s_is_word) (defScope s_is_word) .none kV3 dc3 pm3 an3 cd3 ct3), sl3⟩) (c3 : PySem.W.codeIn K cd3 "is_word" = true) (k3 : PySem.W.keepIn K (.ref f3) = true)
    (a4 : PySem.W.nsIn K mainGlobals "_law_hand" = some (some (.ref f4))) (l4 : K.lookup f4 = some ⟨oc4, od4, .func (PySem.W.fnOf "_law_hand" "_law_hand" (defArgs s_law_hand) (defBody s_law_hand) (defScope s_law_hand) .none kV4 dc4 pm4 an4 cd4 ct4), sl4⟩) (c4 : PySem.W.codeIn K cd4 "_law_hand" = true) (k4 : PySem.W.keepIn K (.ref f4) = true)
    (a5 : PySem.W.nsIn K mainGlobals "_law_draw" = some (some (.ref f5))) (l5 : K.lookup f5 = some ⟨oc5, od5, .func (PySem.W.fnOf "_law_draw" "_law_draw" (defArgs s_law_draw) (defBody s_law_draw) (defScope s_law_draw) .none kV5 dc5 pm5 an5 cd5 ct5), sl5⟩) (c5 : PySem.W.codeIn K cd5 "_law_draw" = true) (k5 : PySem.W.keepIn K (.ref f5) = true)
    (a6 : PySem.W.nsIn K mainGlobals "_law_word" = some (some (.ref f6))) (l6 : K.lookup f6 = some ⟨oc6, od6, .func (PySem.W.fnOf "_law_word" "_law_word" (defArgs s_law_word) (defBody s_law_word) (defScope s_law_word) .none kV6 dc6 pm6 an6 cd6 ct6), sl6⟩) (c6 : PySem.W.codeIn K cd6 "_law_word" = true) (k6 : PySem.W.keepIn K (.ref f6) = true)
    (a7 : PySem.W.nsIn K mainGlobals "_law_spoilt" = some (some (.ref f7))) (l7 : K.lookup f7 = some ⟨oc7, od7, .func (PySem.W.fnOf "_law_spoilt" "_law_spoilt" (defArgs s_law_spoilt) (defBody s_law_spoilt) (defScope s_law_spoilt) .none kV7 dc7 pm7 an7 cd7 ct7), sl7⟩) (c7 : PySem.W.codeIn K cd7 "_law_spoilt" = true) (k7 : PySem.W.keepIn K (.ref f7) = true)
    (a8 : PySem.W.nsIn K mainGlobals "_law_right" = some (some (.ref f8))) (l8 : K.lookup f8 = some ⟨oc8, od8, .func (PySem.W.fnOf "_law_right" "_law_right" (defArgs s_law_right) (defBody s_law_right) (defScope s_law_right) .none kV8 dc8 pm8 an8 cd8 ct8), sl8⟩) (c8 : PySem.W.codeIn K cd8 "_law_right" = true) (k8 : PySem.W.keepIn K (.ref f8) = true)
    (a9 : PySem.W.nsIn K mainGlobals "law" = some (some (.ref f9))) (l9 : K.lookup f9 = some ⟨oc9, od9, .func (PySem.W.fnOf "law" "law" (defArgs s_law) (defBody s_law) (defScope s_law) .none kV9 dc9 pm9 an9 cd9 ct9), sl9⟩) (c9 : PySem.W.codeIn K cd9 "law" = true) (k9 : PySem.W.keepIn K (.ref f9) = true)
    (z_len : PySem.W.nsIn K mainGlobals "len" = some none)    (z_isinstance : PySem.W.nsIn K mainGlobals "isinstance" = some none)    (z_str : PySem.W.nsIn K mainGlobals "str" = some none)    (z_bool : PySem.W.nsIn K mainGlobals "bool" = some none)    (z_range : PySem.W.nsIn K mainGlobals "range" = some none)    (z_int : PySem.W.nsIn K mainGlobals "int" = some none)    (z_max : PySem.W.nsIn K mainGlobals "max" = some none)    (z_min : PySem.W.nsIn K mainGlobals "min" = some none)
    {tkW : Tok} (zW : PySem.W.nsIn K mainGlobals "WORD_MOST" = some (some (.int 400 tkW))) :
    ∃ fd : FuncData, (∀ (s : Shared) (v : Value), BindsTo s fd ⟨[v], []⟩ [("_law_script", v)]) ∧ ∀ base : Heap, K.In base → base.Ns mainGlobals mg → FnOk l.prog w K mg base CX0 5 fa fd ["_law_script"] (spLaw K) := by
  have e := hfa.symm.trans (PySem.W.mg_of X G a9)
  cases e
  have m_len := PySem.W.mg_none_of X G z_len
  have m_isinstance := PySem.W.mg_none_of X G z_isinstance
  have m_str := PySem.W.mg_none_of X G z_str
  have m_bool := PySem.W.mg_none_of X G z_bool
  have m_range := PySem.W.mg_none_of X G z_range
  have m_int := PySem.W.mg_none_of X G z_int
  have m_max := PySem.W.mg_none_of X G z_max
  have m_min := PySem.W.mg_none_of X G z_min
  have g_W : ∃ tk, mg "WORD_MOST" = some (.int 400 tk) := ⟨_, PySem.W.mg_of X G zW⟩
  have F1 := fun_mk (st := s_is_sign) l1 c1 k1
  have b1 := F1.binds (ps := ["thing"]) fun _ _ _ _ _ _ us hl => match us, hl with | [_], _ => rfl
  have F2 := fun_mk (st := s_signs_ahead) l2 c2 k2
  have b2 := F2.binds (ps := ["text"]) fun _ _ _ _ _ _ us hl => match us, hl with | [_], _ => rfl
  have F3 := fun_mk (st := s_is_word) l3 c3 k3
  have b3 := F3.binds (ps := ["thing"]) fun _ _ _ _ _ _ us hl => match us, hl with | [_], _ => rfl
  have F4 := fun_mk (st := s_law_hand) l4 c4 k4
  have b4 := F4.binds (ps := ["_law_script", "_law_k"]) fun _ _ _ _ _ _ us hl => match us, hl with | [_, _], _ => rfl
  have F5 := fun_mk (st := s_law_draw) l5 c5 k5
  have b5 := F5.binds (ps := ["_law_hand_here", "_law_many"]) fun _ _ _ _ _ _ us hl => match us, hl with | [_, _], _ => rfl
  have F6 := fun_mk (st := s_law_word) l6 c6 k6
  have b6 := F6.binds (ps := ["_law_hand_here"]) fun _ _ _ _ _ _ us hl => match us, hl with | [_], _ => rfl
  have F7 := fun_mk (st := s_law_spoilt) l7 c7 k7
  have b7 := F7.binds (ps := ["_law_hand_here", "_law_word_here"]) fun _ _ _ _ _ _ us hl => match us, hl with | [_, _], _ => rfl
  have F8 := fun_mk (st := s_law_right) l8 c8 k8
  have b8 := F8.binds (ps := ["_law_thing"]) fun _ _ _ _ _ _ us hl => match us, hl with | [_], _ => rfl
  have F9 := fun_mk (st := s_law) l9 c9 k9
  refine ⟨PySem.W.fnOf "law" "law" (defArgs s_law) (defBody s_law) (defScope s_law) .none kV9 dc9 pm9 an9 cd9 ct9, fun s v => .of_eq rfl, fun base _ _ => law_by ?_⟩
  have K1 : Kn l.prog w K mg base 1 "is_sign" S_is_sign := ⟨_, _, _, ok_is_sign m_len m_isinstance m_str m_bool m_range m_int m_max m_min g_W F1 , PySem.W.mg_of X G a1, k1, b1⟩
  have K2 : Kn l.prog w K mg base 2 "signs_ahead" S_signs := ⟨_, _, _, ok_signs_ahead m_len m_isinstance m_str m_bool m_range m_int m_max m_min g_W F2 K1, PySem.W.mg_of X G a2, k2, b2⟩
  have K3 : Kn l.prog w K mg base 3 "is_word" S_is_word := ⟨_, _, _, ok_is_word m_len m_isinstance m_str m_bool m_range m_int m_max m_min g_W F3 K2, PySem.W.mg_of X G a3, k3, b3⟩
  have K4 : KnN l.prog w K mg base 1 "_law_hand" S_hand := ⟨_, _, _, ok_law_hand m_len m_isinstance m_str m_bool m_range m_int m_max m_min g_W F4 , PySem.W.mg_of X G a4, k4, b4⟩
  have K5 : Kn l.prog w K mg base 1 "_law_draw" S_draw := ⟨_, _, _, ok_law_draw m_len m_isinstance m_str m_bool m_range m_int m_max m_min g_W F5 , PySem.W.mg_of X G a5, k5, b5⟩
  have K6 : Kn l.prog w K mg base 2 "_law_word" S_word := ⟨_, _, _, ok_law_word m_len m_isinstance m_str m_bool m_range m_int m_max m_min g_W F6 K5, PySem.W.mg_of X G a6, k6, b6⟩
  have K7 : Kn l.prog w K mg base 2 "_law_spoilt" S_spoilt := ⟨_, _, _, ok_law_spoilt m_len m_isinstance m_str m_bool m_range m_int m_max m_min g_W F7 K5, PySem.W.mg_of X G a7, k7, b7⟩
  have K8 : Kn l.prog w K mg base 4 "_law_right" S_right := ⟨_, _, _, ok_law_right m_len m_isinstance m_str m_bool m_range m_int m_max m_min g_W F8 K3, PySem.W.mg_of X G a8, k8, b8⟩
  exact ok_law (P := l.prog) (w := w) (base := base) m_len m_isinstance m_str m_bool m_range m_int m_max m_min g_W F9 K8 K4 K6 K7
theorem walk {l : PySem.W.OpenLaw} {q : Program} {loose : List Str} {XP : (Str → Option Value) → Heap → Prop} {YP : World → Heap → Prop} {d : DefRec} {K : Params → PySem.W.Frag} (hn : l.most = some 63) (hdf : d.params.defaults = [])
    (hY : ∀ (w : World) (h : Heap), YP w h → (K w.params).In h)
    (F : ∀ (w : World) (mg : Str → Option Value) (fa : Addr) (h : Heap), (K w.params).In h → h.Ns mainGlobals mg → mg d.name = some (.ref fa) →
      ∃ fd : FuncData, (∀ (s : Shared) (u : Value), BindsTo s fd ⟨[u], []⟩ [("_law_script", u)]) ∧ ∀ base : Heap, (K w.params).In base → base.Ns mainGlobals mg → FnOk l.prog w (K w.params) mg base CX0 5 fa fd ["_law_script"] (spLaw (K w.params))) :
    PySem.W.WalkO q loose XP YP l.row.toRowW d [] (fun f vs => PySem.call f vs) :=
  L2.walk_of (n := 63) (k := 5) (x := "_law_script") (CX := fun _ => CX0) (sp := fun w => spLaw (K w.params)) hn (by decide) hdf ⟨rfl, by decide, by decide⟩ hY F (fun _ _ a ns hl _ hS => ⟨a, ns, rfl, hS, hl, fun _ => rfl⟩) fun _ _ _ _ _ z => z
end K01
open PySem PySem.W PyProof.Rows
set_option maxRecDepth 100000 in
set_option maxHeartbeats 0 in
theorem PySem.Challenge.cw_triesgrow_k01_words_holds : PySem.Challenge.rw_triesgrow_k01_words.Holds := by
  w_on; o_law; k_head; (case hw => w_witness2)
  k_fill
  refine K01.walk (l := PySem.Challenge.rw_triesgrow_k01_words) rfl rfl (fun w h Y => PySem.W.kIn_of Y) ?F
  case F =>
    intro w mg fa h KX G hmg
    refine' K01.all_mk KX G hmg ?a1 ?l1 ?c1 ?k1 ?a2 ?l2 ?c2 ?k2 ?a3 ?l3 ?c3 ?k3 ?a4 ?l4 ?c4 ?k4 ?a5 ?l5 ?c5 ?k5 ?a6 ?l6 ?c6 ?k6 ?a7 ?l7 ?c7 ?k7 ?a8 ?l8 ?c8 ?k8 ?a9 ?l9 ?c9 ?k9 ?z_len ?z_isinstance ?z_str ?z_bool ?z_range ?z_int ?z_max ?z_min ?zW
    (case a1 => k_is)
    (case l1 => k_is)
    (case c1 => k_is)
    (case k1 => k_is)
    (case a2 => k_is)
    (case l2 => k_is)
    (case c2 => k_is)
    (case k2 => k_is)
    (case a3 => k_is)
    (case l3 => k_is)
    (case c3 => k_is)
    (case k3 => k_is)
    (case a4 => k_is)
    (case l4 => k_is)
    (case c4 => k_is)
    (case k4 => k_is)
    (case a5 => k_is)
    (case l5 => k_is)
    (case c5 => k_is)
    (case k5 => k_is)
    (case a6 => k_is)
    (case l6 => k_is)
    (case c6 => k_is)
    (case k6 => k_is)
    (case a7 => k_is)
    (case l7 => k_is)
    (case c7 => k_is)
    (case k7 => k_is)
    (case a8 => k_is)
    (case l8 => k_is)
    (case c8 => k_is)
    (case k8 => k_is)
    (case a9 => k_is)
    (case l9 => k_is)
    (case c9 => k_is)
    (case k9 => k_is)
    (case z_len => k_is)
    (case z_isinstance => k_is)
    (case z_str => k_is)
    (case z_bool => k_is)
    (case z_range => k_is)
    (case z_int => k_is)
    (case z_max => k_is)
    (case z_min => k_is)
    (case zW => k_is)
